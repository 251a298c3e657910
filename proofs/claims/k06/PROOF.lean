import PyProof.Rows.All
import Wide.All
import OpenK.AllK
import Wide.FinOn
import KE.KStateDown
import HandS.ForMost
import HandS.More
import HandS.Defaults
import HandS.Wide
import HandS.WideBits
import HandS.IsInst
import HandS.Conv
import HandS.HeadHook1
import HandS.HeadHook2
import HandS.SortInts
import HandS.Iter
import HandS.Zip
import HandS.Style
import HandS.Set
import HandS.Strs
import KE.GoesSet
import HandS.OwnEq
import PyProof.InstNe
import HandS.TryOnly
import KE.SortData
import HandS.SetFor
import PyProof.SetRoads
import PyProof.SetNew
import HandS.Dict
import PyProof.DictUpdate
import HandS.Ends
import HandS.Words
import HandS.WordsExc
import HandS.Head0
import HandS.Head1
import HandS.Head2
import HandS.HeadEnd
import PySem.Challenge.RW_sparecells_k06_whole_lots_and_what_they
set_option Elab.async false
set_option linter.all false
set_option maxRecDepth 100000
set_option maxHeartbeats 4000000
namespace Zm
open PySem PySem.Spec PyProof.Rows L2

/-! ### a def of the text, where it stands -/
structure DefAt (K : PySem.W.Frag) (mg : Str → Option Value) (x : Str) (ps : List Str) (st : Stmt) (f : Addr) (fd : FuncData) : Prop where
  fn : FunD K x x (defArgs st) (defBody st) (defScope st) [] [] f fd
  at_ : mg x = some (.ref f)
  bi : Binds K fd ps []
structure DefOk (P : Program) (w : World) (K : PySem.W.Frag) (mg : Str → Option Value) (base : Heap) (x : Str) (k : Nat) (ps : List Str) (sp : Sp) : Prop where
  ex : ∃ (f : Addr) (fd : FuncData), FnOk P w K mg base CX0 k f fd ps sp ∧ mg x = some (.ref f) ∧ PySem.W.keepIn K (.ref f) = true ∧ Binds K fd ps []
section
variable {P : Program} {w : World} {K : PySem.W.Frag} {mg : Str → Option Value} {base : Heap} {x : Str} {k : Nat} {ps N : List Str} {sp : Sp} {st : Stmt} {f : Addr} {fd : FuncData}
theorem DefAt.ok (F : DefAt K mg x ps st f fd) (S : FnScope N ps (defScope st)) (len : ∀ vs H Q E, sp vs H Q E → vs.length = ps.length)
    (hbody : ∀ (cdv : Value) (A : Around) (outer : List Env) (s : Shared) (H : Hp) (vs : List V) (Q : VK) (E : XK), Room k (A.deeper (envOfC x (defScope st) s.heap.objs.size f cdv)) → sp vs H Q E →
      ∃ t, PSs (cxOf CX0 P w K mg base N x (defScope st) f cdv A outer s H E).nox (defBody st) t ∧ t { nx := fun _ H' => Q .non H', rt := Q } (start N vs) H) : DefOk P w K mg base x (k + 1) ps sp := by
  refine ⟨f, fd, F.fn.ok S len fun cdv A outer s H vs Q E hr h => ?_, F.at_, F.fn.kp, F.bi⟩
  obtain ⟨t, h1, h2⟩ := hbody cdv A outer s H vs Q E hr h
  exact ⟨t, PSs.nox h1, h2⟩
theorem DefOk.mono {j : Nat} (D : DefOk P w K mg base x j ps sp) (h : j ≤ k) : DefOk P w K mg base x k ps sp := by
  obtain ⟨f, fd, F, a, b, c⟩ := D.ex
  exact ⟨f, fd, F.mono h, a, b, c⟩
end
section
variable {X : Cx} {k : Nat} {ps : List Str} {sp : Sp} {x : Str} {p pos : Pos} {e : Expr} {es : List Expr} {t : TA}
theorem pe_def (D : DefOk X.prog X.w X.K X.mg X.base x k ps sp) (hr : Room k X.A) (ha : PA X (e :: es) t) (hg : Gl X x := by rfl) (hdb : (x == ("__debug__" : Str)) = false := by decide)
    (he : starEach (e :: es) X.env = (false, eval e X.env) :: starEach es X.env := by rfl) (hpl : (backTo pos (starEach es X.env)).any (·.1) = false := by rfl) (hx : Passes CX0 X E0 := by exact pass0) :
    PE X (.Call (.Name x p) (e :: es) [] pos) (tCall sp [] E0 t) := by
  obtain ⟨f, fd, F, a, b, c⟩ := D.ex
  exact pe_call F hr hg a b c .nil hx ha hdb he hpl
theorem pe_def0 (D : DefOk X.prog X.w X.K X.mg X.base x k ps sp) (hr : Room k X.A) (hg : Gl X x := by rfl) (hdb : (x == ("__debug__" : Str)) = false := by decide) (hx : Passes CX0 X E0 := by exact pass0) :
    PE X (.Call (.Name x p) [] [] pos) (tCall sp [] E0 tNil) := by
  obtain ⟨f, fd, F, a, b, c⟩ := D.ex
  exact pe_call0 F hr hg a b c .nil hx hdb
/-- ints to a power, the result below 2 ^ 27 bits -/
theorem op_powW : OpR X (binaryOp .Pow) (rI (fun i j => 0 ≤ j ∧ (Builtin.Int.intBits i : Int) * j ≤ 2 ^ 27) fun i j => .int (i ^ j.toNat)) := opI fun _ _ _ _ _ _ _ hc q => pow_int hc.1 hc.2 q
end

/-! ### the names of the built-ins that the text uses are free -/
def bNames : List Str := ["len", "sum", "max", "min", "int", "range", "list", "tuple", "dict", "set", "sorted", "all", "any", "isinstance", "enumerate", "zip", "reversed", "bool", "str", "repr", "ValueError", "abs"]
def BFree (mg : Str → Option Value) : Prop := ∀ x ∈ bNames, mg x = none

/-! ### the law's draws: a purse is a list of four ints at p, the third counts the draws -/
def PurseIs (n : Nat) (H : Hp) (p : Addr) : Prop := ∃ a b c d : Int, H p = some (.lst [.int a, .int b, .int c, .int d]) ∧ 0 ≤ a ∧ a < 10 ^ 480 ∧ 0 ≤ b ∧ b < 2147483629 ∧ 0 ≤ c ∧ c ≤ n ∧ d = 0
theorem PurseIs.mono {n m : Nat} {H : Hp} {p : Addr} (h : PurseIs n H p) (l : n ≤ m) : PurseIs m H p := by
  obtain ⟨a, b, c, d, h0, h1, h2, h3, h4, h5, h6, h7⟩ := h
  exact ⟨a, b, c, d, h0, h1, h2, h3, h4, h5, by omega, h7⟩
/-- all that was tracked but at p stands -/
def But (p : Addr) (H H' : Hp) : Prop := ∀ a o, a ≠ p → H a = some o → H' a = some o
theorem But.refl (p : Addr) (H : Hp) : But p H H := fun _ _ _ h => h
theorem But.trans {p : Addr} {H H1 H2 : Hp} (a : But p H H1) (b : But p H1 H2) : But p H H2 := fun x o n h => b x o n (a x o n h)
theorem But.of {p : Addr} {H H' : Hp} (h : Same H H') : But p H H' := fun a o _ e => h a o e

def spPurse (K : PySem.W.Frag) : Sp := fun vs H Q _ => ∃ (a : Addr) (ns : List Int), vs = [.ref a, .int 0] ∧ SqL K H a (ns.map V.int) ∧
  ∀ p H', Same H H' → H p = none → PurseIs 0 H' p → Q (.ref p) H'
def spMixed : Sp := fun vs _H Q _ => ∃ a b c : Int, vs = [.int a, .int b, .int c] ∧ (0 ≤ a ∧ a < 2 ^ 40) ∧ (0 ≤ b ∧ b < 2 ^ 60) ∧ c = 0 ∧ ∀ i : Int, 0 ≤ i → i < 2147483587 → Q (.int i) _H
def spDraw : Sp := fun vs H Q _ => ∃ (p : Addr) (n : Nat) (m : Int), vs = [.ref p, .int m] ∧ PurseIs n H p ∧ n ≤ 1000000 ∧ 0 < m ∧ m < 1000000 ∧
  ∀ (i : Int) (H' : Hp), 0 ≤ i → i < m → But p H H' → PurseIs (n + 1) H' p → Q (.int i) H'
end Zm


set_option Elab.async false
set_option linter.all false
set_option maxRecDepth 100000
set_option maxHeartbeats 4000000
set_option autoImplicit false
namespace Zm
open PySem PySem.Spec L2

/-! ### data: what a value stands for, whatever its addresses -/
inductive D where
  | non | bl (b : Bool) | int (i : Int) | str (x : Str)
  | lst (ds : List D) | tup (ds : List D) | dic (kvs : List (Key × D))
  | rcp (m : Int) (rows : List (List Int))
  | raw (v : V)
  | dtp (kvs : List (List Int × D))

abbrev sMany : Str := "_many"
abbrev sNeeds : Str := "_needs"
def fsR (m : Int) (t : Addr) : List (Str × V) := [(sMany, .int m), (sNeeds, .ref t)]
/-- the tuple of tuples of a recipe's needs -/
def RowsT (K : PySem.W.Frag) (H : Hp) : List (List Int) → List V → Prop
  | [], xs => xs = []
  | r :: rs, xs => ∃ a ys, xs = .ref a :: ys ∧ H a = some (.tup (r.map V.int)) ∧ RowsT K H rs ys
mutual
/-- v stands for d; C: where the class of recipes stands -/
def Dat (K : PySem.W.Frag) (C : Addr) (H : Hp) : D → V → Prop
  | .non, v => v = .non
  | .bl b, v => v = .bl b
  | .int i, v => v = .int i
  | .str x, v => v = .str x
  | .lst ds, v => ∃ a xs, v = .ref a ∧ H a = some (.lst xs) ∧ Dats K C H ds xs
  | .tup ds, v => ∃ a xs, v = .ref a ∧ H a = some (.tup xs) ∧ Dats K C H ds xs
  | .dic kvs, v => ∃ a kws, v = .ref a ∧ H a = some (.dK kws) ∧ DatK K C H kvs kws
  | .rcp m rows, v => ∃ a dx t xs, v = .ref a ∧ H a = some (.ins C dx (fsR m t)) ∧ H t = some (.tup xs) ∧ RowsT K H rows xs
  | .raw w, v => v = w
  | .dtp kvs, v => ∃ a kws, v = .ref a ∧ H a = some (.dT kws) ∧ DatT K C H kvs kws
def Dats (K : PySem.W.Frag) (C : Addr) (H : Hp) : List D → List V → Prop
  | [], xs => xs = []
  | d :: ds, xs => ∃ x ys, xs = x :: ys ∧ Dat K C H d x ∧ Dats K C H ds ys
def DatK (K : PySem.W.Frag) (C : Addr) (H : Hp) : List (Key × D) → List (Key × V) → Prop
  | [], xs => xs = []
  | (k, d) :: ds, xs => ∃ x ys, xs = (k, x) :: ys ∧ Dat K C H d x ∧ DatK K C H ds ys
/-- the entries of a dict whose keys are tuples of ints -/
def DatT (K : PySem.W.Frag) (C : Addr) (H : Hp) : List (List Int × D) → List (List Key × V) → Prop
  | [], xs => xs = []
  | (k, d) :: ds, xs => ∃ x ys, xs = (k.map Sum.inl, x) :: ys ∧ Dat K C H d x ∧ DatT K C H ds ys
end
section
variable {K : PySem.W.Frag} {C : Addr} {H H' : Hp}
theorem same_rd (e : Same H H') {a : Addr} {u : HO} (h : Rd H a u) : Rd H' a u := by
  rcases h with h | ⟨o, h⟩
  · exact .inl (e _ _ h)
  · exact .inr ⟨o, e _ _ h⟩
theorem same_l (e : Same H H') {a : Addr} {xs : List V} (h : SqL K H a xs) : SqL K H' a xs := e.seq h
theorem same_t (e : Same H H') {a : Addr} {xs : List V} (h : SqT K H a xs) : SqT K H' a xs := by
  rcases h with h | h
  · exact .inl (same_rd e h)
  · exact .inr h
theorem RowsT.same (e : Same H H') : ∀ (rs : List (List Int)) (xs : List V), RowsT K H rs xs → RowsT K H' rs xs
  | [], _, h => h
  | _ :: rs, _, h => by
    obtain ⟨a, ys, h1, h2, h3⟩ := h
    exact ⟨a, ys, h1, e _ _ h2, RowsT.same e rs ys h3⟩
mutual
theorem Dat.same (e : Same H H') : ∀ (d : D) (v : V), Dat K C H d v → Dat K C H' d v
  | .non, _, h => h
  | .bl _, _, h => h
  | .int _, _, h => h
  | .str _, _, h => h
  | .raw _, _, h => h
  | .dtp ds, v, h => by
    unfold Dat at h ⊢
    obtain ⟨a, xs, h1, h2, h3⟩ := h
    exact ⟨a, xs, h1, e _ _ h2, DatT.same e ds xs h3⟩
  | .lst ds, v, h => by
    unfold Dat at h ⊢
    obtain ⟨a, xs, h1, h2, h3⟩ := h
    exact ⟨a, xs, h1, e _ _ h2, Dats.same e ds xs h3⟩
  | .tup ds, v, h => by
    unfold Dat at h ⊢
    obtain ⟨a, xs, h1, h2, h3⟩ := h
    exact ⟨a, xs, h1, e _ _ h2, Dats.same e ds xs h3⟩
  | .dic ds, v, h => by
    unfold Dat at h ⊢
    obtain ⟨a, xs, h1, h2, h3⟩ := h
    exact ⟨a, xs, h1, e _ _ h2, DatK.same e ds xs h3⟩
  | .rcp m rows, v, h => by
    unfold Dat at h ⊢
    obtain ⟨a, dx, t, xs, h1, h2, h3, h4⟩ := h
    exact ⟨a, dx, t, xs, h1, e _ _ h2, e _ _ h3, RowsT.same e rows xs h4⟩
theorem Dats.same (e : Same H H') : ∀ (d : List D) (v : List V), Dats K C H d v → Dats K C H' d v
  | [], _, h => h
  | d :: ds, v, h => by
    unfold Dats at h ⊢
    obtain ⟨x, ys, h1, h2, h3⟩ := h
    exact ⟨x, ys, h1, Dat.same e d x h2, Dats.same e ds ys h3⟩
theorem DatK.same (e : Same H H') : ∀ (d : List (Key × D)) (v : List (Key × V)), DatK K C H d v → DatK K C H' d v
  | [], _, h => h
  | (k, d) :: ds, v, h => by
    unfold DatK at h ⊢
    obtain ⟨x, ys, h1, h2, h3⟩ := h
    exact ⟨x, ys, h1, Dat.same e d x h2, DatK.same e ds ys h3⟩
theorem DatT.same (e : Same H H') : ∀ (d : List (List Int × D)) (v : List (List Key × V)), DatT K C H d v → DatT K C H' d v
  | [], _, h => h
  | (k, d) :: ds, v, h => by
    unfold DatT at h ⊢
    obtain ⟨x, ys, h1, h2, h3⟩ := h
    exact ⟨x, ys, h1, Dat.same e d x h2, DatT.same e ds ys h3⟩
end
theorem Dats.length : ∀ {ds : List D} {xs : List V}, Dats K C H ds xs → xs.length = ds.length
  | [], _, h => by
    unfold Dats at h
    rw [h]
    rfl
  | d :: ds, v, h => by
    unfold Dats at h
    obtain ⟨x, ys, h1, h2, h3⟩ := h
    rw [h1, List.length_cons, List.length_cons, Dats.length h3]
theorem Dats.get : ∀ {ds : List D} {xs : List V} {i : Nat} {d : D}, Dats K C H ds xs → ds[i]? = some d → ∃ x, xs[i]? = some x ∧ Dat K C H d x
  | [], _, _, _, h, e => by simp at e
  | d :: ds, v, i, d', h, e => by
    unfold Dats at h
    obtain ⟨x, ys, h1, h2, h3⟩ := h
    subst h1
    cases i with
    | zero =>
      have q : d = d' := by simpa using e
      subst q
      exact ⟨x, rfl, h2⟩
    | succ j =>
      obtain ⟨y, q1, q2⟩ := Dats.get (i := j) h3 (by simpa using e)
      exact ⟨y, by simpa using q1, q2⟩
theorem Dats.get' : ∀ {ds : List D} {xs : List V} {i : Nat} {x : V}, Dats K C H ds xs → xs[i]? = some x → ∃ d, ds[i]? = some d ∧ Dat K C H d x
  | ds, xs, i, x, h, e => by
    have hl := h.length
    have hi : i < ds.length := by
      rw [← hl]
      exact (List.getElem?_eq_some_iff.mp e).1
    obtain ⟨y, q1, q2⟩ := h.get (i := i) (d := ds[i]) (by simp [hi])
    rw [e] at q1
    cases q1
    exact ⟨_, by simp [hi], q2⟩
theorem Dats.append : ∀ {ds es : List D} {xs ys : List V}, Dats K C H ds xs → Dats K C H es ys → Dats K C H (ds ++ es) (xs ++ ys)
  | [], es, xs, ys, h, g => by
    unfold Dats at h
    subst h
    exact g
  | d :: ds, es, v, ys, h, g => by
    unfold Dats at h
    obtain ⟨x, zs, h1, h2, h3⟩ := h
    subst h1
    show Dats K C H (d :: (ds ++ es)) (x :: (zs ++ ys))
    unfold Dats
    exact ⟨x, _, rfl, h2, h3.append g⟩
theorem Dats.one {d : D} {x : V} (h : Dat K C H d x) : Dats K C H [d] [x] := by
  unfold Dats
  exact ⟨x, [], rfl, h, by unfold Dats; rfl⟩
theorem Dats.nil : Dats K C H [] [] := by
  unfold Dats
  rfl
theorem Dats.cons {d : D} {x : V} {ds : List D} {xs : List V} (h : Dat K C H d x) (g : Dats K C H ds xs) : Dats K C H (d :: ds) (x :: xs) := by
  unfold Dats
  exact ⟨x, xs, rfl, h, g⟩
theorem Dats.take (n : Nat) : ∀ {ds : List D} {xs : List V}, Dats K C H ds xs → Dats K C H (ds.take n) (xs.take n) := by
  induction n with
  | zero =>
    intro ds xs h
    rw [List.take_zero, List.take_zero]
    exact .nil
  | succ n ih =>
    intro ds xs h
    cases ds with
    | nil =>
      unfold Dats at h
      subst h
      rw [List.take_nil, List.take_nil]
      exact .nil
    | cons d ds =>
      unfold Dats at h
      obtain ⟨x, zs, h1, h2, h3⟩ := h
      subst h1
      rw [List.take_succ_cons, List.take_succ_cons]
      exact .cons h2 (ih h3)
theorem Dats.drop (n : Nat) : ∀ {ds : List D} {xs : List V}, Dats K C H ds xs → Dats K C H (ds.drop n) (xs.drop n) := by
  induction n with
  | zero =>
    intro ds xs h
    rw [List.drop_zero, List.drop_zero]
    exact h
  | succ n ih =>
    intro ds xs h
    cases ds with
    | nil =>
      unfold Dats at h
      subst h
      rw [List.drop_nil, List.drop_nil]
      exact .nil
    | cons d ds =>
      unfold Dats at h
      obtain ⟨x, zs, h1, h2, h3⟩ := h
      subst h1
      rw [List.drop_succ_cons, List.drop_succ_cons]
      exact ih h3
/-- lists of ints -/
def dI (ns : List Int) : List D := ns.map D.int
theorem dats_ints : ∀ {ns : List Int} {xs : List V}, Dats K C H (dI ns) xs ↔ xs = ns.map V.int
  | [], xs => by
    show Dats K C H [] xs ↔ xs = []
    unfold Dats
    exact Iff.rfl
  | n :: ns, xs => by
    show Dats K C H (.int n :: dI ns) xs ↔ xs = V.int n :: ns.map V.int
    unfold Dats
    constructor
    · rintro ⟨x, ys, h1, h2, h3⟩
      unfold Dat at h2
      rw [h1, h2, dats_ints.mp h3]
    · intro h
      exact ⟨_, _, h, by unfold Dat; rfl, dats_ints.mpr rfl⟩
end
/-! ### objects that are one's own: hidden from the data -/
def hid (O : Addr → Bool) (H : Hp) : Hp := fun a => if O a = true then none else H a
/-- no tuple -/
def NoT : HO → Prop
  | .tup _ => False
  | _ => True
/-- what is one's own is there, and is no tuple -/
structure OIn (O : Addr → Bool) (H : Hp) : Prop where
  ne : ∀ a, O a = true → H a ≠ none
  nt : ∀ a o, O a = true → H a = some o → NoT o
instance {O : Addr → Bool} {H : Hp} : CoeFun (OIn O H) (fun _ => ∀ a, O a = true → H a ≠ none) := ⟨OIn.ne⟩
section
variable {O : Addr → Bool} {H H' : Hp}
theorem hid_same : Same (hid O H) H := fun a o e => by
  unfold hid at e
  split at e
  · cases e
  · exact e
theorem same_hid (s : Same H H') : Same (hid O H) (hid O H') := fun a o e => by
  unfold hid at e ⊢
  split at e
  · cases e
  · rename_i h
    rw [if_neg h]
    exact s a o e
theorem OIn.same (s : Same H H') (h : OIn O H) : OIn O H' := by
  refine ⟨fun a e q => ?_, fun a o e q => ?_⟩
  · have h1 := h a e
    cases r : H a with
    | none => exact h1 r
    | some o =>
      rw [s a o r] at q
      cases q
  · have h1 := h a e
    cases r : H a with
    | none => exact absurd r h1
    | some u =>
      rw [s a u r] at q
      rw [← Option.some.inj q]
      exact h.nt a u e r
theorem hid_new {p : Addr} {o : HO} (h : OIn O H) (n : H p = none) : hid O (upd H p o) p = some o := by
  unfold hid
  rw [if_neg (fun q => h p q n), upd_same]
theorem same_new {p : Addr} {o : HO} (h : H p = none) : Same H (upd H p o) := fun b u e => by
  rw [upd_ne (ne_of_none e h)]
  exact e
end
/-! ### what is known of the slots -/
abbrev Dl : Type := List (Option D)
def EnvR (K : PySem.W.Frag) (C : Addr) (H : Hp) (σ : L2.St) (δ : Dl) : Prop := σ.length = δ.length ∧ ∀ (i : Nat) (d : D), δ[i]? = some (some d) → ∃ v, σ[i]? = some (some v) ∧ Dat K C H d v
section
variable {K : PySem.W.Frag} {C : Addr} {H H' : Hp} {σ : L2.St} {δ : Dl}
theorem EnvR.same (e : Same H H') (h : EnvR K C H σ δ) : EnvR K C H' σ δ := ⟨h.1, fun i d q => by
  obtain ⟨v, a, b⟩ := h.2 i d q
  exact ⟨v, a, b.same e⟩⟩
theorem EnvR.set {v : V} {d : D} (i : Nat) (h : EnvR K C H σ δ) (hv : Dat K C H d v) : EnvR K C H (σ.set i (some v)) (δ.set i (some d)) := ⟨by rw [List.length_set, List.length_set, h.1], fun j e q => by
  by_cases hj : i = j
  · subst hj
    rw [List.getElem?_set] at q
    split at q
    · split at q
      · have q' : d = e := by simpa using q
        subst q'
        exact ⟨v, by rw [List.getElem?_set_self (by rw [h.1]; assumption)], hv⟩
      · cases q
    · exact absurd rfl (by assumption)
  · rw [List.getElem?_set_ne hj] at q ⊢
    exact h.2 j e q⟩
theorem EnvR.unset (v : Option V) (i : Nat) (h : EnvR K C H σ δ) : EnvR K C H (σ.set i v) (δ.set i none) := ⟨by rw [List.length_set, List.length_set, h.1], fun j e q => by
  by_cases hj : i = j
  · subst hj
    rw [List.getElem?_set] at q
    split at q
    · split at q <;> cases q
    · exact absurd rfl (by assumption)
  · rw [List.getElem?_set_ne hj] at q ⊢
    exact h.2 j e q⟩
def wipeD (δ : Dl) : List Nat → Dl
  | [] => δ
  | v :: vs => (wipeD δ vs).set v none
theorem EnvR.wipe (h : EnvR K C H σ δ) : ∀ vs : List Nat, EnvR K C H (L2.wipe σ vs) (wipeD δ vs)
  | [] => h
  | v :: vs => by
    unfold L2.wipe wipeD
    exact EnvR.unset none v (h.wipe vs)
theorem EnvR.none (σ : L2.St) : EnvR K C H σ (σ.map fun _ => Option.none) := ⟨by rw [List.length_map], fun i d q => by
  rw [List.getElem?_map] at q
  cases e : σ[i]? with
  | none =>
    rw [e] at q
    cases q
  | some o =>
    rw [e] at q
    cases q⟩
end
/-- where an evaluation stands -/
structure At (K : PySem.W.Frag) (C : Addr) (O : Addr → Bool) (H : Hp) (σ : L2.St) (δ : Dl) : Prop where
  own : OIn O H
  env : EnvR K C (hid O H) σ δ
theorem At.same {K : PySem.W.Frag} {C : Addr} {O : Addr → Bool} {H H' : Hp} {σ : L2.St} {δ : Dl} (n : At K C O H σ δ) (s : Same H H') : At K C O H' σ δ := ⟨n.own.same s, n.env.same (same_hid s)⟩
/-! ### evaluation, by data -/
section
variable (K : PySem.W.Frag) (C : Addr)
def EvD (te : TE) (δ : Dl) (d : D) : Prop := ∀ O σ H, At K C O H σ δ → ∀ Q : VK, (∀ v H', Same H H' → Dat K C (hid O H') d v → Q v H') → te σ H Q
/-- .. a new object -/
def EvN (te : TE) (δ : Dl) (d : D) : Prop := ∀ O σ H, At K C O H σ δ → ∀ Q : VK, (∀ p H', Same H H' → H p = none → Dat K C (hid O H') d (.ref p) → Q (.ref p) H') → te σ H Q
def EvT (tt : TT) (δ : Dl) (b : Bool) : Prop := ∀ O σ H, At K C O H σ δ → ∀ Q : Bool → Hp → Prop, (∀ H', Same H H' → Q b H') → tt σ H Q
def EvA (ta : TA) (δ : Dl) (ds : List D) : Prop := ∀ O σ H, At K C O H σ δ → ∀ Q : List V → Hp → Prop, (∀ vs H', Same H H' → Dats K C (hid O H') ds vs → Q vs H') → ta σ H Q
def EvO (to : TO) (δ : Dl) (o : Option Int) : Prop := ∀ O σ H, At K C O H σ δ → ∀ Q : Option Int → Hp → Prop, (∀ H', Same H H' → Q o H') → to σ H Q
/-- an operation on two values, one value, a call -/
def R2D (r : R2) (d e z : D) : Prop := ∀ O H x y, OIn O H → Dat K C (hid O H) d x → Dat K C (hid O H) e y → ∀ Q : VK, (∀ v H', Same H H' → Dat K C (hid O H') z v → Q v H') → r x y H Q
def R2N (r : R2) (d e z : D) : Prop := ∀ O H x y, OIn O H → Dat K C (hid O H) d x → Dat K C (hid O H) e y → ∀ Q : VK, (∀ p H', Same H H' → H p = none → Dat K C (hid O H') z (.ref p) → Q (.ref p) H') → r x y H Q
def R1D (r : V → Hp → VK → Prop) (d z : D) : Prop := ∀ O H x, OIn O H → Dat K C (hid O H) d x → ∀ Q : VK, (∀ v H', Same H H' → Dat K C (hid O H') z v → Q v H') → r x H Q
def RCD (r : List V → Hp → VK → Prop) (ds : List D) (z : D) : Prop := ∀ O H vs, OIn O H → Dats K C (hid O H) ds vs → ∀ Q : VK, (∀ v H', Same H H' → Dat K C (hid O H') z v → Q v H') → r vs H Q
def RCN (r : List V → Hp → VK → Prop) (ds : List D) (z : D) : Prop := ∀ O H vs, OIn O H → Dats K C (hid O H) ds vs → ∀ Q : VK, (∀ p H', Same H H' → H p = none → Dat K C (hid O H') z (.ref p) → Q (.ref p) H') → r vs H Q
/-- what a def promises: a function of its arguments' data -/
def SpD (pre : List D → Prop) (f : List D → D) (n : Nat) : Sp := fun vs H Q _ => vs.length = n ∧ ∃ O ds, OIn O H ∧ Dats K C (hid O H) ds vs ∧ pre ds ∧ ∀ v H', Same H H' → Dat K C (hid O H') (f ds) v → Q v H'
/-- .. a new object -/
def SpN (pre : List D → Prop) (f : List D → D) (n : Nat) : Sp := fun vs H Q _ => vs.length = n ∧ ∃ O ds, OIn O H ∧ Dats K C (hid O H) ds vs ∧ pre ds ∧ ∀ p H', Same H H' → H p = none → Dat K C (hid O H') (f ds) (.ref p) → Q (.ref p) H'
end
section
variable {K : PySem.W.Frag} {C : Addr} {δ : Dl} {ta tb te : TE} {t u : TT} {d e z : D} {r : R2} {ds : List D}
theorem EvN.toD (h : EvN K C te δ d) : EvD K C te δ d := fun O σ H n Q q => h O σ H n Q fun p H' s _ hd => q _ _ s hd
theorem ev_var {i : Nat} (h : δ[i]? = some (some d)) : EvD K C (tVar i) δ d := fun O σ H n Q q => by
  obtain ⟨v, a, b⟩ := n.env.2 i d h
  exact ⟨v, a, q v H (Same.refl H) b⟩
theorem ev_int {i : Int} : EvD K C (tC (.int i)) δ (.int i) := fun O σ H n Q q => q _ H (Same.refl H) (by unfold Dat; rfl)
theorem ev_bl {b : Bool} : EvD K C (tC (.bl b)) δ (.bl b) := fun O σ H n Q q => q _ H (Same.refl H) (by unfold Dat; rfl)
theorem ev_str {x : Str} : EvD K C (tC (.str x)) δ (.str x) := fun O σ H n Q q => q _ H (Same.refl H) (by unfold Dat; rfl)
theorem ev_non : EvD K C (tC .non) δ .non := fun O σ H n Q q => q _ H (Same.refl H) (by unfold Dat; rfl)
theorem ev_raw {v : V} : EvD K C (tC v) δ (.raw v) := fun O σ H n Q q => q _ H (Same.refl H) (by unfold Dat; rfl)
theorem ev_op (ha : EvD K C ta δ d) (hb : EvD K C tb δ e) (hr : R2D K C r d e z) : EvD K C (tOp r ta tb) δ z := fun O σ H n Q q =>
  ha O σ H n _ fun v H1 s1 d1 => hb O σ H1 (n.same s1) _ fun w H2 s2 d2 => hr O H2 v w (n.same (s1.trans s2)).own (d1.same (same_hid s2)) d2 Q fun x H3 s3 d3 => q x H3 ((s1.trans s2).trans s3) d3
theorem back_none {H H' : Hp} {p : Addr} (s : Same H H') (h : H' p = none) : H p = none := s.free h
theorem en_op (ha : EvD K C ta δ d) (hb : EvD K C tb δ e) (hr : R2N K C r d e z) : EvN K C (tOp r ta tb) δ z := fun O σ H n Q q =>
  ha O σ H n _ fun v H1 s1 d1 => hb O σ H1 (n.same s1) _ fun w H2 s2 d2 => hr O H2 v w (n.same (s1.trans s2)).own (d1.same (same_hid s2)) d2 Q fun p H3 s3 hp d3 => q p H3 ((s1.trans s2).trans s3) (back_none (s1.trans s2) hp) d3
theorem ev_un {r : V → Hp → VK → Prop} (ha : EvD K C ta δ d) (hr : R1D K C r d z) : EvD K C (tUn r ta) δ z := fun O σ H n Q q =>
  ha O σ H n _ fun v H1 s1 d1 => hr O H1 v (n.same s1).own d1 Q fun x H3 s3 d3 => q x H3 (s1.trans s3) d3
theorem ea_nil : EvA K C tNil δ [] := fun O σ H n Q q => q [] H (Same.refl H) .nil
theorem ea_cons {tr : TA} (ha : EvD K C ta δ d) (hr : EvA K C tr δ ds) : EvA K C (tCons ta tr) δ (d :: ds) := fun O σ H n Q q =>
  ha O σ H n _ fun v H1 s1 d1 => hr O σ H1 (n.same s1) _ fun vs H2 s2 d2 => q _ _ (s1.trans s2) (.cons (d1.same (same_hid s2)) d2)
theorem ev_cb {r : List V → Hp → VK → Prop} {tr : TA} (ha : EvA K C tr δ ds) (hr : RCD K C r ds z) : EvD K C (tCB r tr) δ z := fun O σ H n Q q =>
  ha O σ H n _ fun vs H1 s1 d1 => hr O H1 vs (n.same s1).own d1 Q fun x H3 s3 d3 => q x H3 (s1.trans s3) d3
theorem en_cb {r : List V → Hp → VK → Prop} {tr : TA} (ha : EvA K C tr δ ds) (hr : RCN K C r ds z) : EvN K C (tCB r tr) δ z := fun O σ H n Q q =>
  ha O σ H n _ fun vs H1 s1 d1 => hr O H1 vs (n.same s1).own d1 Q fun p H3 s3 hp d3 => q p H3 (s1.trans s3) (back_none s1 hp) d3
theorem dat_lst {H : Hp} {p : Addr} {xs : List V} (h : H p = some (.lst xs)) (g : Dats K C H ds xs) : Dat K C H (.lst ds) (.ref p) := by
  unfold Dat
  exact ⟨p, xs, rfl, h, g⟩
theorem dat_tup {H : Hp} {p : Addr} {xs : List V} (h : H p = some (.tup xs)) (g : Dats K C H ds xs) : Dat K C H (.tup ds) (.ref p) := by
  unfold Dat
  exact ⟨p, xs, rfl, h, g⟩
/-- a new list of such items -/
theorem new_lst {O : Addr → Bool} {H : Hp} {p : Addr} {xs : List V} (o : OIn O H) (hp : H p = none) (g : Dats K C (hid O H) ds xs) : Dat K C (hid O (upd H p (.lst xs))) (.lst ds) (.ref p) :=
  dat_lst (hid_new o hp) (g.same (same_hid (same_new hp)))
theorem new_tup {O : Addr → Bool} {H : Hp} {p : Addr} {xs : List V} (o : OIn O H) (hp : H p = none) (g : Dats K C (hid O H) ds xs) : Dat K C (hid O (upd H p (.tup xs))) (.tup ds) (.ref p) :=
  dat_tup (hid_new o hp) (g.same (same_hid (same_new hp)))
theorem en_lst {tr : TA} (ha : EvA K C tr δ ds) (hl : ds.length ≤ 100000) : EvN K C (tLst tr) δ (.lst ds) := fun O σ H n Q q =>
  ha O σ H n _ fun vs H1 s1 d1 => ⟨by rw [d1.length]; exact Nat.le_trans hl (by decide), fun p hp => q p _ (s1.trans (same_new hp)) (back_none s1 hp) (new_lst (n.same s1).own hp d1)⟩
theorem en_tup {tr : TA} (ha : EvA K C tr δ ds) (hl : ds.length ≤ 100000) : EvN K C (tTup tr) δ (.tup ds) := fun O σ H n Q q =>
  ha O σ H n _ fun vs H1 s1 d1 => ⟨by rw [d1.length]; exact Nat.le_trans hl (by decide), fun p hp => q p _ (s1.trans (same_new hp)) (back_none s1 hp) (new_tup (n.same s1).own hp d1)⟩
theorem ev_call {pre : List D → Prop} {f : List D → D} {m : Nat} {E : XK} {tr : TA} (ha : EvA K C tr δ ds) (hn : ds.length = m) (hp : pre ds) : EvD K C (tCall (SpD K C pre f m) [] E tr) δ (f ds) := fun O σ H n Q q =>
  ha O σ H n _ fun vs H1 s1 d1 => by
    show SpD K C pre f m (vs ++ []) H1 Q E
    rw [List.append_nil]
    exact ⟨by rw [d1.length, hn], O, ds, (n.same s1).own, d1, hp, fun v H2 s2 d2 => q v H2 (s1.trans s2) d2⟩
theorem en_call {pre : List D → Prop} {f : List D → D} {m : Nat} {E : XK} {tr : TA} (ha : EvA K C tr δ ds) (hn : ds.length = m) (hp : pre ds) : EvN K C (tCall (SpN K C pre f m) [] E tr) δ (f ds) := fun O σ H n Q q =>
  ha O σ H n _ fun vs H1 s1 d1 => by
    show SpN K C pre f m (vs ++ []) H1 Q E
    rw [List.append_nil]
    exact ⟨by rw [d1.length, hn], O, ds, (n.same s1).own, d1, hp, fun v H2 s2 hp d2 => q v H2 (s1.trans s2) (back_none s1 hp) d2⟩
/-! tests -/
theorem et_test {b : Bool} (h : EvD K C te δ (.bl b)) : EvT K C (tTest te) δ b := fun O σ H n Q q => h O σ H n _ fun v H' s hd => by
  unfold Dat at hd
  exact ⟨b, hd, q H' s⟩
theorem et_B {b : Bool} (h : EvD K C te δ (.bl b)) : EvT K C (tB te) δ b := fun O σ H n Q q => h O σ H n _ fun v H' s hd => by
  unfold Dat at hd
  exact ⟨b, hd, q H' s⟩
theorem et_not {b : Bool} (h : EvT K C t δ b) : EvT K C (tNot t) δ (!b) := fun O σ H n Q q => h O σ H n _ fun H' s => q H' s
theorem et_and {a b : Bool} (h1 : EvT K C t δ a) (h2 : a = true → EvT K C u δ b) : EvT K C (tAnd t u) δ (a && b) := fun O σ H n Q q => h1 O σ H n _ fun H' s => by
  cases a with
  | true => exact h2 rfl O σ H' (n.same s) Q fun H2 s2 => q H2 (s.trans s2)
  | false => exact q H' s
theorem et_or {a b : Bool} (h1 : EvT K C t δ a) (h2 : a = false → EvT K C u δ b) : EvT K C (tOr t u) δ (a || b) := fun O σ H n Q q => h1 O σ H n _ fun H' s => by
  cases a with
  | true => exact q H' s
  | false => exact h2 rfl O σ H' (n.same s) Q fun H2 s2 => q H2 (s.trans s2)
theorem dat_int {H : Hp} {i : Int} {v : V} : Dat K C H (.int i) v ↔ v = .int i := by
  unfold Dat
  exact Iff.rfl
theorem dat_bl {H : Hp} {i : Bool} {v : V} : Dat K C H (.bl i) v ↔ v = .bl i := by
  unfold Dat
  exact Iff.rfl
theorem dat_str {H : Hp} {i : Str} {v : V} : Dat K C H (.str i) v ↔ v = .str i := by
  unfold Dat
  exact Iff.rfl
theorem dat_non {H : Hp} {v : V} : Dat K C H .non v ↔ v = .non := by
  unfold Dat
  exact Iff.rfl
theorem dat_raw {H : Hp} {v w : V} : Dat K C H (.raw w) v ↔ v = w := by
  unfold Dat
  exact Iff.rfl
theorem ev_andV {a b : Bool} (h1 : EvD K C ta δ (.bl a)) (h2 : a = true → EvD K C tb δ (.bl b)) : EvD K C (tAndV ta tb) δ (.bl (a && b)) := fun O σ H n Q q => h1 O σ H n _ fun v H' s hd => by
  refine ⟨a, dat_bl.mp hd, ?_⟩
  cases a with
  | true => exact h2 rfl O σ H' (n.same s) Q fun v2 H2 s2 d2 => q v2 H2 (s.trans s2) d2
  | false => exact q _ H' s (dat_bl.mpr rfl)
theorem ev_orV {a b : Bool} (h1 : EvD K C ta δ (.bl a)) (h2 : a = false → EvD K C tb δ (.bl b)) : EvD K C (tOrV ta tb) δ (.bl (a || b)) := fun O σ H n Q q => h1 O σ H n _ fun v H' s hd => by
  refine ⟨a, dat_bl.mp hd, ?_⟩
  cases a with
  | true => exact q _ H' s (dat_bl.mpr rfl)
  | false => exact h2 rfl O σ H' (n.same s) Q fun v2 H2 s2 d2 => q v2 H2 (s.trans s2) d2
theorem ev_notV {a : Bool} (h1 : EvD K C ta δ (.bl a)) : EvD K C (tNotV ta) δ (.bl (!a)) := fun O σ H n Q q => h1 O σ H n _ fun v H' s hd => ⟨a, dat_bl.mp hd, q _ H' s (dat_bl.mpr rfl)⟩
theorem ev_if {b : Bool} (h : EvT K C t δ b) (h1 : b = true → EvD K C ta δ z) (h2 : b = false → EvD K C tb δ z) : EvD K C (tIf t ta tb) δ z := fun O σ H n Q q => h O σ H n _ fun H' s => by
  cases b with
  | true => exact h1 rfl O σ H' (n.same s) Q fun v2 H2 s2 d2 => q v2 H2 (s.trans s2) d2
  | false => exact h2 rfl O σ H' (n.same s) Q fun v2 H2 s2 d2 => q v2 H2 (s.trans s2) d2
/-! operators on ints -/
theorem r2_Ii {g : Int → Int → Int} {i j : Int} : R2D K C (rI0 fun i j => .int (g i j)) (.int i) (.int j) (.int (g i j)) := fun O H x y o hx hy Q q =>
  ⟨i, j, dat_int.mp hx, dat_int.mp hy, q _ H (Same.refl H) (dat_int.mpr rfl)⟩
theorem r2_Ib {g : Int → Int → Bool} {i j : Int} : R2D K C (rI0 fun i j => .bl (g i j)) (.int i) (.int j) (.bl (g i j)) := fun O H x y o hx hy Q q =>
  ⟨i, j, dat_int.mp hx, dat_int.mp hy, q _ H (Same.refl H) (dat_bl.mpr rfl)⟩
theorem r2_Ci {c : Int → Int → Prop} {g : Int → Int → Int} {i j : Int} (hc : c i j) : R2D K C (rI c fun i j => .int (g i j)) (.int i) (.int j) (.int (g i j)) := fun O H x y o hx hy Q q =>
  ⟨i, j, dat_int.mp hx, dat_int.mp hy, hc, q _ H (Same.refl H) (dat_int.mpr rfl)⟩
theorem r1_U {g : Int → Int} {i : Int} : R1D K C (rU fun i => .int (g i)) (.int i) (.int (g i)) := fun O H x o hx Q q => ⟨i, dat_int.mp hx, q _ H (Same.refl H) (dat_int.mpr rfl)⟩
theorem ev_is (h : EvD K C te δ d) (e : d = z) : EvD K C te δ z := e ▸ h
theorem en_is (h : EvN K C te δ d) (e : d = z) : EvN K C te δ z := e ▸ h
theorem et_is {a b : Bool} (h : EvT K C t δ a) (e : a = b) : EvT K C t δ b := e ▸ h
/-! parts of slices -/
theorem eo_none : EvO K C tNoPart δ none := fun O σ H n Q q => q H (Same.refl H)
theorem eo_some {i : Int} (h : EvD K C te δ (.int i)) : EvO K C (tPart te) δ (some i) := fun O σ H n Q q => h O σ H n _ fun v H' s hd => ⟨i, dat_int.mp hd, q H' s⟩
/-! statements -/
/-- ends by a return of d -/
def StR (K : PySem.W.Frag) (C : Addr) (ts : TS) (δ : Dl) (d : D) : Prop := ∀ O σ H, At K C O H σ δ → ∀ Z : Ends, (∀ v H', Same H H' → Dat K C (hid O H') d v → Z.rt v H') → ts Z σ H
/-- .. of a new object -/
def StN (K : PySem.W.Frag) (C : Addr) (ts : TS) (δ : Dl) (d : D) : Prop := ∀ O σ H, At K C O H σ δ → ∀ Z : Ends, (∀ p H', Same H H' → H p = none → Dat K C (hid O H') d (.ref p) → Z.rt (.ref p) H') → ts Z σ H
/-- goes on with other slots -/
def StX (K : PySem.W.Frag) (C : Addr) (ts : TS) (δ δ' : Dl) : Prop := ∀ O σ H, At K C O H σ δ → ∀ Z : Ends, (∀ σ' H', Same H H' → At K C O H' σ' δ' → Z.nx σ' H') → ts Z σ H
variable {ts ts' : TS} {δ' : Dl}
theorem sr_ret (h : EvD K C te δ d) : StR K C (tRet te) δ d := fun O σ H n Z q => h O σ H n _ fun v H' s hd => q v H' s hd
theorem sn_ret (h : EvN K C te δ d) : StN K C (tRet te) δ d := fun O σ H n Z q => h O σ H n _ fun v H' s hp hd => q v H' s hp hd
theorem sr_retN : StR K C tRetN δ .non := fun O σ H n Z q => q _ H (Same.refl H) (dat_non.mpr rfl)
theorem sr_seq (h : StX K C ts δ δ') (g : StR K C ts' δ' d) : StR K C (tSeq ts ts') δ d := fun O σ H n Z q => h O σ H n { Z with nx := ts' Z } fun σ' H' s n' => g O σ' H' n' Z fun v H2 s2 d2 => q v H2 (s.trans s2) d2
theorem sn_seq (h : StX K C ts δ δ') (g : StN K C ts' δ' d) : StN K C (tSeq ts ts') δ d := fun O σ H n Z q => h O σ H n { Z with nx := ts' Z } fun σ' H' s n' => g O σ' H' n' Z fun v H2 s2 hp d2 => q v H2 (s.trans s2) (back_none s hp) d2
theorem sr_seq1 (h : StR K C ts δ d) : StR K C (tSeq ts ts') δ d := fun O σ H n Z q => h O σ H n { Z with nx := ts' Z } q
theorem sx_seq {δ2 : Dl} (h : StX K C ts δ δ') (g : StX K C ts' δ' δ2) : StX K C (tSeq ts ts') δ δ2 := fun O σ H n Z q => h O σ H n { Z with nx := ts' Z } fun σ' H' s n' => g O σ' H' n' Z fun v H2 s2 d2 => q v H2 (s.trans s2) d2
theorem sx_set {i : Nat} (h : EvD K C te δ d) : StX K C (tAsg te (gName i)) δ (δ.set i (some d)) := fun O σ H n Z q => h O σ H n _ fun v H' s hd => q _ H' s ⟨(n.same s).own, (n.same s).env.set i hd⟩
theorem sx_next : StX K C tNext δ δ := fun O σ H n Z q => q σ H (Same.refl H) n
theorem sx_drop (h : EvD K C te δ d) : StX K C (tDrop te) δ δ := fun O σ H n Z q => h O σ H n _ fun v H' s hd => q _ H' s (n.same s)
theorem sr_if {b : Bool} (h : EvT K C t δ b) (h1 : b = true → StR K C ts δ d) (h2 : b = false → StR K C ts' δ d) : StR K C (tIfS t ts ts') δ d := fun O σ H n Z q => h O σ H n _ fun H' s => by
  cases b with
  | true => exact h1 rfl O σ H' (n.same s) Z fun v2 H2 s2 d2 => q v2 H2 (s.trans s2) d2
  | false => exact h2 rfl O σ H' (n.same s) Z fun v2 H2 s2 d2 => q v2 H2 (s.trans s2) d2
theorem sx_if {b : Bool} (h : EvT K C t δ b) (h1 : b = true → StX K C ts δ δ') (h2 : b = false → StX K C ts' δ δ') : StX K C (tIfS t ts ts') δ δ' := fun O σ H n Z q => h O σ H n _ fun H' s => by
  cases b with
  | true => exact h1 rfl O σ H' (n.same s) Z fun v2 H2 s2 d2 => q v2 H2 (s.trans s2) d2
  | false => exact h2 rfl O σ H' (n.same s) Z fun v2 H2 s2 d2 => q v2 H2 (s.trans s2) d2
/-- if c: return ..; rest -/
theorem sr_guard {b : Bool} (h : EvT K C t δ b) (h1 : b = true → StR K C ts δ d) (h2 : b = false → StR K C ts' δ d) : StR K C (tSeq (tIfS t ts tNext) ts') δ d := fun O σ H n Z q => h O σ H n _ fun H' s => by
  cases b with
  | true => exact h1 rfl O σ H' (n.same s) { Z with nx := ts' Z } fun v2 H2 s2 d2 => q v2 H2 (s.trans s2) d2
  | false => exact h2 rfl O σ H' (n.same s) Z fun v2 H2 s2 d2 => q v2 H2 (s.trans s2) d2
theorem sn_guard {b : Bool} (h : EvT K C t δ b) (h1 : b = true → StN K C ts δ d) (h2 : b = false → StN K C ts' δ d) : StN K C (tSeq (tIfS t ts tNext) ts') δ d := fun O σ H n Z q => h O σ H n _ fun H' s => by
  cases b with
  | true => exact h1 rfl O σ H' (n.same s) { Z with nx := ts' Z } fun v2 H2 s2 hp d2 => q v2 H2 (s.trans s2) (back_none s hp) d2
  | false => exact h2 rfl O σ H' (n.same s) Z fun v2 H2 s2 hp d2 => q v2 H2 (s.trans s2) (back_none s hp) d2
/-- the slots at a def's entry -/
def startD (N : List Str) (ds : List D) : Dl := ds.map some ++ List.replicate (N.length - ds.length) none
theorem at_start {O : Addr → Bool} {H : Hp} {vs : List V} {N : List Str} (o : OIn O H) (h : Dats K C (hid O H) ds vs) : At K C O H (L2.start N vs) (startD N ds) := by
  refine ⟨o, ?_, fun i d e => ?_⟩
  · unfold L2.start startD
    rw [List.length_append, List.length_append, List.length_map, List.length_map, List.length_replicate, List.length_replicate, h.length]
  · unfold startD at e
    by_cases hi : i < ds.length
    · rw [List.getElem?_append_left (by rw [List.length_map]; exact hi), List.getElem?_map] at e
      have e2 : ds[i]? = some d := by
        cases q : ds[i]? with
        | none =>
          rw [q] at e
          cases e
        | some d' =>
          rw [q] at e
          have e3 : d' = d := by simpa using e
          rw [e3]
      obtain ⟨v, h1, h2⟩ := h.get e2
      refine ⟨v, ?_, h2⟩
      unfold L2.start
      rw [List.getElem?_append_left (by rw [List.length_map, h.length]; exact hi), List.getElem?_map, h1]
      rfl
    · rw [List.getElem?_append_right (by rw [List.length_map]; omega), List.getElem?_replicate] at e
      split at e <;> cases e
end
section
open PyProof.Rows
variable {P : Program} {w : World} {K : PySem.W.Frag} {C : Addr} {mg : Str → Option Value} {base : Heap} {x : Str} {k : Nat} {ps N : List Str} {st : Stmt} {fa : Addr} {fd : FuncData} {pre : List D → Prop} {f : List D → D}
theorem okD (F : DefAt K mg x ps st fa fd) (S : FnScope N ps (defScope st))
    (hbody : ∀ (cdv : Value) (A : Around) (outer : List Env) (s : Shared) (H : Hp) (E : XK), Room k (A.deeper (envOfC x (defScope st) s.heap.objs.size fa cdv)) →
      ∃ t, PSs (cxOf CX0 P w K mg base N x (defScope st) fa cdv A outer s H E).nox (defBody st) t ∧ ∀ ds, pre ds → StR K C t (startD N ds) (f ds)) : DefOk P w K mg base x (k + 1) ps (SpD K C pre f ps.length) := by
  refine F.ok S (fun vs H Q E h => h.1) (fun cdv A outer s H vs Q E hr h => ?_)
  obtain ⟨t, h1, h2⟩ := hbody cdv A outer s H E hr
  obtain ⟨_, O, ds, o, hd, hp, hq⟩ := h
  exact ⟨t, h1, h2 ds hp O _ H (at_start o hd) _ hq⟩
theorem okN (F : DefAt K mg x ps st fa fd) (S : FnScope N ps (defScope st))
    (hbody : ∀ (cdv : Value) (A : Around) (outer : List Env) (s : Shared) (H : Hp) (E : XK), Room k (A.deeper (envOfC x (defScope st) s.heap.objs.size fa cdv)) →
      ∃ t, PSs (cxOf CX0 P w K mg base N x (defScope st) fa cdv A outer s H E).nox (defBody st) t ∧ ∀ ds, pre ds → StN K C t (startD N ds) (f ds)) : DefOk P w K mg base x (k + 1) ps (SpN K C pre f ps.length) := by
  refine F.ok S (fun vs H Q E h => h.1) (fun cdv A outer s H vs Q E hr h => ?_)
  obtain ⟨t, h1, h2⟩ := hbody cdv A outer s H E hr
  obtain ⟨_, O, ds, o, hd, hp, hq⟩ := h
  exact ⟨t, h1, h2 ds hp O _ H (at_start o hd) _ hq⟩
end
end Zm


set_option Elab.async false
set_option linter.all false
set_option maxRecDepth 100000
set_option maxHeartbeats 4000000
set_option autoImplicit false
namespace Zm
open PySem PySem.Spec L2

/-! ### one object more that is one's own -/
def addO (O : Addr → Bool) (p : Addr) : Addr → Bool := fun a => O a || decide (a = p)
section
variable {O : Addr → Bool} {H H' : Hp} {p : Addr} {o : HO} {K : PySem.W.Frag} {C : Addr} {σ : L2.St} {δ : Dl}
theorem OIn.add (h : OIn O H) (hp : ∃ o, H p = some o ∧ NoT o) : OIn (addO O p) H := by
  obtain ⟨u, hu, nu⟩ := hp
  refine ⟨fun a e => ?_, fun a o e q => ?_⟩
  · unfold addO at e
    rcases Bool.or_eq_true_iff.mp e with e | e
    · exact h a e
    · rw [of_decide_eq_true e, hu]
      exact fun z => by cases z
  · unfold addO at e
    rcases Bool.or_eq_true_iff.mp e with e | e
    · exact h.nt a o e q
    · rw [of_decide_eq_true e, hu] at q
      rw [← Option.some.inj q]
      exact nu
/-- one's own is written -/
theorem OIn.upd (h : OIn O H) (ho : NoT o) : OIn O (upd H p o) := by
  refine ⟨fun a e => ?_, fun a u e q => ?_⟩
  · by_cases z : a = p
    · rw [z, upd_same]
      exact fun y => by cases y
    · rw [upd_ne z]
      exact h a e
  · by_cases z : a = p
    · rw [z, upd_same] at q
      rw [← Option.some.inj q]
      exact ho
    · rw [upd_ne z] at q
      exact h.nt a u e q
theorem add_le : Same (hid (addO O p) H) (hid O H) := fun a u e => by
  unfold hid addO at e
  split at e
  · cases e
  · rename_i h
    unfold hid
    rw [if_neg (fun q => h (by rw [q]; rfl))]
    exact e
theorem add_upd : hid (addO O p) (upd H p o) = hid (addO O p) H := by
  funext a
  unfold hid
  by_cases h : a = p
  · subst h
    have e : addO O a a = true := by unfold addO; simp
    rw [if_pos e, if_pos e]
  · rw [upd_ne h]
theorem add_fresh (hp : H p = none) : Same (hid O H) (hid (addO O p) H) := fun a u e => by
  unfold hid at e ⊢
  split at e
  · cases e
  · rename_i h
    have ne : a ≠ p := ne_of_none e hp
    rw [if_neg (fun q => by unfold addO at q; rcases Bool.or_eq_true_iff.mp q with q | q; exact h q; exact ne (of_decide_eq_true q))]
    exact e
theorem add_new (hp : H p = none) : Same (hid O H) (hid (addO O p) (upd H p o)) := by
  rw [add_upd]
  exact add_fresh hp
theorem At.add (n : At K C O H σ δ) (hp : H p = none) (ho : NoT o := by trivial) : At K C (addO O p) (upd H p o) σ δ :=
  ⟨(n.own.same (same_new hp)).add ⟨o, upd_same, ho⟩, n.env.same (add_new hp)⟩
/-- one's own object is written -/
theorem At.write (n : At K C (addO O p) H σ δ) (ho : NoT o := by trivial) : At K C (addO O p) (upd H p o) σ δ := ⟨n.own.upd ho, by rw [add_upd]; exact n.env⟩
end
section
variable {K : PySem.W.Frag} {C : Addr} {δ : Dl} {ta tb te tl : TE} {t u : TT} {d e z : D} {ds es : List D}
theorem sqL_of {O : Addr → Bool} {H : Hp} {a : Addr} {xs : List V} (h : hid O H a = some (.lst xs)) : SqL K H a xs := SqL.of (hid_same _ _ h)
theorem sqT_of {O : Addr → Bool} {H : Hp} {a : Addr} {xs : List V} (h : hid O H a = some (.tup xs)) : SqT K H a xs := SqT.of (hid_same _ _ h)
theorem dat_lst_iff {H : Hp} {v : V} : Dat K C H (.lst ds) v ↔ ∃ a xs, v = .ref a ∧ H a = some (.lst xs) ∧ Dats K C H ds xs := by
  unfold Dat
  exact Iff.rfl
theorem dat_tup_iff {H : Hp} {v : V} : Dat K C H (.tup ds) v ↔ ∃ a xs, v = .ref a ∧ H a = some (.tup xs) ∧ Dats K C H ds xs := by
  unfold Dat
  exact Iff.rfl
theorem dats_nil {H : Hp} {xs : List V} : Dats K C H [] xs ↔ xs = [] := by
  unfold Dats
  exact Iff.rfl
theorem dats_cons {H : Hp} {xs : List V} : Dats K C H (d :: ds) xs ↔ ∃ x ys, xs = x :: ys ∧ Dat K C H d x ∧ Dats K C H ds ys := by
  conv => lhs; unfold Dats
theorem dats_one {H : Hp} {xs : List V} : Dats K C H [d] xs ↔ ∃ x, xs = [x] ∧ Dat K C H d x := by
  rw [dats_cons]
  constructor
  · rintro ⟨x, ys, h1, h2, h3⟩
    rw [dats_nil] at h3
    subst h3
    exact ⟨x, h1, h2⟩
  · rintro ⟨x, h1, h2⟩
    exact ⟨x, [], h1, h2, dats_nil.mpr rfl⟩
theorem dats_two {H : Hp} {xs : List V} : Dats K C H [d, e] xs ↔ ∃ x y, xs = [x, y] ∧ Dat K C H d x ∧ Dat K C H e y := by
  rw [dats_cons]
  constructor
  · rintro ⟨x, ys, h1, h2, h3⟩
    obtain ⟨y, h4, h5⟩ := dats_one.mp h3
    subst h4
    exact ⟨x, y, h1, h2, h5⟩
  · rintro ⟨x, y, h1, h2, h3⟩
    exact ⟨x, [y], h1, h2, dats_one.mpr ⟨y, rfl, h3⟩⟩
theorem dats_at {H : Hp} {xs : List V} {i : Int} (h : Dats K C H ds xs) (e : atI ds i = some d) : ∃ v, atI xs i = some v ∧ Dat K C H d v := by
  unfold atI at e ⊢
  rw [h.length]
  cases q : ixN ds.length i with
  | none =>
    rw [q] at e
    cases e
  | some j =>
    rw [q] at e
    exact h.get e
/-! subscripts, slices -/
theorem r2_ixL {i : Int} (h : atI ds i = some d) : R2D K C (rIxL K) (.lst ds) (.int i) d := fun O H x y o hx hy Q q => by
  obtain ⟨a, xs, rfl, h1, h2⟩ := dat_lst_iff.mp hx
  obtain ⟨v, h3, h4⟩ := dats_at h2 h
  exact ⟨a, xs, i, v, rfl, dat_int.mp hy, sqL_of h1, h3, q v H (Same.refl H) h4⟩
theorem r2_ixT {i : Int} (h : atI ds i = some d) : R2D K C (rIxT K) (.tup ds) (.int i) d := fun O H x y o hx hy Q q => by
  obtain ⟨a, xs, rfl, h1, h2⟩ := dat_tup_iff.mp hx
  obtain ⟨v, h3, h4⟩ := dats_at h2 h
  exact ⟨a, xs, i, v, rfl, dat_int.mp hy, sqT_of h1, h3, q v H (Same.refl H) h4⟩
def cutD {α : Type} (xs : List α) (lo hi : Option Int) : List α := (xs.drop (HT.sIx xs.length 0 lo)).take (HT.sIx xs.length xs.length hi - HT.sIx xs.length 0 lo)
theorem en_sl {to th : TO} {lo hi : Option Int} (h : EvD K C te δ (.lst ds)) (h1 : EvO K C to δ lo) (h2 : EvO K C th δ hi) : EvN K C (tSl (rSlL K) te to th) δ (.lst (cutD ds lo hi)) := fun O σ H n Q q =>
  h O σ H n _ fun v H1 s1 d1 => h1 O σ H1 (n.same s1) _ fun H2 s2 => h2 O σ H2 (n.same (s1.trans s2)) _ fun H3 s3 => by
    have d3 := d1.same (same_hid (O := O) (s2.trans s3))
    obtain ⟨a, xs, rfl, g1, g2⟩ := dat_lst_iff.mp d3
    have s13 := (s1.trans s2).trans s3
    refine ⟨a, xs, rfl, sqL_of g1, fun p hp => q p _ (s13.trans (same_new hp)) (back_none s13 hp) (new_lst (n.same s13).own hp ?_)⟩
    unfold cutV cutD
    rw [g2.length]
    exact (g2.drop _).take _
theorem r2_cat (hl : ds.length + es.length ≤ 100000) : R2N K C rCat (.lst ds) (.lst es) (.lst (ds ++ es)) := fun O H x y o hx hy Q q => by
  obtain ⟨a, xs, rfl, h1, h2⟩ := dat_lst_iff.mp hx
  obtain ⟨b, ys, rfl, g1, g2⟩ := dat_lst_iff.mp hy
  exact ⟨a, b, xs, ys, rfl, rfl, hid_same _ _ h1, hid_same _ _ g1, by rw [h2.length, g2.length]; exact Nat.le_trans hl (by decide), fun p hp => q p _ (same_new hp) hp (new_lst o hp (h2.append g2))⟩
/-! calls of built-ins -/
theorem rc_lenL : RCD K C (fun xs H Q => ∃ p ys, xs = [V.ref p] ∧ (SqL K H p ys ∨ SqT K H p ys) ∧ Q (.int ys.length) H) [.lst ds] (.int ds.length) := fun O H vs o h Q q => by
  obtain ⟨x, rfl, hx⟩ := dats_one.mp h
  obtain ⟨a, xs, rfl, h1, h2⟩ := dat_lst_iff.mp hx
  exact ⟨a, xs, rfl, .inl (sqL_of h1), q _ H (Same.refl H) (dat_int.mpr (by rw [h2.length]))⟩
theorem rc_lenT : RCD K C (fun xs H Q => ∃ p ys, xs = [V.ref p] ∧ (SqL K H p ys ∨ SqT K H p ys) ∧ Q (.int ys.length) H) [.tup ds] (.int ds.length) := fun O H vs o h Q q => by
  obtain ⟨x, rfl, hx⟩ := dats_one.mp h
  obtain ⟨a, xs, rfl, h1, h2⟩ := dat_tup_iff.mp hx
  exact ⟨a, xs, rfl, .inr (sqT_of h1), q _ H (Same.refl H) (dat_int.mpr (by rw [h2.length]))⟩
theorem rn_listL : RCN K C (fun xs H Q => ∃ p ys, xs = [V.ref p] ∧ (SqL K H p ys ∨ SqT K H p ys) ∧ ∀ l, H l = none → Q (.ref l) (upd H l (.lst ys))) [.lst ds] (.lst ds) := fun O H vs o h Q q => by
  obtain ⟨x, rfl, hx⟩ := dats_one.mp h
  obtain ⟨a, xs, rfl, h1, h2⟩ := dat_lst_iff.mp hx
  exact ⟨a, xs, rfl, .inl (sqL_of h1), fun p hp => q p _ (same_new hp) hp (new_lst o hp h2)⟩
theorem rn_listT : RCN K C (fun xs H Q => ∃ p ys, xs = [V.ref p] ∧ (SqL K H p ys ∨ SqT K H p ys) ∧ ∀ l, H l = none → Q (.ref l) (upd H l (.lst ys))) [.tup ds] (.lst ds) := fun O H vs o h Q q => by
  obtain ⟨x, rfl, hx⟩ := dats_one.mp h
  obtain ⟨a, xs, rfl, h1, h2⟩ := dat_tup_iff.mp hx
  exact ⟨a, xs, rfl, .inr (sqT_of h1), fun p hp => q p _ (same_new hp) hp (new_lst o hp h2)⟩
theorem rn_tupL : RCN K C (fun xs H Q => ∃ p ys, xs = [V.ref p] ∧ ((SqL K H p ys ∧ ∀ l, H l = none → Q (.ref l) (upd H l (.tup ys))) ∨ (SqT K H p ys ∧ Q (.ref p) H))) [.lst ds] (.tup ds) := fun O H vs o h Q q => by
  obtain ⟨x, rfl, hx⟩ := dats_one.mp h
  obtain ⟨a, xs, rfl, h1, h2⟩ := dat_lst_iff.mp hx
  exact ⟨a, xs, rfl, .inl ⟨sqL_of h1, fun p hp => q p _ (same_new hp) hp (new_tup o hp h2)⟩⟩
def dB (bs : List Bool) : List D := bs.map D.bl
theorem dats_bls {H : Hp} : ∀ {bs : List Bool} {xs : List V}, Dats K C H (dB bs) xs ↔ xs = bs.map V.bl
  | [], xs => dats_nil
  | b :: bs, xs => by
    show Dats K C H (.bl b :: dB bs) xs ↔ xs = V.bl b :: bs.map V.bl
    rw [dats_cons]
    constructor
    · rintro ⟨x, ys, h1, h2, h3⟩
      rw [h1, dat_bl.mp h2, dats_bls.mp h3]
    · intro h
      exact ⟨_, _, h, dat_bl.mpr rfl, dats_bls.mpr rfl⟩
theorem rc_all {bs : List Bool} : RCD K C (rAll K) [.lst (dB bs)] (.bl (bs.all id)) := fun O H vs o h Q q => by
  obtain ⟨x, rfl, hx⟩ := dats_one.mp h
  obtain ⟨a, xs, rfl, h1, h2⟩ := dat_lst_iff.mp hx
  rw [dats_bls.mp h2] at h1
  exact ⟨a, bs, rfl, sqL_of h1, q _ H (Same.refl H) (dat_bl.mpr rfl)⟩
theorem rc_any {bs : List Bool} : RCD K C (rAny K) [.lst (dB bs)] (.bl (bs.any id)) := fun O H vs o h Q q => by
  obtain ⟨x, rfl, hx⟩ := dats_one.mp h
  obtain ⟨a, xs, rfl, h1, h2⟩ := dat_lst_iff.mp hx
  rw [dats_bls.mp h2] at h1
  exact ⟨a, bs, rfl, sqL_of h1, q _ H (Same.refl H) (dat_bl.mpr rfl)⟩
theorem rc_sum {ns : List Int} : RCD K C (rSum K) [.lst (dI ns)] (.int ns.sum) := fun O H vs o h Q q => by
  obtain ⟨x, rfl, hx⟩ := dats_one.mp h
  obtain ⟨a, xs, rfl, h1, h2⟩ := dat_lst_iff.mp hx
  rw [dats_ints.mp h2] at h1
  exact ⟨a, ns, rfl, sqL_of h1, q _ H (Same.refl H) (dat_int.mpr rfl)⟩
theorem rc_max2 {i j : Int} : RCD K C (fun xs H Q => ∃ i j, xs = [V.int i, V.int j] ∧ Q (.int (if j > i then j else i)) H) [.int i, .int j] (.int (if j > i then j else i)) := fun O H vs o h Q q => by
  obtain ⟨x, y, rfl, hx, hy⟩ := dats_two.mp h
  rw [dat_int.mp hx, dat_int.mp hy]
  exact ⟨i, j, rfl, q _ H (Same.refl H) (dat_int.mpr rfl)⟩
theorem rc_min2 {i j : Int} : RCD K C (fun xs H Q => ∃ i j, xs = [V.int i, V.int j] ∧ Q (.int (if j < i then j else i)) H) [.int i, .int j] (.int (if j < i then j else i)) := fun O H vs o h Q q => by
  obtain ⟨x, y, rfl, hx, hy⟩ := dats_two.mp h
  rw [dat_int.mp hx, dat_int.mp hy]
  exact ⟨i, j, rfl, q _ H (Same.refl H) (dat_int.mpr rfl)⟩
theorem rc_int {i : Int} : RCD K C (fun xs H Q => (∃ i, xs = [V.int i] ∧ Q (.int i) H) ∨ ∃ k, xs = [V.bl k] ∧ Q (.int (if k then 1 else 0)) H) [.int i] (.int i) := fun O H vs o h Q q => by
  obtain ⟨x, rfl, hx⟩ := dats_one.mp h
  rw [dat_int.mp hx]
  exact .inl ⟨i, rfl, q _ H (Same.refl H) (dat_int.mpr rfl)⟩
/-- the sorted list -/
def srt (ns : List Int) : List Int := ns.mergeSort (fun a b => decide (a ≤ b))
theorem srt_perm (ns : List Int) : (srt ns).Perm ns := List.mergeSort_perm _ _
theorem srt_le (ns : List Int) : (srt ns).Pairwise (· ≤ ·) := by
  have h := List.pairwise_mergeSort (le := fun a b : Int => decide (a ≤ b)) (by intro a b c; simp; omega) (by intro a b; simp; omega) ns
  exact h.imp (fun q => by simpa using q)
theorem perm_le_eq : ∀ {l m : List Int}, l.Perm m → l.Pairwise (· ≤ ·) → m.Pairwise (· ≤ ·) → l = m := fun {l m} p h1 h2 =>
  p.eq_of_pairwise (fun a b _ _ hab hba => Int.le_antisymm hab hba) h1 h2
theorem rn_sorted {ns : List Int} : RCN K C (rSortedI K) [.lst (dI ns)] (.lst (dI (srt ns))) := fun O H vs o h Q q => by
  obtain ⟨x, rfl, hx⟩ := dats_one.mp h
  obtain ⟨a, xs, rfl, h1, h2⟩ := dat_lst_iff.mp hx
  rw [dats_ints.mp h2] at h1
  refine ⟨a, ns, rfl, sqL_of h1, fun ns' p hp hs hn => ?_⟩
  have e : ns' = srt ns := perm_le_eq (hp.trans (srt_perm ns).symm) hs (srt_le ns)
  subst e
  exact q p _ (same_new hn) hn (new_lst o hn (dats_ints.mpr rfl))
end
end Zm


set_option Elab.async false
set_option linter.all false
set_option maxRecDepth 100000
set_option maxHeartbeats 4000000
set_option autoImplicit false
namespace Zm
open PySem PySem.Spec L2

/-- what is walked, by data: at each turn the item's -/
structure WalkD (K : PySem.W.Frag) (C : Addr) (O : Addr → Bool) (Hb : Hp) (J : It) (ds : List D) : Prop where
  go : ∀ O' i H, Same (hid O Hb) (hid O' H) → OIn O' H → i < ds.length → J.go i H
  yld : ∀ O' i H x H' d, Same (hid O Hb) (hid O' H) → OIn O' H → ds[i]? = some d → J.yld i H x H' → Same H H' ∧ Dat K C (hid O' H') d x
  stop : ∀ O' H, Same (hid O Hb) (hid O' H) → OIn O' H → J.stop ds.length H
def EvI (K : PySem.W.Frag) (C : Addr) (ti : TI) (δ : Dl) (ds : List D) : Prop := ∀ O σ H, At K C O H σ δ → ∀ R : It → Hp → Prop, (∀ J H', Same H H' → WalkD K C O H' J ds → R J H') → ti σ H R
/-- a target takes data d; of the slots vs alone -/
def EvG (K : PySem.W.Frag) (C : Addr) (g : TG) (vs : List Nat) (δ : Dl) (d : D) (δ' : Dl) : Prop := ∀ O σ H v, At K C O H σ δ → Dat K C (hid O H) d v → ∀ Q : L2.St → Hp → Prop, (∀ σ', L2.wipe σ' vs = L2.wipe σ vs → At K C O H σ' δ' → Q σ' H) → g v σ H Q
/-- .. whatever slots -/
def EvGa (K : PySem.W.Frag) (C : Addr) (g : TG) (δ : Dl) (d : D) (δ' : Dl) : Prop := ∀ O σ H v, At K C O H σ δ → Dat K C (hid O H) d v → ∀ Q : L2.St → Hp → Prop, (∀ σ', At K C O H σ' δ' → Q σ' H) → g v σ H Q
theorem wipe_get (σ : L2.St) : ∀ (vs : List Nat) (j : Nat), (L2.wipe σ vs)[j]? = if j ∈ vs ∧ j < σ.length then some none else σ[j]?
  | [], j => by
    rw [if_neg (fun h => by cases h.1)]
    rfl
  | v :: vs, j => by
    unfold L2.wipe
    rw [List.getElem?_set, wipe_get σ vs j, L2.wipe_length]
    by_cases h : v = j
    · subst h
      rw [if_pos rfl]
      by_cases h2 : v < σ.length
      · rw [if_pos h2, if_pos ⟨List.mem_cons_self .., h2⟩]
      · rw [if_neg h2, if_neg (fun q => h2 q.2), List.getElem?_eq_none (by omega)]
    · rw [if_neg h]
      by_cases h2 : j ∈ vs ∧ j < σ.length
      · rw [if_pos h2, if_pos ⟨List.mem_cons_of_mem _ h2.1, h2.2⟩]
      · rw [if_neg h2, if_neg (fun q => h2 ⟨(List.mem_cons.mp q.1).resolve_left (fun e => h e.symm), q.2⟩)]
theorem wipe_set {σ : L2.St} {vs : List Nat} {i : Nat} {v : Option V} (h : i ∈ vs) : L2.wipe (σ.set i v) vs = L2.wipe σ vs := by
  apply List.ext_getElem?
  intro j
  rw [wipe_get, wipe_get, List.length_set]
  by_cases hj : j ∈ vs ∧ j < σ.length
  · rw [if_pos hj, if_pos hj]
  · rw [if_neg hj, if_neg hj, List.getElem?_set]
    split
    · rename_i e
      subst e
      split
      · exact absurd ⟨h, by assumption⟩ hj
      · rw [List.getElem?_eq_none (by omega)]
    · rfl
theorem wipe_wipe {σ : L2.St} {vs : List Nat} : L2.wipe (L2.wipe σ vs) vs = L2.wipe σ vs := by
  apply List.ext_getElem?
  intro j
  rw [wipe_get, L2.wipe_length, wipe_get]
  split <;> rfl
section
variable {K : PySem.W.Frag} {C : Addr} {δ δ' : Dl} {ta tb te tl : TE} {t u : TT} {d e z : D} {ds es : List D}
theorem eg_name {i : Nat} {vs : List Nat} (h : i ∈ vs) : EvG K C (gName i) vs δ d (δ.set i (some d)) := fun O σ H v n hd Q q =>
  q _ (wipe_set h) ⟨n.own, n.env.set i hd⟩
theorem ega_name {i : Nat} : EvGa K C (gName i) δ d (δ.set i (some d)) := fun O σ H v n hd Q q => q _ ⟨n.own, n.env.set i hd⟩
theorem eg_two {i j : Nat} {vs : List Nat} (h : i ∈ vs) (h2 : j ∈ vs) : EvG K C (gTup K 2 (gCons (gName i) (gCons (gName j) gNil))) vs δ (.tup [d, e]) ((δ.set i (some d)).set j (some e)) := fun O σ H v n hd Q q => by
  obtain ⟨a, xs, rfl, h1, h3⟩ := dat_tup_iff.mp hd
  obtain ⟨x, y, rfl, h4, h5⟩ := dats_two.mp h3
  refine ⟨a, [x, y], rfl, sqT_of h1, rfl, x, [y], rfl, y, [], rfl, rfl, q _ ?_ ⟨n.own, (n.env.set i h4).set j h5⟩⟩
  rw [wipe_set h2, wipe_set h]
theorem ega_two {i j : Nat} : EvGa K C (gTup K 2 (gCons (gName i) (gCons (gName j) gNil))) δ (.tup [d, e]) ((δ.set i (some d)).set j (some e)) := fun O σ H v n hd Q q => by
  obtain ⟨a, xs, rfl, h1, h3⟩ := dat_tup_iff.mp hd
  obtain ⟨x, y, rfl, h4, h5⟩ := dats_two.mp h3
  exact ⟨a, [x, y], rfl, sqT_of h1, rfl, x, [y], rfl, y, [], rfl, rfl, q _ ⟨n.own, (n.env.set i h4).set j h5⟩⟩
theorem ei_list (h : EvD K C tl δ (.lst ds)) : EvI K C (iList K tl) δ ds := fun O σ H n R q => h O σ H n _ fun v H1 s1 d1 => by
  obtain ⟨a, xs, rfl, h1, h2⟩ := dat_lst_iff.mp d1
  have key : ∀ O' H', Same (hid O H1) (hid O' H') → SqL K H' a xs ∧ Dats K C (hid O' H') ds xs := fun O' H' s => ⟨sqL_of (s _ _ h1), h2.same s⟩
  refine ⟨a, rfl, ⟨xs, sqL_of h1⟩, q _ _ s1 ⟨fun O' i H' s o hi => ?_, fun O' i H' x H2 d s o hi y => ?_, fun O' H' s o => ?_⟩⟩
  · exact ⟨xs, xs[i]'(by rw [h2.length]; exact hi), (key O' H' s).1, by simp [h2.length, hi]⟩
  · obtain ⟨e, y⟩ := y
    subst e
    obtain ⟨k1, k2⟩ := key O' _ s
    obtain ⟨w, g1, g2⟩ := k2.get hi
    have g3 := y xs k1
    rw [g1] at g3
    cases g3
    exact ⟨Same.refl _, g2⟩
  · exact ⟨xs, (key O' H' s).1, by rw [h2.length]; exact Nat.le_refl _⟩
theorem ei_tup (h : EvD K C tl δ (.tup ds)) : EvI K C (iTup K tl) δ ds := fun O σ H n R q => h O σ H n _ fun v H1 s1 d1 => by
  obtain ⟨a, xs, rfl, h1, h2⟩ := dat_tup_iff.mp d1
  have key : ∀ O' H', Same (hid O H1) (hid O' H') → SqT K H' a xs ∧ Dats K C (hid O' H') ds xs := fun O' H' s => ⟨sqT_of (s _ _ h1), h2.same s⟩
  refine ⟨a, rfl, ⟨xs, sqT_of h1⟩, q _ _ s1 ⟨fun O' i H' s o hi => ?_, fun O' i H' x H2 d s o hi y => ?_, fun O' H' s o => ?_⟩⟩
  · exact ⟨xs, xs[i]'(by rw [h2.length]; exact hi), (key O' H' s).1, by simp [h2.length, hi]⟩
  · obtain ⟨e, y⟩ := y
    subst e
    obtain ⟨k1, k2⟩ := key O' _ s
    obtain ⟨w, g1, g2⟩ := k2.get hi
    have g3 := y xs k1
    rw [g1] at g3
    cases g3
    exact ⟨Same.refl _, g2⟩
  · exact ⟨xs, (key O' H' s).1, by rw [h2.length]; exact Nat.le_refl _⟩
def rngD (lo : Int) (n : Nat) : List D := (List.range n).map fun (k : Nat) => D.int (lo + (k : Int))
theorem walk_rng {O : Addr → Bool} {H : Hp} {lo : Int} {n : Nat} : WalkD K C O H (Itr lo n) (rngD lo n) := by
  have hl : (rngD lo n).length = n := by unfold rngD; rw [List.length_map, List.length_range]
  refine ⟨fun O' i H' s o hi => (by rw [hl] at hi; exact hi), fun O' i H' x H2 d s o hi y => ?_, fun O' H' s o => (by rw [hl]; exact Nat.le_refl _)⟩
  obtain ⟨e1, e2⟩ := y
  subst e1 e2
  refine ⟨Same.refl _, ?_⟩
  have hi' : i < n := by rw [← hl]; exact (List.getElem?_eq_some_iff.mp hi).1
  unfold rngD at hi
  rw [List.getElem?_map, List.getElem?_range hi'] at hi
  have e3 : D.int (lo + (i : Int)) = d := by simpa using hi
  subst e3
  exact dat_int.mpr rfl
theorem ei_rng1 {j : Int} (h : EvA K C (tCons ta tNil) δ [.int j]) (h1 : -(2 ^ 62) ≤ j) (h2 : j < 2 ^ 62) : EvI K C (iRng1 (tCons ta tNil)) δ (rngD 0 j.toNat) := fun O σ H n R q => h O σ H n _ fun vs H1 s1 d1 => by
  obtain ⟨x, rfl, hx⟩ := dats_one.mp d1
  exact ⟨j, by rw [dat_int.mp hx], h1, h2, q _ _ s1 walk_rng⟩
theorem ei_rng2 {i j : Int} (h : EvA K C (tCons ta (tCons tb tNil)) δ [.int i, .int j]) (h0 : -(2 ^ 62) ≤ i ∧ i < 2 ^ 62 ∧ -(2 ^ 62) ≤ j ∧ j < 2 ^ 62) : EvI K C (iRng2 (tCons ta (tCons tb tNil))) δ (rngD i (j - i).toNat) := fun O σ H n R q => h O σ H n _ fun vs H1 s1 d1 => by
  obtain ⟨x, y, rfl, hx, hy⟩ := dats_two.mp d1
  exact ⟨i, j, by rw [dat_int.mp hx, dat_int.mp hy], h0, q _ _ s1 walk_rng⟩
theorem same_mut {H H' : Hp} {p : Addr} {o : HO} (s : Same H H') (h : H p = none) : Same H (upd H' p o) := fun a u ha => by
  rw [upd_ne (ne_of_none ha h)]
  exact s a u ha
/-- a comprehension: its items' data, one behind the other -/
theorem en_lc {α : Type} {as : List α} {g0 : α → D} {p : α → Bool} {f : α → D} {δi : α → Dl} {wi : TI} {g : TG} {tt : TT} {vs : List Nat} (hI : EvI K C wi δ (as.map g0)) (hG : ∀ a ∈ as, EvG K C g vs (wipeD δ vs) (g0 a) (δi a))
    (hT : ∀ a ∈ as, EvT K C tt (δi a) (p a)) (hE : ∀ a ∈ as, p a = true → EvD K C te (δi a) (f a)) (hl : as.length ≤ 100000) : EvN K C (tLc wi g tt te vs) δ (.lst ((as.filter p).map f)) := fun O σ H n Q q => hI O σ H n _ fun J H1 s1 w Da hD => by
  have n1 := n.same s1
  have o1 : OIn (addO O Da) (upd H1 Da (.lst [])) := (n1.add (o := .lst []) hD).own
  have key : ∀ H2, Same H1 H2 → Same (hid O H1) (hid (addO O Da) H2) := fun H2 s => (add_fresh hD).trans (same_hid s)
  refine ⟨fun i m H2 => m = as.length - i ∧ i ≤ as.length ∧ Same H1 H2 ∧ ∃ acc, H2 Da = some (.lst acc) ∧ Dats K C (hid (addO O Da) H2) (((as.take i).filter p).map f) acc, ⟨as.length, by omega, Nat.zero_le _, same_new hD, [], upd_same, by rw [List.take_zero]; exact .nil⟩, ?_⟩
  rintro i m H2 ⟨rfl, hi, s2, acc, ha, hacc⟩
  have o2 : OIn (addO O Da) H2 := (n1.own.same s2).add ⟨_, ha, trivial⟩
  have wl : (as.map g0).length = as.length := List.length_map _
  by_cases hlt : i < as.length
  · have hia : as[i]? = some as[i] := by simp [hlt]
    have hmem : as[i] ∈ as := List.getElem_mem hlt
    refine .inr ⟨w.go _ i H2 (key H2 s2) o2 (by rw [wl]; exact hlt), fun H3 => i + 1 ≤ as.length ∧ Same H1 H3 ∧ ∃ acc, H3 Da = some (.lst acc) ∧ Dats K C (hid (addO O Da) H3) (((as.take (i + 1)).filter p).map f) acc,
      fun H' hN => ⟨_, by omega, rfl, hN⟩, fun x H3 y => ?_⟩
    obtain ⟨s3, d3⟩ := w.yld _ i H2 x H3 (g0 as[i]) (key H2 s2) o2 (by rw [List.getElem?_map, hia]; rfl) y
    have s13 := s2.trans s3
    have n3 : At K C (addO O Da) H3 (L2.wipe σ vs) (wipeD δ vs) := ⟨o2.same s3, (n1.env.same (key H3 s13)).wipe vs⟩
    refine hG _ hmem _ _ _ _ n3 d3 _ fun σ4 hw n4 => ⟨by rw [hw, wipe_wipe], ?_⟩
    refine hT _ hmem _ _ _ n4 _ fun H5 s5 => ?_
    have ht : as.take (i + 1) = as.take i ++ [as[i]] := List.take_succ_eq_append_getElem hlt
    cases hp : p as[i] with
    | false =>
      refine iteF ⟨hlt, s13.trans s5, acc, s5 _ _ (s3 _ _ ha), ?_⟩
      rw [ht, List.filter_append, List.filter_cons, hp]
      rw [if_neg Bool.false_ne_true, List.filter_nil, List.append_nil]
      exact hacc.same (same_hid (s3.trans s5))
    | true =>
      refine iteT (hE _ hmem hp _ _ _ (n4.same s5) _ fun v H6 s6 d6 => ?_)
      have s36 := (s3.trans s5).trans s6
      have hl2 : acc.length ≤ as.length := by
        rw [hacc.length, List.length_map]
        exact Nat.le_trans (List.length_filter_le _ _) (by rw [List.length_take]; omega)
      refine ⟨acc, s36 _ _ ha, Nat.lt_of_le_of_lt (Nat.le_trans hl2 hl) (by decide), hlt, same_mut (s2.trans s36) hD, _, upd_same, ?_⟩
      rw [add_upd, ht, List.filter_append, List.filter_cons, hp]
      rw [if_pos rfl, List.filter_nil, List.map_append]
      exact (hacc.same (same_hid s36)).append (.one d6)
  · have e : i = as.length := by omega
    subst e
    refine .inl ⟨by rw [← wl]; exact w.stop _ H2 (key H2 s2) o2, q _ _ (s1.trans s2) (back_none s1 hD) ?_⟩
    rw [List.take_length] at hacc
    exact (dat_lst_iff.mpr ⟨Da, acc, rfl, ha, hacc.same (fun a u e => by exact hid_same _ _ e)⟩ : Dat K C H2 _ _) |> fun _ => dat_lst_iff.mpr ⟨Da, acc, rfl, by unfold hid; rw [if_neg (fun q => n1.own Da q hD)]; exact ha, hacc.same add_le⟩
/-- .. without a test -/
theorem et_yes : EvT K C tYes δ true := fun O σ H n Q q => q H (Same.refl H)
theorem en_lc1 {α : Type} {as : List α} {g0 : α → D} {f : α → D} {δi : α → Dl} {wi : TI} {g : TG} {vs : List Nat} (hI : EvI K C wi δ (as.map g0)) (hG : ∀ a ∈ as, EvG K C g vs (wipeD δ vs) (g0 a) (δi a))
    (hE : ∀ a ∈ as, EvD K C te (δi a) (f a)) (hl : as.length ≤ 100000) : EvN K C (tLc wi g tYes te vs) δ (.lst (as.map f)) := by
  have h := en_lc (p := fun _ => true) hI hG (fun a _ => et_yes) (fun a h _ => hE a h) hl
  rw [List.filter_eq_self.mpr (fun _ _ => rfl)] at h
  exact h
/-! loops -/
/-- less is known -/
def LeD (δ' δ : Dl) : Prop := δ'.length = δ.length ∧ ∀ (i : Nat) (d : D), δ'[i]? = some (some d) → δ[i]? = some (some d)
theorem At.weak {O : Addr → Bool} {H : Hp} {σ : L2.St} (n : At K C O H σ δ) (l : LeD δ' δ) : At K C O H σ δ' := ⟨n.own, n.env.1.trans l.1.symm, fun i d e => n.env.2 i d (l.2 i d e)⟩
theorem sx_weak {ts : TS} {δ2 : Dl} (h : StX K C ts δ δ2) (l : LeD δ' δ2) : StX K C ts δ δ' := fun O σ H n Z q => h O σ H n Z fun σ' H' s n' => q σ' H' s (n'.weak l)
/-- a loop whose turns go on; δs i: what is known ahead of turn i -/
theorem sx_for {α : Type} {as : List α} {g0 : α → D} {δs : Nat → Dl} {wi : TI} {g : TG} {tb : TS} (hI : EvI K C wi δ (as.map g0)) (h0 : LeD (δs 0) δ)
    (hB : ∀ i a, as[i]? = some a → ∃ δ1, EvGa K C g (δs i) (g0 a) δ1 ∧ StX K C tb δ1 (δs (i + 1))) : StX K C (tFor wi g tb) δ (δs as.length) := fun O σ H n Z q => hI O σ H n _ fun J H1 s1 w => by
  have n1 := n.same s1
  have wl : (as.map g0).length = as.length := List.length_map _
  refine ⟨fun i m σ2 H2 => m = as.length - i ∧ i ≤ as.length ∧ Same H1 H2 ∧ At K C O H2 σ2 (δs i), ⟨as.length, by omega, Nat.zero_le _, Same.refl _, n1.weak h0⟩, ?_⟩
  rintro i m σ2 H2 ⟨rfl, hi, s2, n2⟩
  by_cases hlt : i < as.length
  · have hia : as[i]? = some as[i] := by simp [hlt]
    refine .inr ⟨w.go _ i H2 (same_hid s2) n2.own (by rw [wl]; exact hlt), fun σ3 H3 => i + 1 ≤ as.length ∧ Same H1 H3 ∧ At K C O H3 σ3 (δs (i + 1)), fun σ' H' hN => ⟨_, by omega, rfl, hN⟩, fun x H3 y => ?_⟩
    obtain ⟨s3, d3⟩ := w.yld _ i H2 x H3 (g0 as[i]) (same_hid s2) n2.own (by rw [List.getElem?_map, hia]; rfl) y
    obtain ⟨δ1, hg, hb⟩ := hB i _ hia
    exact hg _ _ _ _ (n2.same s3) d3 _ fun σ4 n4 => hb _ _ _ n4 _ fun σ5 H5 s5 n5 => ⟨hlt, (s2.trans s3).trans s5, n5⟩
  · have e : i = as.length := by omega
    subst e
    exact .inl ⟨by rw [← wl]; exact w.stop _ H2 (same_hid s2) n2.own, q _ _ (s1.trans s2) n2⟩
/-- a loop that may return; it goes on through the first k turns -/
theorem sr_for {α : Type} {as : List α} {g0 : α → D} {δs : Nat → Dl} {wi : TI} {g : TG} {tb tr : TS} (k : Nat) (hk : k ≤ as.length) (hI : EvI K C wi δ (as.map g0)) (h0 : LeD (δs 0) δ)
    (hB : ∀ i a, i < k → as[i]? = some a → ∃ δ1, EvGa K C g (δs i) (g0 a) δ1 ∧ StX K C tb δ1 (δs (i + 1)))
    (hR : ∀ a, as[k]? = some a → ∃ δ1, EvGa K C g (δs k) (g0 a) δ1 ∧ StR K C tb δ1 d) (hE : k = as.length → StR K C tr (δs k) d) : StR K C (tSeq (tFor wi g tb) tr) δ d := fun O σ H n Z q => hI O σ H n _ fun J H1 s1 w => by
  have n1 := n.same s1
  have wl : (as.map g0).length = as.length := List.length_map _
  refine ⟨fun i m σ2 H2 => m = as.length - i ∧ i ≤ k ∧ Same H1 H2 ∧ At K C O H2 σ2 (δs i), ⟨as.length, by omega, Nat.zero_le _, Same.refl _, n1.weak h0⟩, ?_⟩
  rintro i m σ2 H2 ⟨rfl, hi, s2, n2⟩
  by_cases hlt : i < as.length
  · have hia : as[i]? = some as[i] := by simp [hlt]
    refine .inr ⟨w.go _ i H2 (same_hid s2) n2.own (by rw [wl]; exact hlt), fun σ3 H3 => i + 1 ≤ k ∧ Same H1 H3 ∧ At K C O H3 σ3 (δs (i + 1)), fun σ' H' hN => ⟨_, by omega, rfl, hN⟩, fun x H3 y => ?_⟩
    obtain ⟨s3, d3⟩ := w.yld _ i H2 x H3 (g0 as[i]) (same_hid s2) n2.own (by rw [List.getElem?_map, hia]; rfl) y
    by_cases hik : i < k
    · obtain ⟨δ1, hg, hb⟩ := hB i _ hik hia
      exact hg _ _ _ _ (n2.same s3) d3 _ fun σ4 n4 => hb _ _ _ n4 _ fun σ5 H5 s5 n5 => ⟨hik, (s2.trans s3).trans s5, n5⟩
    · have e : i = k := by omega
      subst e
      obtain ⟨δ1, hg, hb⟩ := hR _ hia
      exact hg _ _ _ _ (n2.same s3) d3 _ fun σ4 n4 => hb _ _ _ n4 _ fun v H5 s5 d5 => q _ _ (((s1.trans s2).trans s3).trans s5) d5
  · have e : i = as.length := by omega
    have e2 : k = as.length := by omega
    subst e
    exact .inl ⟨by rw [← wl]; exact w.stop _ H2 (same_hid s2) n2.own, by subst e2; exact hE rfl _ _ _ n2 Z fun v H5 s5 d5 => q _ _ ((s1.trans s2).trans s5) d5⟩
end
end Zm


set_option Elab.async false
set_option linter.all false
set_option maxRecDepth 100000
set_option maxHeartbeats 4000000
set_option autoImplicit false
namespace Zm
open PySem PySem.Spec L2

/-! ### kinds -/
/-- the built-in class of a datum that is no recipe -/
def tyD : D → Option String
  | .non => some "NoneType"
  | .bl _ => some "bool"
  | .int _ => some "int"
  | .str _ => some "str"
  | .lst _ => some "list"
  | .tup _ => some "tuple"
  | .dic _ => some "dict"
  | _ => none
def tyNames : List String := ["NoneType", "bool", "int", "str", "list", "tuple", "dict"]
def clNames : List String := ["int", "bool", "list", "tuple", "dict", "str"]
def isTy (d : D) (n : String) : Bool := match tyD d with
  | some t => t == n || (t == "bool" && n == "int")
  | none => false
theorem kit_all : ∀ t ∈ tyNames, ∀ n ∈ clNames, kitB t n = some (t == n || (t == "bool" && n == "int")) := by decide +kernel
theorem tyD_mem {d : D} {t : String} (h : tyD d = some t) : t ∈ tyNames := by
  cases d <;> first | (cases h; decide) | cases h
section
variable {K : PySem.W.Frag} {C : Addr} {δ δ' : Dl} {ta tb te tl : TE} {t u : TT} {d e z : D} {ds es : List D}
theorem ty_dat {O : Addr → Bool} {H : Hp} {v : V} {n : String} (h : Dat K C (hid O H) d v) (e : tyD d = some n) : TyX K H v (.type n) := by
  cases d with
  | non => cases e; rw [dat_non.mp h]; exact .base .non
  | bl b => cases e; rw [dat_bl.mp h]; exact .base (.bl b)
  | int i => cases e; rw [dat_int.mp h]; exact .base (.int i)
  | str x => cases e; rw [dat_str.mp h]; exact .base (.str x)
  | lst ds =>
    cases e
    obtain ⟨a, xs, rfl, h1, _⟩ := dat_lst_iff.mp h
    exact .base (.lst (hid_same _ _ h1))
  | tup ds =>
    cases e
    obtain ⟨a, xs, rfl, h1, _⟩ := dat_tup_iff.mp h
    exact .base (.tup (hid_same _ _ h1))
  | dic kvs =>
    cases e
    unfold Dat at h
    obtain ⟨a, xs, rfl, h1, _⟩ := h
    exact .base (.dK (hid_same _ _ h1))
  | rcp m r => cases e
  | raw w => cases e
  | dtp w => cases e
/-- isinstance(x, T), x no recipe, T built-in -/
theorem rc_isi {n s : String} (hd : tyD d = some s) (hn : n ∈ clNames) : RCD K C (rIsi K) [d, .raw (.ty n)] (.bl (isTy d n)) := fun O H vs o h Q q => by
  obtain ⟨x, y, rfl, hx, hy⟩ := dats_two.mp h
  rw [dat_raw.mp hy]
  refine ⟨x, .ty n, .type s, .type n, isTy d n, rfl, .ty n, ty_dat hx hd, ?_, q _ H (Same.refl H) (dat_bl.mpr rfl)⟩
  unfold isTy
  rw [hd]
  exact kit_ty (kit_all s (tyD_mem hd) n hn)
/-- isinstance(x, (T, U)) -/
theorem rc_isi2 {n m s : String} (hd : tyD d = some s) (hn : n ∈ clNames) (hm : m ∈ clNames) : RCD K C (rIsiT K) [d, .tup [.raw (.ty n), .raw (.ty m)]] (.bl (isTy d n || isTy d m)) := fun O H vs o h Q q => by
  obtain ⟨x, y, rfl, hx, hy⟩ := dats_two.mp h
  obtain ⟨a, xs, rfl, h1, h2⟩ := dat_tup_iff.mp hy
  obtain ⟨x1, x2, rfl, hx1, hx2⟩ := dats_two.mp h2
  rw [dat_raw.mp hx1, dat_raw.mp hx2] at h1
  refine ⟨x, a, [.ty n, .ty m], .type s, [.type n, .type m], isTy d n || isTy d m, rfl, hid_same _ _ h1, .cons (.ty n) (.cons (.ty m) .nil), ty_dat hx hd, ?_, q _ H (Same.refl H) (dat_bl.mpr rfl)⟩
  have e1 : PySem.W.kitOne K (.type s) (.type n) = some (isTy d n) := by
    unfold isTy
    rw [hd]
    exact kit_ty (kit_all s (tyD_mem hd) n hn)
  have e2 : PySem.W.kitOne K (.type s) (.type m) = some (isTy d m) := by
    unfold isTy
    rw [hd]
    exact kit_ty (kit_all s (tyD_mem hd) m hm)
  refine kitAny_cons e1 (fun q1 => ?_) (fun q1 => by rw [q1]; rfl)
  rw [q1]
  exact kitAny_cons e2 (fun q2 => by rw [q2]; exact kitAny_nil) (fun q2 => by rw [q2]; rfl)
/-! ### dicts that are made of pairs, and sorted -/
def keyV : Key → D
  | .inl i => .int i
  | .inr x => .str x
theorem dat_key {H : Hp} {k : Key} {v : V} : Dat K C H (keyV k) v ↔ v = kV k := by
  cases k with
  | inl i => exact dat_int
  | inr x => exact dat_str
theorem datK_nil {H : Hp} {xs : List (Key × V)} : DatK K C H [] xs ↔ xs = [] := by
  unfold DatK
  exact Iff.rfl
theorem datK_cons {H : Hp} {k : Key} {kvs : List (Key × D)} {xs : List (Key × V)} : DatK K C H ((k, d) :: kvs) xs ↔ ∃ x ys, xs = (k, x) :: ys ∧ Dat K C H d x ∧ DatK K C H kvs ys := by
  conv => lhs; unfold DatK
theorem dat_dic_iff {H : Hp} {kvs : List (Key × D)} {v : V} : Dat K C H (.dic kvs) v ↔ ∃ a kws, v = .ref a ∧ H a = some (.dK kws) ∧ DatK K C H kvs kws := by
  unfold Dat
  exact Iff.rfl
def putD (kvs : List (Key × D)) (k : Key) (v : D) : List (Key × D) := if (kvs.any fun p => decide (p.1 = k)) = true then kvs.map (fun p => if p.1 = k then (p.1, v) else p) else kvs ++ [(k, v)]
def mergeD (kvs more : List (Key × D)) : List (Key × D) := more.foldl (fun acc kv => putD acc kv.1 kv.2) kvs
theorem DatK.keys {H : Hp} : ∀ {kvs : List (Key × D)} {xs : List (Key × V)}, DatK K C H kvs xs → xs.map (·.1) = kvs.map (·.1)
  | [], xs, h => by rw [datK_nil.mp h]; rfl
  | (k, d) :: kvs, xs, h => by
    obtain ⟨x, ys, rfl, _, h2⟩ := datK_cons.mp h
    rw [List.map_cons, List.map_cons, h2.keys]
theorem DatK.any {H : Hp} (k : Key) {kvs : List (Key × D)} {xs : List (Key × V)} (h : DatK K C H kvs xs) : (xs.any fun p => decide (p.1 = k)) = kvs.any fun p => decide (p.1 = k) := by
  have e1 : (xs.any fun p => decide (p.1 = k)) = (xs.map (·.1)).any fun j => decide (j = k) := by rw [List.any_map]; rfl
  have e2 : (kvs.any fun p => decide (p.1 = k)) = (kvs.map (·.1)).any fun j => decide (j = k) := by rw [List.any_map]; rfl
  rw [e1, e2, h.keys]
theorem DatK.snoc {H : Hp} {k : Key} {v : V} (hv : Dat K C H d v) : ∀ {kvs : List (Key × D)} {xs : List (Key × V)}, DatK K C H kvs xs → DatK K C H (kvs ++ [(k, d)]) (xs ++ [(k, v)])
  | [], xs, h => by
    rw [datK_nil.mp h]
    exact datK_cons.mpr ⟨v, [], rfl, hv, datK_nil.mpr rfl⟩
  | (j, e) :: kvs, xs, h => by
    obtain ⟨x, ys, rfl, h1, h2⟩ := datK_cons.mp h
    exact datK_cons.mpr ⟨x, ys ++ [(k, v)], rfl, h1, h2.snoc hv⟩
theorem DatK.over {H : Hp} {k : Key} {v : V} (hv : Dat K C H d v) : ∀ {kvs : List (Key × D)} {xs : List (Key × V)}, DatK K C H kvs xs → DatK K C H (kvs.map fun p => if p.1 = k then (p.1, d) else p) (xs.map fun p => if p.1 = k then (p.1, v) else p)
  | [], xs, h => by
    rw [datK_nil.mp h]
    exact datK_nil.mpr rfl
  | (j, e) :: kvs, xs, h => by
    obtain ⟨x, ys, rfl, h1, h2⟩ := datK_cons.mp h
    rw [List.map_cons, List.map_cons]
    by_cases q : j = k
    · rw [if_pos q, if_pos q]
      exact datK_cons.mpr ⟨v, _, rfl, hv, h2.over hv⟩
    · rw [if_neg q, if_neg q]
      exact datK_cons.mpr ⟨x, _, rfl, h1, h2.over hv⟩
theorem DatK.put {H : Hp} {k : Key} {v : V} (hv : Dat K C H d v) {kvs : List (Key × D)} {xs : List (Key × V)} (h : DatK K C H kvs xs) : DatK K C H (putD kvs k d) (putK xs k v) := by
  unfold putD putK
  rw [h.any k]
  by_cases q : (kvs.any fun p => decide (p.1 = k)) = true
  · rw [if_pos q, if_pos q]
    exact h.over hv
  · rw [if_neg q, if_neg q]
    exact h.snoc hv
theorem DatK.merge {H : Hp} : ∀ {more : List (Key × D)} {ms : List (Key × V)} {kvs : List (Key × D)} {xs : List (Key × V)}, DatK K C H more ms → DatK K C H kvs xs → DatK K C H (mergeD kvs more) (mergeK xs ms)
  | [], ms, kvs, xs, h, g => by
    rw [datK_nil.mp h]
    exact g
  | (k, d) :: more, ms, kvs, xs, h, g => by
    obtain ⟨x, ys, rfl, h1, h2⟩ := datK_cons.mp h
    show DatK K C H (mergeD (putD kvs k d) more) (mergeK (putK xs k x) ys)
    exact DatK.merge h2 (DatK.put h1 g)
/-- the pairs of a list of pairs -/
def pairD (kv : Key × D) : D := .tup [keyV kv.1, kv.2]
theorem dats_pairs {O : Addr → Bool} {H : Hp} : ∀ {kvs : List (Key × D)} {xs : List V}, Dats K C (hid O H) (kvs.map pairD) xs →
    ∃ (ps : List Addr) (ms : List (Key × V)), xs = ps.map V.ref ∧ Paired (fun p kv => SqT K H p [kV kv.1, kv.2]) ps ms ∧ DatK K C (hid O H) kvs ms
  | [], xs, h => ⟨[], [], dats_nil.mp h, .nil, datK_nil.mpr rfl⟩
  | (k, d) :: kvs, xs, h => by
    obtain ⟨x, ys, rfl, h1, h2⟩ := dats_cons.mp h
    obtain ⟨a, zs, rfl, h3, h4⟩ := dat_tup_iff.mp h1
    obtain ⟨y1, y2, rfl, h5, h6⟩ := dats_two.mp h4
    obtain ⟨ps, ms, rfl, h7, h8⟩ := dats_pairs h2
    rw [dat_key.mp h5] at h3
    exact ⟨a :: ps, (k, y2) :: ms, rfl, .cons (sqT_of h3) h7, datK_cons.mpr ⟨y2, ms, rfl, h6, h8⟩⟩
theorem new_dic {O : Addr → Bool} {H : Hp} {p : Addr} {kvs : List (Key × D)} {xs : List (Key × V)} (o : OIn O H) (hp : H p = none) (g : DatK K C (hid O H) kvs xs) : Dat K C (hid O (upd H p (.dK xs))) (.dic kvs) (.ref p) :=
  dat_dic_iff.mpr ⟨p, xs, rfl, hid_new o hp, g.same (same_hid (same_new hp))⟩
theorem rn_dictP {kvs : List (Key × D)} : RCN K C (fun xs H Q => ∃ (a : Addr) (ps : List Addr) (kvs : List (Key × V)), xs = [V.ref a] ∧ SqL K H a (ps.map V.ref) ∧ Paired (fun p kv => SqT K H p [kV kv.1, kv.2]) ps kvs ∧
    ∀ p, H p = none → Q (.ref p) (upd H p (.dK (mergeK [] kvs)))) [.lst (kvs.map pairD)] (.dic (mergeD [] kvs)) := fun O H vs o h Q q => by
  obtain ⟨x, rfl, hx⟩ := dats_one.mp h
  obtain ⟨a, xs, rfl, h1, h2⟩ := dat_lst_iff.mp hx
  obtain ⟨ps, ms, rfl, h3, h4⟩ := dats_pairs h2
  exact ⟨a, ps, ms, rfl, sqL_of h1, h3, fun p hp => q p _ (same_new hp) hp (new_dic o hp (h4.merge (datK_nil.mpr rfl)))⟩
/-- sorted(d), the keys ints -/
theorem rn_sortedDI {kvs : List (Key × D)} {ks : List Int} (hk : kvs.map (·.1) = ks.map Sum.inl) (hl : ks.length < 64) : RCN K C (fun xs H Q => ∃ (a : Addr) (kvs : List (Key × V)) (ks : List Int), xs = [V.ref a] ∧ Rd H a (.dK kvs) ∧ kvs.map (·.1) = ks.map Sum.inl ∧ ks.length < 64 ∧
    ∀ (ys : List Int) (p : Addr), ys.Perm ks → ys.Pairwise (· ≤ ·) → H p = none → Q (.ref p) (upd H p (.lst (ys.map V.int)))) [.dic kvs] (.lst (dI (srt ks))) := fun O H vs o h Q q => by
  obtain ⟨x, rfl, hx⟩ := dats_one.mp h
  obtain ⟨a, xs, rfl, h1, h2⟩ := dat_dic_iff.mp hx
  refine ⟨a, xs, ks, rfl, .inl (hid_same _ _ h1), by rw [h2.keys, hk], hl, fun ys p hp hs hn => ?_⟩
  have e : ys = srt ks := perm_le_eq (hp.trans (srt_perm ks).symm) hs (srt_le ks)
  subst e
  exact q p _ (same_new hn) hn (new_lst o hn (dats_ints.mpr rfl))
/-! ### x in xs, flat things -/
def flatD : D → Bool
  | .non => true
  | .bl _ => true
  | .int _ => true
  | .str _ => true
  | _ => false
theorem inV_ints {i : Int} : ∀ {ns : List Int}, inV (.int i) (ns.map V.int) = decide (i ∈ ns)
  | [] => rfl
  | n :: ns => by
    have ih := inV_ints (i := i) (ns := ns)
    unfold inV at ih ⊢
    rw [List.map_cons, List.any_cons, ih]
    have e : eqV (.int n) (.int i) = decide (n = i) := by
      show (n == i) = decide (n = i)
      rw [Bool.eq_iff_iff]
      simp
    rw [e]
    by_cases h : n = i
    · subst h
      simp
    · have h' : ¬ i = n := fun q => h q.symm
      simp [h, h']
theorem flat_ints : ∀ {ns : List Int}, (ns.map V.int).all flatV = true
  | [] => rfl
  | n :: ns => by
    rw [List.map_cons, List.all_cons, flat_ints]
    rfl
theorem r2_in {i : Int} {ns : List Int} : R2D K C (rIn K false) (.int i) (.lst (dI ns)) (.bl (decide (i ∈ ns))) := fun O H x y o hx hy Q q => by
  obtain ⟨a, xs, rfl, h1, h2⟩ := dat_lst_iff.mp hy
  rw [dats_ints.mp h2] at h1
  refine ⟨a, ns.map V.int, rfl, .inl (sqL_of h1), by rw [dat_int.mp hx]; rfl, flat_ints, ?_⟩
  rw [dat_int.mp hx, inV_ints]
  exact q _ H (Same.refl H) (dat_bl.mpr rfl)
theorem r2_notIn {i : Int} {ns : List Int} : R2D K C (rIn K true) (.int i) (.lst (dI ns)) (.bl (!decide (i ∈ ns))) := fun O H x y o hx hy Q q => by
  obtain ⟨a, xs, rfl, h1, h2⟩ := dat_lst_iff.mp hy
  rw [dats_ints.mp h2] at h1
  refine ⟨a, ns.map V.int, rfl, .inl (sqL_of h1), by rw [dat_int.mp hx]; rfl, flat_ints, ?_⟩
  rw [dat_int.mp hx, inV_ints]
  exact q _ H (Same.refl H) (dat_bl.mpr rfl)
/-! ### == of data -/
mutual
def toPy : D → PyData
  | .non => .none
  | .bl b => .bool b
  | .int i => .int i
  | .str x => .str x
  | .lst ds => .list (toPys ds)
  | .tup ds => .tuple (toPys ds)
  | _ => .none
def toPys : List D → List PyData
  | [] => []
  | d :: ds => toPy d :: toPys ds
end
mutual
/-- no dict, recipe, raw value in it -/
def flatAll : D → Bool
  | .non => true
  | .bl _ => true
  | .int _ => true
  | .str _ => true
  | .lst ds => flatAlls ds
  | .tup ds => flatAlls ds
  | _ => false
def flatAlls : List D → Bool
  | [] => true
  | d :: ds => flatAll d && flatAlls ds
end
mutual
theorem dp_of {O : Addr → Bool} {H : Hp} : ∀ (d : D) (v : V), flatAll d = true → Dat K C (hid O H) d v → Dp K H v (toPy d)
  | .non, v, _, h => by
    rw [dat_non.mp h]
    unfold toPy
    exact .non
  | .bl b, v, _, h => by
    rw [dat_bl.mp h]
    unfold toPy
    exact .bl b
  | .int i, v, _, h => by
    rw [dat_int.mp h]
    unfold toPy
    exact .int i
  | .str x, v, _, h => by
    rw [dat_str.mp h]
    unfold toPy
    exact .str x
  | .lst ds, v, f, h => by
    obtain ⟨a, xs, rfl, h1, h2⟩ := dat_lst_iff.mp h
    unfold toPy
    unfold flatAll at f
    exact .lst (sqL_of h1) (dps_of ds xs f h2)
  | .tup ds, v, f, h => by
    obtain ⟨a, xs, rfl, h1, h2⟩ := dat_tup_iff.mp h
    unfold toPy
    unfold flatAll at f
    exact .tup (sqT_of h1) (dps_of ds xs f h2)
  | .dic _, v, f, _ => by
    unfold flatAll at f
    cases f
  | .rcp _ _, v, f, _ => by
    unfold flatAll at f
    cases f
  | .raw _, v, f, _ => by
    unfold flatAll at f
    cases f
  | .dtp _, v, f, _ => by
    unfold flatAll at f
    cases f
theorem dps_of {O : Addr → Bool} {H : Hp} : ∀ (ds : List D) (xs : List V), flatAlls ds = true → Dats K C (hid O H) ds xs → DpAll K H xs (toPys ds)
  | [], xs, _, h => by
    rw [dats_nil.mp h]
    unfold toPys
    exact .nil
  | d :: ds, xs, f, h => by
    obtain ⟨x, ys, rfl, h1, h2⟩ := dats_cons.mp h
    unfold flatAlls at f
    obtain ⟨f1, f2⟩ := Bool.and_eq_true_iff.mp f
    unfold toPys
    exact .cons (dp_of d x f1 h1) (dps_of ds ys f2 h2)
end
def shp (d : D) : Bool := flatAll d && SeqAt.shaped (toPy d)
def eqD (d e : D) : Bool := PyData.eqv (toPy d) (toPy e)
theorem r2_eq (h1 : shp d = true) (h2 : shp e = true) : R2D K C (rEqD K) d e (.bl (eqD d e)) := fun O H x y o hx hy Q q => by
  obtain ⟨a1, a2⟩ := Bool.and_eq_true_iff.mp h1
  obtain ⟨b1, b2⟩ := Bool.and_eq_true_iff.mp h2
  exact ⟨toPy d, toPy e, dp_of d x a1 hx, dp_of e y b1 hy, a2, b2, q _ H (Same.refl H) (dat_bl.mpr rfl)⟩
theorem r2_ne (h1 : shp d = true) (h2 : shp e = true) : R2D K C (rNeD K) d e (.bl (!eqD d e)) := fun O H x y o hx hy Q q => by
  obtain ⟨a1, a2⟩ := Bool.and_eq_true_iff.mp h1
  obtain ⟨b1, b2⟩ := Bool.and_eq_true_iff.mp h2
  exact ⟨toPy d, toPy e, dp_of d x a1 hx, dp_of e y b1 hy, a2, b2, q _ H (Same.refl H) (dat_bl.mpr rfl)⟩
theorem eqD_refl (h : shp d = true) : eqD d d = true := by
  obtain ⟨a1, a2⟩ := Bool.and_eq_true_iff.mp h
  exact SeqAt.eqv_refl _ (SeqAt.canLay_of_shaped a2)
theorem eqD_int {i j : Int} : eqD (.int i) (.int j) = decide (i = j) := by
  unfold eqD toPy PyData.eqv
  rw [Bool.eq_iff_iff]
  simp
theorem eqD_bl {i j : Bool} : eqD (.bl i) (.bl j) = (i == j) := by
  unfold eqD toPy PyData.eqv
  rfl
theorem shp_int {i : Int} : shp (.int i) = true := by rfl
theorem shp_bl {i : Bool} : shp (.bl i) = true := by rfl
theorem shp_non : shp .non = true := by rfl
/-! ### recipes -/
theorem dat_rcp_iff {H : Hp} {m : Int} {rows : List (List Int)} {v : V} : Dat K C H (.rcp m rows) v ↔ ∃ a dx t xs, v = .ref a ∧ H a = some (.ins C dx (fsR m t)) ∧ H t = some (.tup xs) ∧ RowsT K H rows xs := by
  unfold Dat
  exact Iff.rfl
theorem fsR_no {m : Str} {c : Int} {t : Addr} (hm : ¬ m = sMany) (hm2 : ¬ m = sNeeds) : (fsR c t).lookup m = none := by
  have e1 : (m == sMany) = false := beq_eq_false_iff_ne.mpr hm
  have e2 : (m == sNeeds) = false := beq_eq_false_iff_ne.mpr hm2
  unfold fsR
  rw [List.lookup_cons, e1]
  show ([(sNeeds, V.ref t)] : List (Str × V)).lookup m = none
  rw [List.lookup_cons, e2]
  rfl
/-- o.m(..) of a recipe -/
theorem ev_meth {pre : List D → Prop} {f : List D → D} {n : Nat} {E : XK} {tr : TA} {m : Str} {c : Int} {rows : List (List Int)} (h : EvD K C te δ (.rcp c rows)) (ha : EvA K C tr δ ds) (hm : ¬ m = sMany) (hm2 : ¬ m = sNeeds) (hn : ds.length + 1 = n) (hp : pre (.rcp c rows :: ds)) :
    EvD K C (tMeth C m (SpD K C pre f n) [] E te tr) δ (f (.rcp c rows :: ds)) := fun O σ H n Q q => h O σ H n _ fun v H1 s1 d1 => by
  obtain ⟨a, dx, t, xs, rfl, h1, h2, h3⟩ := dat_rcp_iff.mp d1
  refine ⟨a, dx, fsR c t, rfl, hid_same _ _ h1, ?_, ha O σ H1 (n.same s1) _ fun vs H2 s2 d2 => ?_⟩
  · exact fsR_no hm hm2
  · show SpD K C pre f _ (.ref a :: (vs ++ [])) H2 Q E
    rw [List.append_nil]
    exact ⟨by rw [List.length_cons, d2.length, hn], O, _, (n.same (s1.trans s2)).own, .cons (d1.same (same_hid s2)) d2, hp, fun v H3 s3 d3 => q v H3 ((s1.trans s2).trans s3) d3⟩
theorem en_meth {pre : List D → Prop} {f : List D → D} {n : Nat} {E : XK} {tr : TA} {m : Str} {c : Int} {rows : List (List Int)} (h : EvD K C te δ (.rcp c rows)) (ha : EvA K C tr δ ds) (hm : ¬ m = sMany) (hm2 : ¬ m = sNeeds) (hn : ds.length + 1 = n) (hp : pre (.rcp c rows :: ds)) :
    EvN K C (tMeth C m (SpN K C pre f n) [] E te tr) δ (f (.rcp c rows :: ds)) := fun O σ H n Q q => h O σ H n _ fun v H1 s1 d1 => by
  obtain ⟨a, dx, t, xs, rfl, h1, h2, h3⟩ := dat_rcp_iff.mp d1
  refine ⟨a, dx, fsR c t, rfl, hid_same _ _ h1, ?_, ha O σ H1 (n.same s1) _ fun vs H2 s2 d2 => ?_⟩
  · exact fsR_no hm hm2
  · show SpN K C pre f _ (.ref a :: (vs ++ [])) H2 Q E
    rw [List.append_nil]
    exact ⟨by rw [List.length_cons, d2.length, hn], O, _, (n.same (s1.trans s2)).own, .cons (d1.same (same_hid s2)) d2, hp, fun v H3 s3 hp d3 => q v H3 ((s1.trans s2).trans s3) (back_none (s1.trans s2) hp) d3⟩
/-- self._many -/
theorem ev_many {c : Int} {rows : List (List Int)} (cl : Cls K C) (na : NoAttr K C sMany) (h : EvD K C te δ (.rcp c rows)) : EvD K C (tFld K te sMany) δ (.int c) := fun O σ H n Q q => h O σ H n _ fun v H1 s1 d1 => by
  obtain ⟨a, dx, t, xs, rfl, h1, h2, h3⟩ := dat_rcp_iff.mp d1
  exact ⟨a, C, dx, _, .int c, rfl, hid_same _ _ h1, cl, na, by unfold fsR; rfl, q _ H1 s1 (dat_int.mpr rfl)⟩
theorem rows_dats {H : Hp} : ∀ {rows : List (List Int)} {xs : List V}, RowsT K H rows xs → Dats K C H (rows.map fun r => D.tup (dI r)) xs
  | [], xs, h => dats_nil.mpr h
  | r :: rows, xs, h => by
    obtain ⟨a, ys, rfl, h1, h2⟩ := h
    exact dats_cons.mpr ⟨_, _, rfl, dat_tup_iff.mpr ⟨a, _, rfl, h1, dats_ints.mpr rfl⟩, rows_dats h2⟩
theorem dats_rows {H : Hp} : ∀ {rows : List (List Int)} {xs : List V}, Dats K C H (rows.map fun r => D.tup (dI r)) xs → RowsT K H rows xs
  | [], xs, h => dats_nil.mp h
  | r :: rows, xs, h => by
    obtain ⟨x, ys, rfl, h1, h2⟩ := dats_cons.mp h
    obtain ⟨a, zs, rfl, h3, h4⟩ := dat_tup_iff.mp h1
    rw [dats_ints.mp h4] at h3
    exact ⟨a, ys, rfl, h3, dats_rows h2⟩
/-- the needs as they are kept -/
def rowsD (rows : List (List Int)) : D := .tup (rows.map fun r => D.tup (dI r))
/-- the needs as they are told -/
def rowsL (rows : List (List Int)) : D := .lst (rows.map fun r => D.lst (dI r))
theorem ev_needs {c : Int} {rows : List (List Int)} (cl : Cls K C) (na : NoAttr K C sNeeds) (h : EvD K C te δ (.rcp c rows)) : EvD K C (tFld K te sNeeds) δ (rowsD rows) := fun O σ H n Q q => h O σ H n _ fun v H1 s1 d1 => by
  obtain ⟨a, dx, t, xs, rfl, h1, h2, h3⟩ := dat_rcp_iff.mp d1
  exact ⟨a, C, dx, _, .ref t, rfl, hid_same _ _ h1, cl, na, by unfold fsR; rfl, q _ H1 s1 (dat_tup_iff.mpr ⟨t, xs, rfl, h2, rows_dats h3⟩)⟩
end
end Zm


set_option Elab.async false
set_option linter.all false
set_option maxRecDepth 100000
set_option maxHeartbeats 4000000
set_option autoImplicit false
namespace Zm
open PySem PySem.Spec L2
section
variable {X : Cx} {e : Expr} {es : List Expr} {t : TA} {te : TE} {p pos : Pos}
theorem c_isi {K : PySem.W.Frag} (b : BFree X.mg) (ha : PA X (e :: es) t) (hg : Gl X "isinstance" := by rfl) (hK : X.K = K := by rfl)
    (he : starEach (e :: es) X.env = (false, eval e X.env) :: starEach es X.env := by rfl) (hpl : (backTo pos (starEach es X.env)).any (·.1) = false := by rfl) :
    PE X (.Call (.Name "isinstance" p) (e :: es) [] pos) (tCB (rIsi K) t) := by
  subst hK
  exact pe_callB call_isi hg (b _ (by decide)) (by decide +kernel) ha (he := he) (hpl := hpl)
theorem c_isi2 {K : PySem.W.Frag} (b : BFree X.mg) (ha : PA X (e :: es) t) (hg : Gl X "isinstance" := by rfl) (hK : X.K = K := by rfl)
    (he : starEach (e :: es) X.env = (false, eval e X.env) :: starEach es X.env := by rfl) (hpl : (backTo pos (starEach es X.env)).any (·.1) = false := by rfl) :
    PE X (.Call (.Name "isinstance" p) (e :: es) [] pos) (tCB (rIsiT K) t) := by
  subst hK
  exact pe_callB call_isiT hg (b _ (by decide)) (by decide +kernel) ha (he := he) (hpl := hpl)
theorem c_len {K : PySem.W.Frag} (b : BFree X.mg) (ha : PA X (e :: es) t) (hg : Gl X "len" := by rfl) (hK : X.K = K := by rfl)
    (he : starEach (e :: es) X.env = (false, eval e X.env) :: starEach es X.env := by rfl) (hpl : (backTo pos (starEach es X.env)).any (·.1) = false := by rfl) :
    PE X (.Call (.Name "len" p) (e :: es) [] pos) (tCB (fun xs H Q => ∃ p ys, xs = [V.ref p] ∧ (SqL K H p ys ∨ SqT K H p ys) ∧ Q (.int ys.length) H) t) := by
  subst hK
  exact pe_callB call_len_seq hg (b _ (by decide)) (by decide +kernel) ha (he := he) (hpl := hpl)
theorem c_sum {K : PySem.W.Frag} (b : BFree X.mg) (ha : PA X (e :: es) t) (hg : Gl X "sum" := by rfl) (hc : X.calm = true := by rfl) (hK : X.K = K := by rfl)
    (he : starEach (e :: es) X.env = (false, eval e X.env) :: starEach es X.env := by rfl) (hpl : (backTo pos (starEach es X.env)).any (·.1) = false := by rfl) :
    PE X (.Call (.Name "sum" p) (e :: es) [] pos) (tCB (rSum K) t) := by
  subst hK
  exact pe_callB (cr_sum hc) hg (b _ (by decide)) (by decide +kernel) ha (he := he) (hpl := hpl)
theorem c_all {K : PySem.W.Frag} (b : BFree X.mg) (ha : PA X (e :: es) t) (hg : Gl X "all" := by rfl) (hc : X.calm = true := by rfl) (hK : X.K = K := by rfl)
    (he : starEach (e :: es) X.env = (false, eval e X.env) :: starEach es X.env := by rfl) (hpl : (backTo pos (starEach es X.env)).any (·.1) = false := by rfl) :
    PE X (.Call (.Name "all" p) (e :: es) [] pos) (tCB (rAll K) t) := by
  subst hK
  exact pe_callB (cr_all hc) hg (b _ (by decide)) (by decide +kernel) ha (he := he) (hpl := hpl)
theorem c_any {K : PySem.W.Frag} (b : BFree X.mg) (ha : PA X (e :: es) t) (hg : Gl X "any" := by rfl) (hc : X.calm = true := by rfl) (hK : X.K = K := by rfl)
    (he : starEach (e :: es) X.env = (false, eval e X.env) :: starEach es X.env := by rfl) (hpl : (backTo pos (starEach es X.env)).any (·.1) = false := by rfl) :
    PE X (.Call (.Name "any" p) (e :: es) [] pos) (tCB (rAny K) t) := by
  subst hK
  exact pe_callB (cr_any hc) hg (b _ (by decide)) (by decide +kernel) ha (he := he) (hpl := hpl)
theorem c_maxL {K : PySem.W.Frag} (b : BFree X.mg) (ha : PA X (e :: es) t) (hg : Gl X "max" := by rfl) (hc : X.calm = true := by rfl) (hK : X.K = K := by rfl)
    (he : starEach (e :: es) X.env = (false, eval e X.env) :: starEach es X.env := by rfl) (hpl : (backTo pos (starEach es X.env)).any (·.1) = false := by rfl) :
    PE X (.Call (.Name "max" p) (e :: es) [] pos) (tCB (rMax K) t) := by
  subst hK
  exact pe_callB (cr_max hc) hg (b _ (by decide)) (by decide +kernel) ha (he := he) (hpl := hpl)
theorem c_minL {K : PySem.W.Frag} (b : BFree X.mg) (ha : PA X (e :: es) t) (hg : Gl X "min" := by rfl) (hc : X.calm = true := by rfl) (hK : X.K = K := by rfl)
    (he : starEach (e :: es) X.env = (false, eval e X.env) :: starEach es X.env := by rfl) (hpl : (backTo pos (starEach es X.env)).any (·.1) = false := by rfl) :
    PE X (.Call (.Name "min" p) (e :: es) [] pos) (tCB (rMin K) t) := by
  subst hK
  exact pe_callB (cr_min hc) hg (b _ (by decide)) (by decide +kernel) ha (he := he) (hpl := hpl)
theorem c_max2 {K : PySem.W.Frag} (b : BFree X.mg) (ha : PA X (e :: es) t) (hg : Gl X "max" := by rfl) (hc : X.calm = true := by rfl) (hK : X.K = K := by rfl)
    (he : starEach (e :: es) X.env = (false, eval e X.env) :: starEach es X.env := by rfl) (hpl : (backTo pos (starEach es X.env)).any (·.1) = false := by rfl) :
    PE X (.Call (.Name "max" p) (e :: es) [] pos) (tCB (fun xs H Q => ∃ i j, xs = [V.int i, V.int j] ∧ Q (.int (if j > i then j else i)) H) t) := by
  subst hK
  exact pe_callB (call_max2 hc) hg (b _ (by decide)) (by decide +kernel) ha (he := he) (hpl := hpl)
theorem c_min2 {K : PySem.W.Frag} (b : BFree X.mg) (ha : PA X (e :: es) t) (hg : Gl X "min" := by rfl) (hc : X.calm = true := by rfl) (hK : X.K = K := by rfl)
    (he : starEach (e :: es) X.env = (false, eval e X.env) :: starEach es X.env := by rfl) (hpl : (backTo pos (starEach es X.env)).any (·.1) = false := by rfl) :
    PE X (.Call (.Name "min" p) (e :: es) [] pos) (tCB (fun xs H Q => ∃ i j, xs = [V.int i, V.int j] ∧ Q (.int (if j < i then j else i)) H) t) := by
  subst hK
  exact pe_callB (call_min2 hc) hg (b _ (by decide)) (by decide +kernel) ha (he := he) (hpl := hpl)
theorem c_sorted {K : PySem.W.Frag} (b : BFree X.mg) (ha : PA X (e :: es) t) (hg : Gl X "sorted" := by rfl) (hK : X.K = K := by rfl)
    (he : starEach (e :: es) X.env = (false, eval e X.env) :: starEach es X.env := by rfl) (hpl : (backTo pos (starEach es X.env)).any (·.1) = false := by rfl) :
    PE X (.Call (.Name "sorted" p) (e :: es) [] pos) (tCB (rSortedI K) t) := by
  subst hK
  exact pe_callB cr_sortedI hg (b _ (by decide)) (by decide +kernel) ha (he := he) (hpl := hpl)
theorem c_sortedDI {K : PySem.W.Frag} (b : BFree X.mg) (ha : PA X (e :: es) t) (hg : Gl X "sorted" := by rfl) (hc : X.calm = true := by rfl) (hK : X.K = K := by rfl)
    (he : starEach (e :: es) X.env = (false, eval e X.env) :: starEach es X.env := by rfl) (hpl : (backTo pos (starEach es X.env)).any (·.1) = false := by rfl) :
    PE X (.Call (.Name "sorted" p) (e :: es) [] pos) (tCB (fun xs H Q => ∃ (a : Addr) (kvs : List (Key × V)) (ks : List Int), xs = [V.ref a] ∧ Rd H a (.dK kvs) ∧ kvs.map (·.1) = ks.map Sum.inl ∧ ks.length < 64 ∧ ∀ (ys : List Int) (p : Addr), ys.Perm ks → ys.Pairwise (· ≤ ·) → H p = none → Q (.ref p) (upd H p (.lst (ys.map V.int)))) t) := by
  subst hK
  exact pe_callB (call_sortedDI hc) hg (b _ (by decide)) (by decide +kernel) ha (he := he) (hpl := hpl)
theorem c_int {K : PySem.W.Frag} (b : BFree X.mg) (ha : PA X (e :: es) t) (hg : Gl X "int" := by rfl) (hK : X.K = K := by rfl)
    (he : starEach (e :: es) X.env = (false, eval e X.env) :: starEach es X.env := by rfl) (hpl : (backTo pos (starEach es X.env)).any (·.1) = false := by rfl) :
    PE X (.Call (.Name "int" p) (e :: es) [] pos) (tCB (fun xs H Q => (∃ i, xs = [V.int i] ∧ Q (.int i) H) ∨ ∃ k, xs = [V.bl k] ∧ Q (.int (if k then 1 else 0)) H) t) := by
  subst hK
  exact pe_callTy call_int1 hg (b _ (by decide)) (by decide +kernel) ha (he := he) (hpl := hpl)
theorem c_list {K : PySem.W.Frag} (b : BFree X.mg) (ha : PA X (e :: es) t) (hg : Gl X "list" := by rfl) (hK : X.K = K := by rfl)
    (he : starEach (e :: es) X.env = (false, eval e X.env) :: starEach es X.env := by rfl) (hpl : (backTo pos (starEach es X.env)).any (·.1) = false := by rfl) :
    PE X (.Call (.Name "list" p) (e :: es) [] pos) (tCB (fun xs H Q => ∃ p ys, xs = [V.ref p] ∧ (SqL K H p ys ∨ SqT K H p ys) ∧ ∀ l, H l = none → Q (.ref l) (upd H l (.lst ys))) t) := by
  subst hK
  exact pe_callTy call_list_of hg (b _ (by decide)) (by decide +kernel) ha (he := he) (hpl := hpl)
theorem c_tuple {K : PySem.W.Frag} (b : BFree X.mg) (ha : PA X (e :: es) t) (hg : Gl X "tuple" := by rfl) (hK : X.K = K := by rfl)
    (he : starEach (e :: es) X.env = (false, eval e X.env) :: starEach es X.env := by rfl) (hpl : (backTo pos (starEach es X.env)).any (·.1) = false := by rfl) :
    PE X (.Call (.Name "tuple" p) (e :: es) [] pos) (tCB (fun xs H Q => ∃ p ys, xs = [V.ref p] ∧ ((SqL K H p ys ∧ ∀ l, H l = none → Q (.ref l) (upd H l (.tup ys))) ∨ (SqT K H p ys ∧ Q (.ref p) H))) t) := by
  subst hK
  exact pe_callTy call_tuple_of hg (b _ (by decide)) (by decide +kernel) ha (he := he) (hpl := hpl)
theorem c_dictP {K : PySem.W.Frag} (b : BFree X.mg) (ha : PA X (e :: es) t) (hg : Gl X "dict" := by rfl) (hc : X.calm = true := by rfl) (hK : X.K = K := by rfl)
    (he : starEach (e :: es) X.env = (false, eval e X.env) :: starEach es X.env := by rfl) (hpl : (backTo pos (starEach es X.env)).any (·.1) = false := by rfl) :
    PE X (.Call (.Name "dict" p) (e :: es) [] pos) (tCB (fun xs H Q => ∃ (a : Addr) (ps : List Addr) (kvs : List (Key × V)), xs = [V.ref a] ∧ SqL K H a (ps.map V.ref) ∧ Paired (fun p kv => SqT K H p [kV kv.1, kv.2]) ps kvs ∧ ∀ p, H p = none → Q (.ref p) (upd H p (.dK (mergeK [] kvs)))) t) := by
  subst hK
  exact pe_callTy (call_dictP hc) hg (b _ (by decide)) (by decide +kernel) ha (he := he) (hpl := hpl)
theorem n_ty {x : Str} {n : String} (b : BFree X.mg) (hx : x ∈ bNames := by decide) (hv : bootBuiltins x = some (.type n) := by decide +kernel) (hg : Gl X x := by rfl) (hn : x ≠ "__name__" := by decide) (hd : (x == ("__debug__" : Str)) = false := by decide) :
    PE X (.Name x pos) (tC (.ty n)) := pe_bltn hg (b x hx) hv rfl hn hd
theorem i_rng1 {tg a : Expr} {ta : TA} (b : BFree X.mg) (ha : PA X [a] ta) (hg : Gl X "range" := by rfl) (hs : starEach [a] X.env = [(false, eval a X.env)] := by rfl) : PI X tg (.Call (.Name "range" p) [a] [] pos) (iRng1 ta) :=
  pi_range1 hg (b _ (by decide)) ha hs
theorem i_rng2 {tg a c : Expr} {ta : TA} (b : BFree X.mg) (ha : PA X [a, c] ta) (hg : Gl X "range" := by rfl) (hs : starEach [a, c] X.env = [(false, eval a X.env), (false, eval c X.env)] := by rfl) (hs2 : starEach [c] X.env = [(false, eval c X.env)] := by rfl) :
    PI X tg (.Call (.Name "range" p) [a, c] [] pos) (iRng2 ta) := pi_range2 hg (b _ (by decide)) ha hs hs2
/-! the same for what a rule says of the written part -/
theorem o_eq {K : PySem.W.Frag} (hu : X.A.units + 64 < cLine) (hK : X.K = K := by rfl) : OpR X (compareOp .Eq) (rEqD K) := by
  subst hK
  exact op_eqD hu
theorem o_ne {K : PySem.W.Frag} (hu : X.A.units + 64 < cLine) (hK : X.K = K := by rfl) : OpR X (compareOp .NotEq) (rNeD K) := by
  subst hK
  exact op_neD hu
theorem o_in {K : PySem.W.Frag} (hK : X.K = K := by rfl) : OpR X (compareOp .In) (rIn K false) := by
  subst hK
  exact op_in_seq
theorem o_notIn {K : PySem.W.Frag} (hK : X.K = K := by rfl) : OpR X (compareOp .NotIn) (rIn K true) := by
  subst hK
  exact op_notIn_seq
theorem x_list {K : PySem.W.Frag} (hK : X.K = K := by rfl) : IxR X (rIxL K) := by
  subst hK
  exact ix_list
theorem x_tup {K : PySem.W.Frag} (hK : X.K = K := by rfl) : IxR X (rIxT K) := by
  subst hK
  exact ix_tup
theorem x_sl {K : PySem.W.Frag} (hK : X.K = K := by rfl) : SlR X (rSlL K) := by
  subst hK
  exact sl_list
theorem i_list {K : PySem.W.Frag} {tg l : Expr} {tl : TE} (hl : PE X l tl) (hK : X.K = K := by rfl) : PI X tg l (iList K tl) := by
  subst hK
  exact pi_list hl
theorem i_tup {K : PySem.W.Frag} {tg l : Expr} {tl : TE} (hl : PE X l tl) (hK : X.K = K := by rfl) : PI X tg l (iTup K tl) := by
  subst hK
  exact pi_tup hl
theorem g_tup {K : PySem.W.Frag} {es : List Expr} {k n : Nat} {t : TGs} (h : PGs X es t) (hc : X.calm = true := by rfl) (hn : (assignEach es X.env).length = n := by rfl) (hst : (assignEach es X.env).findIdx? (·.1) = none := by rfl) (hK : X.K = K := by rfl) : PG X (.Tuple es k pos) (gTup K n t) := by
  subst hK
  exact pg_tup hc h hn hst
theorem e_fld {K : PySem.W.Frag} {f : Str} {ta : TE} (he : PE X e ta) (hb : attributeBase e f X.env (eval e X.env) = eval e X.env := by rfl) (hK : X.K = K := by rfl) : PE X (.Attribute e f pos) (tFld K ta f) := by
  subst hK
  exact pe_fld he hb
/-- a method of the class at C -/
structure MethOk (P : Program) (w : World) (K : PySem.W.Frag) (mg : Str → Option Value) (base : Heap) (C : Addr) (m : Str) (k : Nat) (ps : List Str) (sp : Sp) : Prop where
  cl : Cls K C
  ex : ∃ (f : Addr) (fd : FuncData), FnOk P w K mg base CX0 k f fd ps sp ∧ Meth K C m f ∧ Binds K fd ps []
end
end Zm


set_option Elab.async false
set_option linter.all false
set_option maxRecDepth 100000
set_option maxHeartbeats 4000000
set_option autoImplicit false
namespace Zm
open PySem PySem.Spec L2

/-! ### evaluation that draws from the purse in slot 0 -/
structure AtP (K : PySem.W.Frag) (C : Addr) (O : Addr → Bool) (H : Hp) (σ : L2.St) (δ : Dl) (p : Addr) (n : Nat) : Prop where
  at_ : At K C O H σ δ
  own : O p = true
  purse : PurseIs n H p
  slot : σ[0]? = some (some (.ref p))
section
variable {K : PySem.W.Frag} {C : Addr} {O : Addr → Bool} {H H' : Hp} {σ : L2.St} {δ : Dl} {p : Addr} {n m : Nat}
theorem but_hid (s : But p H H') (h : O p = true) : Same (hid O H) (hid O H') := fun a o e => by
  unfold hid at e ⊢
  split at e
  · cases e
  · rename_i q
    rw [if_neg q]
    exact s a o (fun z => by rw [z] at q; exact q h) e
theorem PurseIs.some (h : PurseIs n H p) : H p ≠ none := by
  obtain ⟨a, b, c, d, h, _⟩ := h
  rw [h]
  exact fun q => by cases q
theorem but_own (o : OIn O H) (s : But p H H') (h : PurseIs m H' p) : OIn O H' := by
  refine ⟨fun a e q => ?_, fun a v e q => ?_⟩
  · by_cases hp : a = p
    · subst hp
      exact h.some q
    · have h1 := o a e
      cases r : H a with
      | none => exact h1 r
      | some u =>
        rw [s a u hp r] at q
        cases q
  · by_cases hp : a = p
    · subst hp
      obtain ⟨x, y, z, w, h0, _⟩ := h
      rw [h0] at q
      rw [← Option.some.inj q]
      trivial
    · have h1 := o a e
      cases r : H a with
      | none => exact absurd r h1
      | some u =>
        rw [s a u hp r] at q
        rw [← Option.some.inj q]
        exact o.nt a u e r
theorem AtP.but (x : AtP K C O H σ δ p n) (s : But p H H') (h : PurseIs m H' p) : AtP K C O H' σ δ p m := ⟨⟨but_own x.at_.own s h, x.at_.env.same (but_hid s x.own)⟩, x.own, h, x.slot⟩
theorem PurseIs.same (h : PurseIs n H p) (s : Same H H') : PurseIs n H' p := by
  obtain ⟨a, b, c, d, h0, h1⟩ := h
  exact ⟨a, b, c, d, s _ _ h0, h1⟩
theorem PurseIs.upd {q : Addr} {o : HO} (h : PurseIs n H p) (hq : q ≠ p) : PurseIs n (L2.upd H q o) p := by
  obtain ⟨a, b, c, d, h0, h1⟩ := h
  exact ⟨a, b, c, d, by rw [upd_ne hq.symm]; exact h0, h1⟩
theorem AtP.mono (x : AtP K C O H σ δ p n) (h : n ≤ m) : AtP K C O H σ δ p m := ⟨x.at_, x.own, x.purse.mono h, x.slot⟩
end
section
variable (K : PySem.W.Frag) (C : Addr)
def EvP (te : TE) (δ : Dl) (c : Nat) (R : D → Prop) : Prop := ∀ O σ H p n, AtP K C O H σ δ p n → n + c ≤ 1000000 → ∀ Q : VK, (∀ v H' d, But p H H' → PurseIs (n + c) H' p → R d → Dat K C (hid O H') d v → Q v H') → te σ H Q
def EvPT (tt : TT) (δ : Dl) (c : Nat) (B : Bool → Prop) : Prop := ∀ O σ H p n, AtP K C O H σ δ p n → n + c ≤ 1000000 → ∀ Q : Bool → Hp → Prop, (∀ b H', But p H H' → PurseIs (n + c) H' p → B b → Q b H') → tt σ H Q
def EvPA (ta : TA) (δ : Dl) (c : Nat) (R : List D → Prop) : Prop := ∀ O σ H p n, AtP K C O H σ δ p n → n + c ≤ 1000000 → ∀ Q : List V → Hp → Prop, (∀ vs H' ds, But p H H' → PurseIs (n + c) H' p → R ds → Dats K C (hid O H') ds vs → Q vs H') → ta σ H Q
def EvPI (ti : TI) (δ : Dl) (c : Nat) (R : List D → Prop) : Prop := ∀ O σ H p n, AtP K C O H σ δ p n → n + c ≤ 1000000 → ∀ Z : It → Hp → Prop, (∀ J H' ds, But p H H' → PurseIs (n + c) H' p → R ds → WalkD K C O H' J ds → Z J H') → ti σ H Z
/-- ends by a return of something that R tells -/
def StP (ts : TS) (δ : Dl) (c : Nat) (R : D → Prop) : Prop := ∀ O σ H p n, AtP K C O H σ δ p n → n + c ≤ 1000000 → ∀ Z : Ends, (∀ v H' d, But p H H' → PurseIs (n + c) H' p → R d → Dat K C (hid O H') d v → Z.rt v H') → ts Z σ H
end
section
variable {K : PySem.W.Frag} {C : Addr} {δ : Dl} {ta tb te : TE} {tr : TA} {R R1 R2 : D → Prop} {c c1 c2 : Nat} {d e z : D}
theorem ep_d (h : EvD K C te δ d) : EvP K C te δ 0 (fun x => x = d) := fun O σ H p n x hn Q q => h O σ H x.at_ Q fun v H' s hd => q v H' d (But.of s) (x.purse.same s) rfl hd
theorem ep_imp (h : EvP K C te δ c R) (g : ∀ d, R d → R1 d) (hc : c ≤ c1) : EvP K C te δ c1 R1 := fun O σ H p n x hn Q q => h O σ H p n x (by omega) Q fun v H' d s pu r hd => q v H' d s (pu.mono (by omega)) (g d r) hd
theorem ep_op {r : L2.R2} (ha : EvP K C ta δ c1 R1) (hb : EvP K C tb δ c2 R2) (hr : ∀ d e, R1 d → R2 e → ∃ z, R2D K C r d e z ∧ R z) : EvP K C (tOp r ta tb) δ (c1 + c2) R := fun O σ H p n x hn Q q =>
  ha O σ H p n x (by omega) _ fun v H1 d1 s1 p1 r1 hd1 => hb O σ H1 p _ (x.but s1 p1) (by omega) _ fun w H2 d2 s2 p2 r2 hd2 => by
    obtain ⟨z, k1, k2⟩ := hr d1 d2 r1 r2
    refine k1 O H2 v w (but_own (but_own x.at_.own s1 p1) s2 p2) (hd1.same (but_hid s2 x.own)) hd2 Q fun y H3 s3 hd3 => q y H3 z ((s1.trans s2).trans (But.of s3)) ?_ k2 hd3
    have e : n + c1 + c2 = n + (c1 + c2) := by omega
    rw [← e]
    exact p2.same s3
theorem epa_nil : EvPA K C tNil δ 0 (fun ds => ds = []) := fun O σ H p n x hn Q q => q [] H [] (But.refl p H) x.purse rfl .nil
theorem epa_cons {Rs : List D → Prop} (ha : EvP K C ta δ c1 R1) (hr : EvPA K C tr δ c2 Rs) : EvPA K C (tCons ta tr) δ (c1 + c2) (fun ds => ∃ d es, ds = d :: es ∧ R1 d ∧ Rs es) := fun O σ H p n x hn Q q =>
  ha O σ H p n x (by omega) _ fun v H1 d1 s1 p1 r1 hd1 => hr O σ H1 p _ (x.but s1 p1) (by omega) _ fun vs H2 d2 s2 p2 r2 hd2 =>
    q _ H2 (d1 :: d2) (s1.trans s2) (by rw [← Nat.add_assoc]; exact p2) ⟨d1, d2, rfl, r1, r2⟩ (.cons (hd1.same (but_hid s2 x.own)) hd2)
theorem epa_imp {Rs Rs' : List D → Prop} (h : EvPA K C tr δ c Rs) (g : ∀ d, Rs d → Rs' d) (hc : c ≤ c1) : EvPA K C tr δ c1 Rs' := fun O σ H p n x hn Q q => h O σ H p n x (by omega) Q fun v H' d s pu r hd => q v H' d s (pu.mono (by omega)) (g d r) hd
/-- a draw -/
theorem ep_draw {E : XK} {m : Int} (h : EvD K C te δ (.int m)) (h0 : 0 < m) (h1 : m < 1000000) : EvP K C (tCall spDraw [] E (tCons (tVar 0) (tCons te tNil))) δ 1 (fun d => ∃ i, d = .int i ∧ 0 ≤ i ∧ i < m) := fun O σ H p n x hn Q q =>
  ⟨_, x.slot, h O σ H x.at_ _ fun v H1 s1 d1 => by
    rw [dat_int.mp d1]
    exact ⟨p, n, m, rfl, x.purse.same s1, by omega, h0, h1, fun i H' i0 i1 b pu => q _ H' (.int i) ((But.of s1).trans b) pu ⟨i, rfl, i0, i1⟩ (dat_int.mpr rfl)⟩⟩
/-- a built-in's call -/
theorem ep_cb {r : List V → Hp → VK → Prop} {Rs : List D → Prop} (ha : EvPA K C tr δ c Rs) (hr : ∀ ds, Rs ds → ∃ z, RCD K C r ds z ∧ R z) : EvP K C (tCB r tr) δ c R := fun O σ H p n x hn Q q =>
  ha O σ H p n x hn _ fun vs H1 ds s1 p1 r1 hd1 => by
    obtain ⟨z, k1, k2⟩ := hr ds r1
    exact k1 O H1 vs (but_own x.at_.own s1 p1) hd1 Q fun y H3 s3 hd3 => q y H3 z (s1.trans (But.of s3)) (p1.same s3) k2 hd3
theorem RCN.toD {r : List V → Hp → VK → Prop} {ds : List D} (h : RCN K C r ds z) : RCD K C r ds z := fun O H vs o hd Q q => h O H vs o hd Q fun p H' s _ hd' => q _ H' s hd'
theorem R2N.toD {r : L2.R2} (h : R2N K C r d e z) : R2D K C r d e z := fun O H x y o hx hy Q q => h O H x y o hx hy Q fun p H' s _ hd' => q _ H' s hd'
/-- a list of drawn things -/
theorem ep_lst {Rs : List D → Prop} (ha : EvPA K C tr δ c Rs) (hl : ∀ ds, Rs ds → ds.length ≤ 100000) : EvP K C (tLst tr) δ c (fun d => ∃ ds, d = .lst ds ∧ Rs ds) := fun O σ H p n x hn Q q =>
  ha O σ H p n x hn _ fun vs H1 ds s1 p1 r1 hd1 => ⟨by rw [hd1.length]; exact Nat.le_trans (hl ds r1) (by decide), fun l hl => by
    have o1 := but_own x.at_.own s1 p1
    exact q _ _ (.lst ds) (s1.trans (But.of (same_new hl))) (p1.same (same_new hl)) ⟨ds, rfl, r1⟩ (new_lst o1 hl hd1)⟩
theorem epi_of {ti : TI} {ds : List D} (h : EvI K C ti δ ds) : EvPI K C ti δ 0 (fun x => x = ds) := fun O σ H p n x hn Z q => h O σ H x.at_ Z fun J H' s w => q J H' ds (But.of s) (x.purse.same s) rfl w
theorem epi_rng1 (h : EvP K C ta δ c (fun d => ∃ i, d = .int i ∧ R1 (.int i))) (hb : ∀ i, R1 (.int i) → -(2 ^ 62) ≤ i ∧ i < 2 ^ 62) : EvPI K C (iRng1 (tCons ta tNil)) δ c (fun ds => ∃ i, ds = rngD 0 i.toNat ∧ R1 (.int i)) := fun O σ H p n x hn Z q =>
  h O σ H p n x hn _ fun v H1 d s1 p1 r1 hd => by
    obtain ⟨i, rfl, ri⟩ := r1
    rw [dat_int.mp hd]
    exact ⟨i, rfl, (hb i ri).1, (hb i ri).2, q _ H1 _ s1 p1 ⟨i, rfl, ri⟩ walk_rng⟩
/-- items left out (where the test may say so), or given out as Re tells -/
inductive Picks {α : Type} (B : Bool → Prop) (Re : α → D → Prop) : List α → List D → Prop where
  | nil : Picks B Re [] []
  | skip {a : α} {as : List α} {ds : List D} : Picks B Re as ds → B false → Picks B Re (as ++ [a]) ds
  | take {a : α} {as : List α} {ds : List D} {d : D} : Picks B Re as ds → Re a d → Picks B Re (as ++ [a]) (ds ++ [d])
theorem Picks.len {α : Type} {B : Bool → Prop} {Re : α → D → Prop} {as : List α} {ds : List D} (h : Picks B Re as ds) : ds.length ≤ as.length := by
  induction h with
  | nil => exact Nat.le_refl _
  | skip _ _ ih => rw [List.length_append]; omega
  | take _ _ ih => rw [List.length_append, List.length_append]; exact Nat.add_le_add ih (Nat.le_refl _)
/-- a comprehension whose tests or elements draw; every turn draws at most c2 -/
theorem ep_lc {α : Type} {B : Bool → Prop} {Re : α → D → Prop} {g0 : α → D} {δi : α → Dl} {wi : TI} {g : TG} {tt : TT} {vs : List Nat} {Rs : List α → Prop} (hI : EvPI K C wi δ c1 (fun ds => ∃ as, ds = as.map g0 ∧ Rs as)) (h0 : 0 ∉ vs) (N : Nat) (hN : ∀ as, Rs as → as.length ≤ N) (hN2 : N ≤ 100000)
    (hG : ∀ as, Rs as → ∀ a ∈ as, EvG K C g vs (wipeD δ vs) (g0 a) (δi a)) 
    {ct ce : Nat} (hT : ∀ as, Rs as → ∀ a ∈ as, EvPT K C tt (δi a) ct B) (hE : ∀ as, Rs as → ∀ a ∈ as, EvP K C te (δi a) ce (Re a)) : EvP K C (tLc wi g tt te vs) δ (c1 + N * (ct + ce)) (fun d => ∃ as ds, d = .lst ds ∧ Rs as ∧ Picks B Re as ds) := fun O σ H p n x hn Q q => by
  refine hI O σ H p n x (by omega) _ fun J H1 ds0 s1 p1 r1 w Da hD => ?_
  obtain ⟨as, rfl, hR⟩ := r1
  have x1 := x.but s1 p1
  have hL := hN as hR
  have np : Da ≠ p := fun z => by rw [z] at hD; exact p1.some hD
  have key : ∀ H2, But p H1 H2 → Same (hid O H1) (hid (addO O Da) H2) := fun H2 s => (add_fresh hD).trans (but_hid s (by unfold addO; rw [x.own]; rfl))
  have opx : addO O Da p = true := by unfold addO; rw [x.own]; rfl
  refine ⟨fun i m H2 => m = as.length - i ∧ i ≤ as.length ∧ But p H1 H2 ∧ PurseIs (n + c1 + i * (ct + ce)) H2 p ∧ ∃ acc ds, H2 Da = some (.lst acc) ∧ Picks B Re (as.take i) ds ∧ Dats K C (hid (addO O Da) H2) ds acc,
    ⟨as.length, by omega, Nat.zero_le _, But.of (same_new hD), by rw [Nat.zero_mul]; exact p1.same (same_new hD), [], [], upd_same, by rw [List.take_zero]; exact .nil, .nil⟩, ?_⟩
  rintro i m H2 ⟨rfl, hi, s2, p2, acc, ds, ha, hpk, hacc⟩
  have o2 : OIn (addO O Da) H2 := (but_own x1.at_.own s2 p2).add ⟨_, ha, trivial⟩
  have wl : (as.map g0).length = as.length := List.length_map _
  by_cases hlt : i < as.length
  · have hia : as[i]? = some as[i] := by simp [hlt]
    have hmem : as[i] ∈ as := List.getElem_mem hlt
    have hb : (i + 1) * (ct + ce) ≤ N * (ct + ce) := Nat.mul_le_mul_right _ (by omega)
    have hb2 : (i + 1) * (ct + ce) = i * (ct + ce) + (ct + ce) := Nat.succ_mul _ _
    refine .inr ⟨w.go _ i H2 (key H2 s2) o2 (by rw [wl]; exact hlt), fun H3 => i + 1 ≤ as.length ∧ But p H1 H3 ∧ PurseIs (n + c1 + (i + 1) * (ct + ce)) H3 p ∧ ∃ acc ds, H3 Da = some (.lst acc) ∧ Picks B Re (as.take (i + 1)) ds ∧ Dats K C (hid (addO O Da) H3) ds acc,
      fun H' hN => ⟨_, by omega, rfl, hN⟩, fun y H3 hy => ?_⟩
    obtain ⟨s3, d3⟩ := w.yld _ i H2 y H3 (g0 as[i]) (key H2 s2) o2 (by rw [List.getElem?_map, hia]; rfl) hy
    have s13 := s2.trans (But.of s3)
    have n3 : At K C (addO O Da) H3 (L2.wipe σ vs) (wipeD δ vs) := ⟨o2.same s3, (x1.at_.env.same (key H3 s13)).wipe vs⟩
    refine hG as hR _ hmem _ _ _ _ n3 d3 _ fun σ4 hw n4 => ⟨by rw [hw, wipe_wipe], ?_⟩
    have slot4 : σ4[0]? = some (some (.ref p)) := by
      have e1 := congrArg (fun s : L2.St => s[0]?) hw
      simp only [wipe_get] at e1
      rw [if_neg (fun q => h0 q.1), if_neg (fun q => h0 q.1), if_neg (fun q => h0 q.1)] at e1
      rw [e1]
      exact x.slot
    have x4 : AtP K C (addO O Da) H3 σ4 (δi as[i]) p (n + c1 + i * (ct + ce)) := ⟨n4, opx, p2.same s3, slot4⟩
    refine hT as hR _ hmem _ _ _ _ _ x4 (by omega) _ fun b H5 s5 p5 hb5 => ?_
    have ht : as.take (i + 1) = as.take i ++ [as[i]] := List.take_succ_eq_append_getElem hlt
    have s25 : But p H2 H5 := (But.of s3).trans s5
    cases b with
    | false =>
      refine iteF ⟨hlt, s2.trans s25, p5.mono (by omega), acc, ds, s25 _ _ np ha, by rw [ht]; exact .skip hpk hb5, hacc.same (but_hid s25 opx)⟩
    | true =>
      refine iteT (hE as hR _ hmem _ _ _ _ _ (x4.but s5 p5) (by omega) _ fun v H6 d6 s6 p6 r6 hd6 => ?_)
      have s26 := s25.trans s6
      have hl2 : acc.length ≤ as.length := by
        rw [hacc.length]
        exact Nat.le_trans hpk.len (by rw [List.length_take]; omega)
      refine ⟨acc, s26 _ _ np ha, Nat.lt_of_le_of_lt (Nat.le_trans hl2 (Nat.le_trans hL hN2)) (by decide), hlt, fun a u na ea => ?_, (p6.mono (by omega)).upd np, _, ds ++ [d6], upd_same, by rw [ht]; exact .take hpk r6, ?_⟩
      · rw [upd_ne (ne_of_none ea hD)]
        exact s2.trans s26 a u na ea
      · rw [add_upd]
        exact (hacc.same (but_hid s26 opx)).append (.one hd6)
  · have e : i = as.length := by omega
    subst e
    refine .inl ⟨by rw [← wl]; exact w.stop _ H2 (key H2 s2) o2, ?_⟩
    rw [List.take_length] at hpk
    have hb : as.length * (ct + ce) ≤ N * (ct + ce) := Nat.mul_le_mul_right _ hL
    refine q _ _ (.lst ds) (s1.trans s2) (p2.mono (by omega)) ⟨as, ds, rfl, hR, hpk⟩ (dat_lst_iff.mpr ⟨Da, acc, rfl, ?_, hacc.same add_le⟩)
    unfold hid
    rw [if_neg (fun z => x1.at_.own Da z hD)]
    exact ha
theorem ept_d {tt : TT} {b : Bool} (h : EvT K C tt δ b) : EvPT K C tt δ 0 (fun x => x = b) := fun O σ H p n x hn Q q => h O σ H x.at_ Q fun H' s => q b H' (But.of s) (x.purse.same s) rfl
theorem ept_test (h : EvP K C te δ c (fun d => ∃ b, d = .bl b)) : EvPT K C (tTest te) δ c (fun _ => True) := fun O σ H p n x hn Q q => h O σ H p n x hn _ fun v H' d s pu r hd => by
  obtain ⟨b, rfl⟩ := r
  exact ⟨b, dat_bl.mp hd, q b H' s pu True.intro⟩
theorem ep_if {tt : TT} {B : Bool → Prop} (h : EvPT K C tt δ c1 B) (h1 : EvP K C ta δ c2 R) (h2 : EvP K C tb δ c2 R) : EvP K C (tIf tt ta tb) δ (c1 + c2) R := fun O σ H p n x hn Q q => h O σ H p n x (by omega) _ fun b H' s pu _ => by
  have e : n + c1 + c2 = n + (c1 + c2) := by omega
  cases b with
  | true => exact h1 O σ H' p _ (x.but s pu) (by omega) Q fun v H2 d s2 p2 r hd => q v H2 d (s.trans s2) (by rw [← e]; exact p2) r hd
  | false => exact h2 O σ H' p _ (x.but s pu) (by omega) Q fun v H2 d s2 p2 r hd => q v H2 d (s.trans s2) (by rw [← e]; exact p2) r hd
/-- .. the test's answer is known -/
theorem ep_ifB {tt : TT} {b : Bool} (h : EvT K C tt δ b) (h1 : b = true → EvP K C ta δ c R) (h2 : b = false → EvP K C tb δ c R) : EvP K C (tIf tt ta tb) δ c R := fun O σ H p n x hn Q q => h O σ H x.at_ _ fun H' s => by
  have x' := x.but (But.of s) (x.purse.same s)
  cases b with
  | true => exact h1 rfl O σ H' p _ x' hn Q fun v H2 d s2 p2 r hd => q v H2 d ((But.of s).trans s2) p2 r hd
  | false => exact h2 rfl O σ H' p _ x' hn Q fun v H2 d s2 p2 r hd => q v H2 d ((But.of s).trans s2) p2 r hd
/-! statements -/
variable {ts ts' : TS} {tt : TT}
theorem sp_ret (h : EvP K C te δ c R) : StP K C (tRet te) δ c R := fun O σ H p n x hn Z q => h O σ H p n x hn _ fun v H' d s pu r hd => q v H' d s pu r hd
theorem sp_guard {b : Bool} (h : EvT K C tt δ b) (h1 : b = true → StP K C ts δ c R) (h2 : b = false → StP K C ts' δ c R) : StP K C (tSeq (tIfS tt ts tNext) ts') δ c R := fun O σ H p n x hn Z q => h O σ H x.at_ _ fun H' s => by
  have x' := x.but (But.of s) (x.purse.same s)
  cases b with
  | true => exact h1 rfl O σ H' p _ x' hn { Z with nx := ts' Z } fun v H2 d s2 p2 r hd => q v H2 d ((But.of s).trans s2) p2 r hd
  | false => exact h2 rfl O σ H' p _ x' hn Z fun v H2 d s2 p2 r hd => q v H2 d ((But.of s).trans s2) p2 r hd
theorem sp_set {i : Nat} (hi : i ≠ 0) (h : EvP K C te δ c1 R1) (g : ∀ d, R1 d → StP K C ts' (δ.set i (some d)) c2 R) : StP K C (tSeq (tAsg te (gName i)) ts') δ (c1 + c2) R := fun O σ H p n x hn Z q =>
  h O σ H p n x (by omega) _ fun v H' d s pu r hd => by
    have x1 := x.but s pu
    have e : n + c1 + c2 = n + (c1 + c2) := by omega
    exact g d r O _ H' p _ ⟨⟨x1.at_.own, x1.at_.env.set i hd⟩, x1.own, x1.purse, by rw [List.getElem?_set_ne hi]; exact x1.slot⟩ (by omega) Z fun v2 H2 d2 s2 p2 r2 hd2 => q v2 H2 d2 (s.trans s2) (by rw [← e]; exact p2) r2 hd2
theorem sp_imp (h : StP K C ts δ c R) (g : ∀ d, R d → R1 d) (hc : c ≤ c1) : StP K C ts δ c1 R1 := fun O σ H p n x hn Z q => h O σ H p n x (by omega) Z fun v H' d s pu r hd => q v H' d s (pu.mono (by omega)) (g d r) hd
end
/-- a def that draws: its purse first -/
def SpP (K : PySem.W.Frag) (C : Addr) (pre : List D → Prop) (c : Nat) (R : List D → D → Prop) (m : Nat) : Sp := fun vs H Q _ => vs.length = m + 1 ∧ ∃ O p n ds ws, vs = .ref p :: ws ∧ OIn O H ∧ O p = true ∧ PurseIs n H p ∧ n + c ≤ 1000000 ∧ Dats K C (hid O H) ds ws ∧ pre ds ∧
  ∀ v H' d, But p H H' → PurseIs (n + c) H' p → R ds d → Dat K C (hid O H') d v → Q v H'
section
variable {K : PySem.W.Frag} {C : Addr} {δ : Dl} {tr : TA} {ds : List D}
theorem ep_call {pre : List D → Prop} {c m : Nat} {R : List D → D → Prop} {E : XK} (ha : EvA K C tr δ ds) (hn : ds.length = m) (hp : pre ds) : EvP K C (tCall (SpP K C pre c R m) [] E (tCons (tVar 0) tr)) δ c (R ds) := fun O σ H p n x hn2 Q q =>
  ⟨_, x.slot, ha O σ H x.at_ _ fun vs H1 s1 d1 => by
    show SpP K C pre c R m ((V.ref p :: vs) ++ []) H1 Q E
    rw [List.append_nil]
    exact ⟨by rw [List.length_cons, d1.length, hn], O, p, n, ds, vs, rfl, x.at_.own.same s1, x.own, x.purse.same s1, hn2, d1, hp, fun v H' d b pu r hd => q v H' d ((But.of s1).trans b) pu r hd⟩⟩
/-- .. whose other arguments draw, too -/
theorem ep_callP {pre : List D → Prop} {c1 c2 m : Nat} {Rs : List D → Prop} {R : List D → D → Prop} {E : XK} (ha : EvPA K C tr δ c1 Rs) (hp : ∀ ds, Rs ds → ds.length = m ∧ pre ds) : EvP K C (tCall (SpP K C pre c2 R m) [] E (tCons (tVar 0) tr)) δ (c1 + c2) (fun d => ∃ ds, Rs ds ∧ R ds d) := fun O σ H p n x hn2 Q q =>
  ⟨_, x.slot, ha O σ H p n x (by omega) _ fun vs H1 ds s1 p1 r1 d1 => by
    show SpP K C pre c2 R m ((V.ref p :: vs) ++ []) H1 Q E
    rw [List.append_nil]
    obtain ⟨e1, e2⟩ := hp ds r1
    have e : n + c1 + c2 = n + (c1 + c2) := by omega
    exact ⟨by rw [List.length_cons, d1.length, e1], O, p, n + c1, ds, vs, rfl, but_own x.at_.own s1 p1, x.own, p1, by omega, d1, e2, fun v H' d b pu r hd => q v H' d (s1.trans b) (by rw [← e]; exact pu) ⟨ds, r1, r⟩ hd⟩⟩
end
section
open PyProof.Rows
variable {P : Program} {w : World} {K : PySem.W.Frag} {C : Addr} {mg : Str → Option Value} {base : Heap} {x : Str} {k : Nat} {ps N : List Str} {st : Stmt} {fa : Addr} {fd : FuncData} {pre : List D → Prop} {c m : Nat} {R : List D → D → Prop}
theorem okP (F : DefAt K mg x ps st fa fd) (S : FnScope N ps (defScope st)) (hm : ps.length = m + 1)
    (hbody : ∀ (cdv : Value) (A : Around) (outer : List Env) (s : Shared) (H : Hp) (E : XK), Room k (A.deeper (envOfC x (defScope st) s.heap.objs.size fa cdv)) →
      ∃ t, PSs (cxOf CX0 P w K mg base N x (defScope st) fa cdv A outer s H E).nox (defBody st) t ∧ ∀ ds, pre ds → ds.length = m → StP K C t (none :: (ds.map some ++ List.replicate (N.length - (m + 1)) none)) c (R ds)) : DefOk P w K mg base x (k + 1) ps (SpP K C pre c R m) := by
  refine F.ok S (fun vs H Q E h => by rw [h.1, hm]) (fun cdv A outer s H vs Q E hr h => ?_)
  obtain ⟨t, h1, h2⟩ := hbody cdv A outer s H E hr
  obtain ⟨hl, O, p, n, ds, ws, rfl, o, op, pu, hn, hd, hp, hq⟩ := h
  have hlm : ds.length = m := by rw [← hd.length]; simpa using hl
  refine ⟨t, h1, h2 ds hp hlm O _ H p n ⟨⟨o, ?_, fun i d e => ?_⟩, op, pu, ?_⟩ hn _ fun v H' d b pu r hd => hq v H' d b pu r hd⟩
  · have e := (at_start (N := N) o (Dats.cons (d := .raw (.ref p)) (dat_raw.mpr rfl) hd)).env.1
    rw [e]
    unfold startD
    simp only [List.length_append, List.length_cons, List.length_map, List.length_replicate, hlm]
    omega
  · have a := at_start (N := N) o (Dats.cons (d := .raw (.ref p)) (dat_raw.mpr rfl) hd)
    cases i with
    | zero => cases e
    | succ i =>
      refine a.env.2 (i + 1) d ?_
      unfold startD
      rw [List.map_cons, List.cons_append, List.getElem?_cons_succ, List.length_cons, hlm]
      exact e
  · unfold L2.start
    rfl
end
end Zm


set_option Elab.async false
set_option linter.all false
set_option maxRecDepth 100000
set_option maxHeartbeats 4000000
set_option autoImplicit false
namespace Zm
open PySem PySem.Spec L2

section
variable {X : Cx} {a b : Expr} {ta tb : TE} {p pos p2 pos2 : Pos}
theorem c_listRg1 (bf : BFree X.mg) (ha : PE X a ta) (hg : Gl X "list" := by rfl) (hg2 : Gl X "range" := by rfl) (hc : X.calm = true := by rfl) (na : starEach [a] X.env = (false, eval a X.env) :: starEach [] X.env := by rfl)
    (na2 : starEach [(Expr.Call (.Name "range" p2) [a] [] pos2)] X.env = (false, eval (Expr.Call (.Name "range" p2) [a] [] pos2) X.env) :: starEach [] X.env := by rfl) :
    PE X (.Call (.Name "list" p) [.Call (.Name "range" p2) [a] [] pos2] [] pos) (tLstRg (tRg1 ta)) := pe_listRg hc hg (bf _ (by decide)) (prg_1 hg2 (bf _ (by decide)) ha na) na2
theorem c_listRg2 (bf : BFree X.mg) (ha : PE X a ta) (hb : PE X b tb) (hg : Gl X "list" := by rfl) (hg2 : Gl X "range" := by rfl) (hc : X.calm = true := by rfl) (na : starEach [a, b] X.env = (false, eval a X.env) :: starEach [b] X.env := by rfl)
    (nb : starEach [b] X.env = (false, eval b X.env) :: starEach [] X.env := by rfl) (hp : (backTo pos2 (starEach [b] X.env)).any (·.1) = false := by rfl)
    (na2 : starEach [(Expr.Call (.Name "range" p2) [a, b] [] pos2)] X.env = (false, eval (Expr.Call (.Name "range" p2) [a, b] [] pos2) X.env) :: starEach [] X.env := by rfl) :
    PE X (.Call (.Name "list" p) [.Call (.Name "range" p2) [a, b] [] pos2] [] pos) (tLstRg (tRg2 ta tb)) := pe_listRg hc hg (bf _ (by decide)) (prg_2 hg2 (bf _ (by decide)) ha hb na nb hp) na2
end
/-- a, a + 1, .. below b -/
def rgI (a b : Int) : List Int := (List.range (b - a).toNat).map fun (i : Nat) => a + (i : Int)
theorem rgV_map (a b : Int) : rgV a b = (rgI a b).map V.int := by
  unfold rgV rgI
  rw [List.map_map]
  rfl
section
variable {K : PySem.W.Frag} {C : Addr} {δ : Dl} {ta tb te : TE} {c1 c2 : Nat} {R R1 R2 : D → Prop}
theorem en_listRg1 {j : Int} (h : EvD K C ta δ (.int j)) (ok : RgOk 0 j) : EvN K C (tLstRg (tRg1 ta)) δ (.lst (dI (rgI 0 j))) := fun O σ H n Q q => h O σ H n _ fun v H1 s1 d1 => by
  refine ⟨j, dat_int.mp d1, ok, fun p hp => ?_⟩
  rw [rgV_map]
  exact q p _ (s1.trans (same_new hp)) (back_none s1 hp) (new_lst (n.same s1).own hp (dats_ints.mpr rfl))
theorem en_listRg2 {i j : Int} (h : EvD K C ta δ (.int i)) (h2 : EvD K C tb δ (.int j)) (ok : RgOk i j) : EvN K C (tLstRg (tRg2 ta tb)) δ (.lst (dI (rgI i j))) := fun O σ H n Q q => h O σ H n _ fun v H1 s1 d1 => h2 O σ H1 (n.same s1) _ fun w H2 s2 d2 => by
  refine ⟨i, j, dat_int.mp d1, dat_int.mp d2, ok, fun p hp => ?_⟩
  rw [rgV_map]
  have s12 := s1.trans s2
  exact q p _ (s12.trans (same_new hp)) (back_none s12 hp) (new_lst (n.same s12).own hp (dats_ints.mpr rfl))
theorem ep_listRg2 (h : EvP K C ta δ c1 (fun d => ∃ i, d = .int i ∧ R1 (.int i))) (h2 : EvP K C tb δ c2 (fun d => ∃ i, d = .int i ∧ R2 (.int i))) (hk : ∀ i j, R1 (.int i) → R2 (.int j) → RgOk i j) :
    EvP K C (tLstRg (tRg2 ta tb)) δ (c1 + c2) (fun d => ∃ i j, d = .lst (dI (rgI i j)) ∧ R1 (.int i) ∧ R2 (.int j)) := fun O σ H p n x hn Q q => h O σ H p n x (by omega) _ fun v H1 d1 s1 p1 r1 hd1 => h2 O σ H1 p _ (x.but s1 p1) (by omega) _ fun w H2 d2 s2 p2 r2 hd2 => by
  obtain ⟨i, rfl, r1⟩ := r1
  obtain ⟨j, rfl, r2⟩ := r2
  refine ⟨i, j, dat_int.mp hd1, dat_int.mp hd2, hk i j r1 r2, fun l hl => ?_⟩
  rw [rgV_map]
  have o2 := but_own (but_own x.at_.own s1 p1) s2 p2
  have e : n + c1 + c2 = n + (c1 + c2) := by omega
  exact q _ _ (.lst (dI (rgI i j))) ((s1.trans s2).trans (But.of (same_new hl))) (by rw [← e]; exact p2.same (same_new hl)) ⟨i, j, rfl, r1, r2⟩ (new_lst o2 hl (dats_ints.mpr rfl))
/-- a comprehension over range(n), its tests or elements drawing -/
theorem ep_lcR {i : Nat} {B : Bool → Prop} {tt : TT} {vs : List Nat} {Re : Nat → D → Prop} {n : Int} {N ct ce : Nat} (h : EvD K C ta δ (.int n)) (h0 : 0 ∉ vs) (hi : i ∈ vs) (hN : n.toNat ≤ N) (hN2 : N ≤ 100000) (hn : 0 ≤ n)
    (hT : ∀ k : Nat, k < n.toNat → EvPT K C tt ((wipeD δ vs).set i (some (.int (0 + (k : Int))))) ct B) (hE : ∀ k : Nat, k < n.toNat → EvP K C te ((wipeD δ vs).set i (some (.int (0 + (k : Int))))) ce (Re k)) :
    EvP K C (tLc (iRng1 (tCons ta tNil)) (gName i) tt te vs) δ (N * (ct + ce)) (fun d => ∃ ds, d = .lst ds ∧ Picks B Re (List.range n.toNat) ds) := by
  refine ep_imp (ep_lc (B := B) (c1 := 0) (ct := ct) (ce := ce) (Re := Re) (g0 := fun (k : Nat) => D.int (0 + (k : Int))) (δi := fun k => (wipeD δ vs).set i (some (.int (0 + (k : Int))))) (Rs := fun as => as = List.range n.toNat) (N := N) (fun O σ H p m x hm Z q => ?_) h0 (fun as h => by rw [h, List.length_range]; exact hN) hN2
    (fun as h a ha => eg_name hi) (fun as h a ha => hT a (by rw [h] at ha; exact List.mem_range.mp ha)) (fun as h a ha => hE a (by rw [h] at ha; exact List.mem_range.mp ha))) (fun d h => ?_) (by omega)
  · exact epi_of (ei_rng1 (ea_cons h ea_nil) (by omega) (by omega)) O σ H p m x hm Z fun J H' ds' b pu e w => q J H' ds' b pu ⟨_, e, rfl⟩ w
  · obtain ⟨as, ds, e, rfl, hp⟩ := h
    exact ⟨ds, e, hp⟩
/-- a drawn number beside a written one -/
theorem ep_dr {E : XK} {m : Int} (h0 : 0 < m) (h1 : m < 1000000) : EvP K C (tCall spDraw [] E (tCons (tVar 0) (tCons (tC (.int m)) tNil))) δ 1 (fun d => ∃ i, d = .int i ∧ 0 ≤ i ∧ i < m) := ep_draw ev_int h0 h1
theorem ept_drEq {E : XK} {m z : Int} (h0 : 0 < m) (h1 : m < 1000000) : EvPT K C (tTest (tOp (rEqD K) (tCall spDraw [] E (tCons (tVar 0) (tCons (tC (.int m)) tNil))) (tC (.int z)))) δ 1 (fun _ => True) :=
  ept_test (ep_op (ep_dr h0 h1) (ep_d ev_int) fun d e r1 r2 => by
    obtain ⟨i, rfl, _⟩ := r1
    subst r2
    exact ⟨_, r2_eq shp_int shp_int, _, rfl⟩)
theorem ept_drGt {E : XK} {m z : Int} (h0 : 0 < m) (h1 : m < 1000000) : EvPT K C (tTest (tOp (rI0 fun i j => .bl (decide (j < i))) (tCall spDraw [] E (tCons (tVar 0) (tCons (tC (.int m)) tNil))) (tC (.int z)))) δ 1 (fun _ => True) :=
  ept_test (ep_op (ep_dr h0 h1) (ep_d ev_int) fun d e r1 r2 => by
    obtain ⟨i, rfl, _⟩ := r1
    subst r2
    exact ⟨_, r2_Ib, _, rfl⟩)
end
/-! ### rows -/
/-- a row of needs over so many old blocks -/
def RowOk (old : Int) (ns : List Int) : Prop := ns.Pairwise (· < ·) ∧ ∀ x ∈ ns, 0 ≤ x ∧ x < old
theorem range_up (lo : Int) (n : Nat) : ((List.range n).map fun (k : Nat) => lo + (k : Int)).Pairwise (· < ·) := by
  rw [List.pairwise_map]
  exact List.pairwise_lt_range.imp (fun h => by omega)
theorem picks_sub {α : Type} {g : α → Int} {as : List α} {ds : List D} {B : Bool → Prop} (h : Picks B (fun k d => d = .int (g k)) as ds) : ∃ ns, ds = dI ns ∧ ns.Sublist (as.map g) := by
  induction h with
  | nil => exact ⟨[], rfl, List.Sublist.refl _⟩
  | @skip a as ds _ _ ih =>
    obtain ⟨ns, rfl, h2⟩ := ih
    refine ⟨ns, rfl, ?_⟩
    rw [List.map_append]
    exact h2.trans (List.sublist_append_left _ _)
  | @take a as ds d _ e ih =>
    obtain ⟨ns, rfl, h2⟩ := ih
    subst e
    refine ⟨ns ++ [g a], by unfold dI; rw [List.map_append]; rfl, ?_⟩
    rw [List.map_append]
    exact h2.append (List.Sublist.refl _)
theorem rowOk_sub {old : Int} {n : Nat} {ns : List Int} (h0 : (n : Int) = old) (h : ns.Sublist ((List.range n).map fun (k : Nat) => (0 : Int) + (k : Int))) : RowOk old ns := by
  refine ⟨(range_up 0 n).sublist h, fun x hx => ?_⟩
  have h1 := h.subset hx
  rw [List.mem_map] at h1
  obtain ⟨k, hk, rfl⟩ := h1
  have h2 := List.mem_range.mp hk
  omega
theorem rowOk_rg {old i j : Int} (h0 : 0 ≤ i) (h1 : j ≤ old) : RowOk old (rgI i j) := by
  unfold rgI
  refine ⟨range_up i _, fun x hx => ?_⟩
  rw [List.mem_map] at hx
  obtain ⟨k, hk, rfl⟩ := hx
  have h2 := List.mem_range.mp hk
  omega
theorem srt_lt {ns : List Int} (h : ns.Nodup) : (srt ns).Pairwise (· < ·) := by
  have h1 := srt_le ns
  have h2 : (srt ns).Nodup := (srt_perm ns).nodup_iff.mpr h
  exact (List.pairwise_and_iff.mpr ⟨h1, h2⟩).imp (fun q => by have := q.1; have := q.2; omega)
/-! keys of dicts that are made of pairs -/
section
variable {K : PySem.W.Frag}
theorem putD_any (kvs : List (Key × D)) (k : Key) : ((kvs.any fun p => decide (p.1 = k)) = true) ↔ k ∈ kvs.map (·.1) := by
  simp only [List.any_eq_true, decide_eq_true_eq, List.mem_map]
theorem putD_old {kvs : List (Key × D)} {k : Key} (v : D) (h : k ∈ kvs.map (·.1)) : (putD kvs k v).map (·.1) = kvs.map (·.1) := by
  unfold putD
  rw [if_pos ((putD_any kvs k).mpr h), List.map_map]
  apply List.map_congr_left
  intro p _
  show (if p.1 = k then (p.1, v) else p).1 = p.1
  split <;> rfl
theorem putD_new {kvs : List (Key × D)} {k : Key} (v : D) (h : k ∉ kvs.map (·.1)) : (putD kvs k v).map (·.1) = kvs.map (·.1) ++ [k] := by
  unfold putD
  rw [if_neg (fun q => h ((putD_any kvs k).mp q)), List.map_append]
  rfl
theorem mergeD_keys : ∀ (more kvs : List (Key × D)), (kvs.map (·.1)).Nodup → ((mergeD kvs more).map (·.1)).Nodup ∧ ∀ k, k ∈ (mergeD kvs more).map (·.1) ↔ k ∈ kvs.map (·.1) ∨ k ∈ more.map (·.1)
  | [], kvs, h => ⟨h, fun k => by
    show k ∈ kvs.map (·.1) ↔ _
    simp⟩
  | (j, v) :: more, kvs, h => by
    by_cases hj : j ∈ kvs.map (·.1)
    · have e := putD_old v hj
      obtain ⟨h1, h2⟩ := mergeD_keys more (putD kvs j v) (by rw [e]; exact h)
      refine ⟨h1, fun k => ?_⟩
      show k ∈ (mergeD (putD kvs j v) more).map (·.1) ↔ _
      rw [h2 k, e, List.map_cons, List.mem_cons]
      constructor
      · rintro (a | a)
        · exact .inl a
        · exact .inr (.inr a)
      · rintro (a | a | a)
        · exact .inl a
        · subst a
          exact .inl hj
        · exact .inr a
    · have e := putD_new v hj
      have hn : (kvs.map (·.1) ++ [j]).Nodup := by
        rw [List.nodup_append]
        refine ⟨h, by simp, fun a ha b hb => ?_⟩
        rw [List.mem_singleton] at hb
        subst hb
        intro q
        subst q
        exact hj ha
      obtain ⟨h1, h2⟩ := mergeD_keys more (putD kvs j v) (by rw [e]; exact hn)
      refine ⟨h1, fun k => ?_⟩
      show k ∈ (mergeD (putD kvs j v) more).map (·.1) ↔ _
      rw [h2 k, e, List.map_cons, List.mem_cons, List.mem_append, List.mem_singleton]
      constructor
      · rintro ((a | a) | a)
        · exact .inl a
        · exact .inr (.inl a)
        · exact .inr (.inr a)
      · rintro (a | a | a)
        · exact .inl (.inl a)
        · exact .inl (.inr a)
        · exact .inr a
theorem putD_len (kvs : List (Key × D)) (k : Key) (v : D) : (putD kvs k v).length ≤ kvs.length + 1 := by
  unfold putD
  split
  · rw [List.length_map]
    omega
  · rw [List.length_append]
    exact Nat.le_refl _
theorem mergeD_len : ∀ (more kvs : List (Key × D)), (mergeD kvs more).length ≤ kvs.length + more.length
  | [], kvs => Nat.le_refl _
  | (j, v) :: more, kvs => by
    have h1 := mergeD_len more (putD kvs j v)
    have h2 := putD_len kvs j v
    show (mergeD (putD kvs j v) more).length ≤ _
    rw [List.length_cons]
    omega
/-- the pairs (n, True) -/
def trues (ns : List Int) : List (Key × D) := ns.map fun n => (Sum.inl n, D.bl true)
/-- the ints of keys -/
theorem keys_ints : ∀ {ks : List Key}, (∀ k ∈ ks, ∃ i, k = Sum.inl i) → ∃ is : List Int, ks = is.map Sum.inl
  | [], _ => ⟨[], rfl⟩
  | k :: ks, h => by
    obtain ⟨i, rfl⟩ := h k (List.mem_cons_self ..)
    obtain ⟨is, rfl⟩ := keys_ints (ks := ks) fun j hj => h j (List.mem_cons_of_mem _ hj)
    exact ⟨i :: is, rfl⟩
/-- the ascending list without doubles that sorted(dict([(n, True) ..])) gives -/
theorem trues_keys (ns : List Int) : ∃ is : List Int, (mergeD [] (trues ns)).map (·.1) = is.map Sum.inl ∧ is.Nodup ∧ is.length ≤ ns.length ∧ ∀ i, i ∈ is ↔ i ∈ ns := by
  obtain ⟨h1, h2⟩ := mergeD_keys (trues ns) [] List.nodup_nil
  have e : (trues ns).map (·.1) = ns.map Sum.inl := by
    unfold trues
    rw [List.map_map]
    rfl
  rw [e] at h2
  obtain ⟨is, hi⟩ := keys_ints (ks := (mergeD [] (trues ns)).map (·.1)) fun k hk => by
    rcases (h2 k).mp hk with q | q
    · cases q
    · obtain ⟨i, _, rfl⟩ := List.mem_map.mp q
      exact ⟨i, rfl⟩
  refine ⟨is, hi, ?_, ?_, fun i => ?_⟩
  rotate_left
  · have h3 := mergeD_len (trues ns) []
    have h4 := congrArg List.length hi
    rw [List.length_map, List.length_map] at h4
    have h5 : (trues ns).length = ns.length := by unfold trues; rw [List.length_map]
    rw [← h4]
    rw [h5] at h3
    simpa using h3
  rotate_left
  · rw [hi] at h1
    have h3 : (is.map Sum.inl : List Key).Pairwise (· ≠ ·) := h1
    rw [List.pairwise_map] at h3
    exact h3.imp (fun q z => q (by rw [z]))
  · have h3 := h2 (Sum.inl i)
    rw [hi] at h3
    have e1 : (Sum.inl i : Key) ∈ is.map Sum.inl ↔ i ∈ is := by
      constructor
      · intro h
        obtain ⟨j, hj, q⟩ := List.mem_map.mp h
        rw [← Sum.inl.inj q]
        exact hj
      · exact fun h => List.mem_map.mpr ⟨i, h, rfl⟩
    have e2 : (Sum.inl i : Key) ∈ ns.map Sum.inl ↔ i ∈ ns := by
      constructor
      · intro h
        obtain ⟨j, hj, q⟩ := List.mem_map.mp h
        rw [← Sum.inl.inj q]
        exact hj
      · exact fun h => List.mem_map.mpr ⟨i, h, rfl⟩
    rw [← e1, h3, e2]
    constructor
    · rintro (q | q)
      · cases q
      · exact q
    · exact fun q => .inr q
end
section
variable {K : PySem.W.Frag} {C : Addr} {δ : Dl} {tr : TA} {c : Nat}
theorem ep_tup {Rs : List D → Prop} (ha : EvPA K C tr δ c Rs) (hl : ∀ ds, Rs ds → ds.length ≤ 100000) : EvP K C (tTup tr) δ c (fun d => ∃ ds, d = .tup ds ∧ Rs ds) := fun O σ H p n x hn Q q =>
  ha O σ H p n x hn _ fun vs H1 ds s1 p1 r1 hd1 => ⟨by rw [hd1.length]; exact Nat.le_trans (hl ds r1) (by decide), fun l hl => by
    have o1 := but_own x.at_.own s1 p1
    exact q _ _ (.tup ds) (s1.trans (But.of (same_new hl))) (p1.same (same_new hl)) ⟨ds, rfl, r1⟩ (new_tup o1 hl hd1)⟩
theorem picks_trues {α : Type} {B : Bool → Prop} {P : Int → Prop} {as : List α} {ds : List D} (h : Picks B (fun _ d => ∃ i, d = pairD (Sum.inl i, .bl true) ∧ P i) as ds) : ∃ ns : List Int, ds = (trues ns).map pairD ∧ ns.length ≤ as.length ∧ ∀ i ∈ ns, P i := by
  induction h with
  | nil => exact ⟨[], rfl, Nat.le_refl _, fun i h => by cases h⟩
  | skip _ _ ih =>
    obtain ⟨ns, rfl, h1, h2⟩ := ih
    exact ⟨ns, rfl, by rw [List.length_append]; omega, h2⟩
  | take _ r ih =>
    obtain ⟨ns, rfl, h1, h2⟩ := ih
    obtain ⟨i, rfl, hi⟩ := r
    refine ⟨ns ++ [i], by unfold trues; rw [List.map_append, List.map_append]; rfl, by rw [List.length_append, List.length_append]; exact Nat.add_le_add h1 (Nat.le_refl _), fun j hj => ?_⟩
    rcases List.mem_append.mp hj with q | q
    · exact h2 j q
    · rw [List.mem_singleton.mp q]
      exact hi
end
/-- every item is taken -/
theorem picks_all {α : Type} {Re : α → D → Prop} {as : List α} {ds : List D} (h : Picks (fun x => x = true) Re as ds) : ds.length = as.length := by
  induction h with
  | nil => rfl
  | skip _ q ih => cases q
  | take _ _ ih => rw [List.length_append, List.length_append, ih]; rfl
/-- rows, each as P tells -/
theorem picks_rows {α : Type} {B : Bool → Prop} {P : List Int → Prop} {as : List α} {ds : List D} (h : Picks B (fun _ d => ∃ ns, d = D.lst (dI ns) ∧ P ns) as ds) : ∃ rows : List (List Int), ds = rows.map (fun r => D.lst (dI r)) ∧ ∀ r ∈ rows, P r := by
  induction h with
  | nil => exact ⟨[], rfl, fun r h => by cases h⟩
  | skip _ _ ih => exact ih
  | take _ e ih =>
    obtain ⟨rows, rfl, h2⟩ := ih
    obtain ⟨ns, rfl, hp⟩ := e
    refine ⟨rows ++ [ns], by rw [List.map_append]; rfl, fun r hr => ?_⟩
    rcases List.mem_append.mp hr with q | q
    · exact h2 r q
    · rw [List.mem_singleton.mp q]
      exact hp
def recD (old : Int) (rows : List (List Int)) : D := .lst [.int old, rowsL rows]
def RecOk (mn mo : Int) (old : Int) (rows : List (List Int)) : Prop := 0 ≤ old ∧ old ≤ mo ∧ 1 ≤ rows.length ∧ (rows.length : Int) ≤ mn ∧ ∀ r ∈ rows, RowOk old r
section
variable {K : PySem.W.Frag} {C : Addr} {δ : Dl} {ta : TA} {ts : TS} {c1 c2 : Nat} {R : D → Prop}
theorem sp_par3 {i j l : Nat} {R1 R2 R3 : D → Prop} (hi : i ≠ 0) (hj : j ≠ 0) (hl : l ≠ 0) (h : EvPA K C ta δ c1 (fun ds => ∃ a b c, ds = [a, b, c] ∧ R1 a ∧ R2 b ∧ R3 c)) (g : ∀ a b c, R1 a → R2 b → R3 c → StP K C ts (((δ.set i (some a)).set j (some b)).set l (some c)) c2 R) :
    StP K C (tSeq (tPar3 i j l ta) ts) δ (c1 + c2) R := fun O σ H p n x hn Z q => h O σ H p n x (by omega) _ fun vs H' ds s pu r hd => by
  obtain ⟨a, b, c, rfl, r1, r2, r3⟩ := r
  obtain ⟨v, ys, rfl, h1, h2⟩ := dats_cons.mp hd
  obtain ⟨w, z, rfl, h3, h4⟩ := dats_two.mp h2
  have x1 := x.but s pu
  have e : n + c1 + c2 = n + (c1 + c2) := by omega
  refine ⟨v, w, z, rfl, g a b c r1 r2 r3 O _ H' p _ ⟨⟨x1.at_.own, ((x1.at_.env.set i h1).set j h3).set l h4⟩, x1.own, x1.purse, ?_⟩ (by omega) Z fun v2 H2 d2 s2 p2 r2 hd2 => q v2 H2 d2 (s.trans s2) (by rw [← e]; exact p2) r2 hd2⟩
  rw [List.getElem?_set_ne hl, List.getElem?_set_ne hj, List.getElem?_set_ne hi]
  exact x1.slot
theorem sp_tup3 {i j l : Nat} {R1 R2 R3 : D → Prop} (hi : i ≠ 0) (hj : j ≠ 0) (hl : l ≠ 0) (h : EvPA K C ta δ c1 (fun ds => ∃ a b c, ds = [a, b, c] ∧ R1 a ∧ R2 b ∧ R3 c)) (g : ∀ a b c, R1 a → R2 b → R3 c → StP K C ts (((δ.set i (some a)).set j (some b)).set l (some c)) c2 R) :
    StP K C (tSeq (tAsg (tTup ta) (gTup K 3 (gCons (gName i) (gCons (gName j) (gCons (gName l) gNil))))) ts) δ (c1 + c2) R := fun O σ H p n x hn Z q => h O σ H p n x (by omega) _ fun vs H' ds s pu r hd => by
  obtain ⟨a, b, c, rfl, r1, r2, r3⟩ := r
  obtain ⟨v, ys, rfl, h1, h2⟩ := dats_cons.mp hd
  obtain ⟨w, z, rfl, h3, h4⟩ := dats_two.mp h2
  have x1 := x.but s pu
  have e : n + c1 + c2 = n + (c1 + c2) := by omega
  refine ⟨by show 3 ≤ sizeLine; decide, fun T hT => ⟨T, [v, w, z], rfl, SqT.of upd_same, rfl, v, [w, z], rfl, w, [z], rfl, z, [], rfl, rfl, ?_⟩⟩
  have sT : Same H' (upd H' T (.tup [v, w, z])) := same_new hT
  have x2 := x1.but (But.of sT) (x1.purse.same sT)
  refine g a b c r1 r2 r3 O _ _ p _ ⟨⟨x2.at_.own, ((x2.at_.env.set i (h1.same (same_hid sT))).set j (h3.same (same_hid sT))).set l (h4.same (same_hid sT))⟩, x2.own, x2.purse, ?_⟩ (by omega) Z fun v2 H2 d2 s2 p2 r2 hd2 => q v2 H2 d2 ((s.trans (But.of sT)).trans s2) (by rw [← e]; exact p2) r2 hd2
  rw [List.getElem?_set_ne hl, List.getElem?_set_ne hj, List.getElem?_set_ne hi]
  exact x2.slot
end
end Zm


set_option Elab.async false
set_option linter.all false
set_option maxRecDepth 100000
set_option maxHeartbeats 4000000
set_option autoImplicit false
namespace Zm
open PySem PySem.Spec L2

/-! ### wholly new things: what is new since a heap -/
def isO : Option HO → Bool
  | some (.tup _) => false
  | some _ => true
  | none => false
/-- all but tuples, which never change -/
def dom (H : Hp) : Addr → Bool := fun a => isO (H a)
theorem isO_some {u : HO} (h : isO (some u) = true) : NoT u := by
  cases u <;> first | trivial | cases h
theorem isO_of {u : HO} (h : NoT u) : isO (some u) = true := by
  cases u <;> first | rfl | exact h.elim
section
variable {O : Addr → Bool} {H H1 H' : Hp} {p : Addr} {o : HO} {K : PySem.W.Frag} {C : Addr} {d : D} {ds : List D}
theorem dom_some {a : Addr} (e : dom H a = true) : ∃ u, H a = some u ∧ NoT u := by
  unfold dom at e
  cases r : H a with
  | none =>
    rw [r] at e
    cases e
  | some u =>
    rw [r] at e
    exact ⟨u, rfl, isO_some e⟩
theorem dom_of {a : Addr} {u : HO} (e : H a = some u) (h : NoT u) : dom H a = true := by
  unfold dom
  rw [e]
  exact isO_of h
theorem dom_in (s : Same H H') : OIn (dom H) H' := by
  refine ⟨fun a e q => ?_, fun a v e q => ?_⟩
  · obtain ⟨u, r, nu⟩ := dom_some e
    rw [s a u r] at q
    cases q
  · obtain ⟨u, r, nu⟩ := dom_some e
    rw [s a u r] at q
    rw [← Option.some.inj q]
    exact nu
theorem dom_mono (s : Same H H1) {a : Addr} (e : dom H a = true) : dom H1 a = true := by
  obtain ⟨u, r, nu⟩ := dom_some e
  exact dom_of (s a u r) nu
/-- what is new since a later heap is new since an earlier one -/
theorem dom_le (s : Same H H1) : Same (hid (dom H1) H') (hid (dom H) H') := fun a u e => by
  unfold hid at e ⊢
  split at e
  · cases e
  · rename_i q
    rw [if_neg (fun z => q (dom_mono s z))]
    exact e
theorem own_dom (h : OIn O H) {a : Addr} (z : O a = true) : dom H a = true := by
  cases r : H a with
  | none => exact absurd r (h a z)
  | some w => exact dom_of r (h.nt a w z r)
/-- .. and is none of one's own -/
theorem dom_own (h : OIn O H) : Same (hid (dom H) H') (hid O H') := fun a u e => by
  unfold hid at e ⊢
  split at e
  · cases e
  · rename_i q
    rw [if_neg (fun z => q (own_dom h z))]
    exact e
end
section
variable (K : PySem.W.Frag) (C : Addr)
def EvF (te : TE) (δ : Dl) (d : D) : Prop := ∀ O σ H, At K C O H σ δ → ∀ Q : VK, (∀ v H', Same H H' → Dat K C (hid (dom H) H') d v → Q v H') → te σ H Q
def SpF (pre : List D → Prop) (f : List D → D) (n : Nat) : Sp := fun vs H Q _ => vs.length = n ∧ ∃ O ds, OIn O H ∧ Dats K C (hid O H) ds vs ∧ pre ds ∧ ∀ v H', Same H H' → Dat K C (hid (dom H) H') (f ds) v → Q v H'
def StF (ts : TS) (δ : Dl) (d : D) : Prop := ∀ O σ H, At K C O H σ δ → ∀ Z : Ends, (∀ v H', Same H H' → Dat K C (hid (dom H) H') d v → Z.rt v H') → ts Z σ H
end
section
variable {K : PySem.W.Frag} {C : Addr} {δ δ' : Dl} {ta tb te tl : TE} {t u : TT} {d e z : D} {ds es : List D} {ts ts' : TS}
theorem EvF.toD (h : EvF K C te δ d) : EvD K C te δ d := fun O σ H n Q q => h O σ H n Q fun v H' s hd => q v H' s (hd.same (dom_own n.own))
theorem ef_call {pre : List D → Prop} {f : List D → D} {m : Nat} {E : XK} {tr : TA} (ha : EvA K C tr δ ds) (hn : ds.length = m) (hp : pre ds) : EvF K C (tCall (SpF K C pre f m) [] E tr) δ (f ds) := fun O σ H n Q q =>
  ha O σ H n _ fun vs H1 s1 d1 => by
    show SpF K C pre f m (vs ++ []) H1 Q E
    rw [List.append_nil]
    exact ⟨by rw [d1.length, hn], O, ds, (n.same s1).own, d1, hp, fun v H2 s2 d2 => q v H2 (s1.trans s2) (d2.same (dom_le s1))⟩
theorem ef_meth {pre : List D → Prop} {f : List D → D} {n : Nat} {E : XK} {tr : TA} {m : Str} {c : Int} {rows : List (List Int)} (h : EvD K C te δ (.rcp c rows)) (ha : EvA K C tr δ ds) (hm : ¬ m = sMany) (hm2 : ¬ m = sNeeds) (hn : ds.length + 1 = n) (hp : pre (.rcp c rows :: ds)) :
    EvF K C (tMeth C m (SpF K C pre f n) [] E te tr) δ (f (.rcp c rows :: ds)) := fun O σ H n Q q => h O σ H n _ fun v H1 s1 d1 => by
  obtain ⟨a, dx, t, xs, rfl, h1, h2, h3⟩ := dat_rcp_iff.mp d1
  refine ⟨a, dx, fsR c t, rfl, hid_same _ _ h1, fsR_no hm hm2, ha O σ H1 (n.same s1) _ fun vs H2 s2 d2 => ?_⟩
  show SpF K C pre f _ (.ref a :: (vs ++ [])) H2 Q E
  rw [List.append_nil]
  exact ⟨by rw [List.length_cons, d2.length, hn], O, _, (n.same (s1.trans s2)).own, .cons (d1.same (same_hid s2)) d2, hp, fun v H3 s3 d3 => q v H3 ((s1.trans s2).trans s3) (d3.same (dom_le (s1.trans s2)))⟩
/-- scalars are new as they are -/
def sca : D → Bool
  | .non => true
  | .bl _ => true
  | .int _ => true
  | .str _ => true
  | .raw _ => true
  | _ => false
theorem sca_dat {H H' : Hp} {v : V} (h : sca d = true) (hd : Dat K C H d v) : Dat K C H' d v := by
  cases d with
  | non => exact dat_non.mpr (dat_non.mp hd)
  | bl b => exact dat_bl.mpr (dat_bl.mp hd)
  | int i => exact dat_int.mpr (dat_int.mp hd)
  | str x => exact dat_str.mpr (dat_str.mp hd)
  | raw w => exact dat_raw.mpr (dat_raw.mp hd)
  | lst _ => cases h
  | tup _ => cases h
  | dic _ => cases h
  | rcp _ _ => cases h
  | dtp _ => cases h
theorem sca_dats {H H' : Hp} : ∀ {ds : List D} {vs : List V}, (∀ d ∈ ds, sca d = true) → Dats K C H ds vs → Dats K C H' ds vs
  | [], vs, _, h => dats_nil.mpr (dats_nil.mp h)
  | d :: ds, vs, h, g => by
    obtain ⟨x, ys, rfl, h1, h2⟩ := dats_cons.mp g
    exact .cons (sca_dat (h d (List.mem_cons_self ..)) h1) (sca_dats (fun e he => h e (List.mem_cons_of_mem _ he)) h2)
theorem sca_ints (ns : List Int) : ∀ d ∈ dI ns, sca d = true := fun d h => by
  obtain ⟨n, _, rfl⟩ := List.mem_map.mp h
  rfl
theorem ef_sca (h : EvD K C te δ d) (s : sca d = true) : EvF K C te δ d := fun O σ H n Q q => h O σ H n Q fun v H' s1 hd => q v H' s1 (sca_dat s hd)
theorem dat_new {H H' : Hp} {p : Addr} {xs : List V} (s : Same H H') (hp : H p = none) (h : H' p = some (.lst xs)) (g : Dats K C (hid (dom H) H') ds xs) : Dat K C (hid (dom H) H') (.lst ds) (.ref p) :=
  dat_lst_iff.mpr ⟨p, xs, rfl, by unfold hid dom; rw [hp]; exact h, g⟩
/-- a new list of scalars -/
theorem ef_of (h : EvN K C te δ (.lst ds)) (hs : ∀ d ∈ ds, sca d = true) : EvF K C te δ (.lst ds) := fun O σ H n Q q => h O σ H n Q fun p H' s hp hd => by
  obtain ⟨b, xs, e, h1, h2⟩ := dat_lst_iff.mp hd
  cases e
  exact q _ H' s (dat_new s hp (hid_same _ _ h1) (sca_dats hs h2))
/-- a comprehension of new things -/
theorem ef_lc1 {α : Type} {as : List α} {g0 : α → D} {f : α → D} {δi : α → Dl} {wi : TI} {g : TG} {vs : List Nat} (hI : EvI K C wi δ (as.map g0)) (hG : ∀ a ∈ as, EvG K C g vs (wipeD δ vs) (g0 a) (δi a))
    (hE : ∀ a ∈ as, EvF K C te (δi a) (f a)) (hl : as.length ≤ 100000) : EvF K C (tLc wi g tYes te vs) δ (.lst (as.map f)) := fun O σ H n Q q => hI O σ H n _ fun J H1 s1 w Da hD => by
  have n1 := n.same s1
  have key : ∀ H2, Same H1 H2 → Same (hid O H1) (hid (addO O Da) H2) := fun H2 s => (add_fresh hD).trans (same_hid s)
  refine ⟨fun i m H2 => m = as.length - i ∧ i ≤ as.length ∧ Same H1 H2 ∧ ∃ acc, H2 Da = some (.lst acc) ∧ Dats K C (hid (addO (dom H1) Da) H2) ((as.take i).map f) acc, ⟨as.length, by omega, Nat.zero_le _, same_new hD, [], upd_same, by rw [List.take_zero]; exact .nil⟩, ?_⟩
  rintro i m H2 ⟨rfl, hi, s2, acc, ha, hacc⟩
  have o2 : OIn (addO O Da) H2 := (n1.own.same s2).add ⟨_, ha, trivial⟩
  have wl : (as.map g0).length = as.length := List.length_map _
  by_cases hlt : i < as.length
  · have hia : as[i]? = some as[i] := by simp [hlt]
    have hmem : as[i] ∈ as := List.getElem_mem hlt
    refine .inr ⟨w.go _ i H2 (key H2 s2) o2 (by rw [wl]; exact hlt), fun H3 => i + 1 ≤ as.length ∧ Same H1 H3 ∧ ∃ acc, H3 Da = some (.lst acc) ∧ Dats K C (hid (addO (dom H1) Da) H3) ((as.take (i + 1)).map f) acc,
      fun H' hN => ⟨_, by omega, rfl, hN⟩, fun x H3 y => ?_⟩
    obtain ⟨s3, d3⟩ := w.yld _ i H2 x H3 (g0 as[i]) (key H2 s2) o2 (by rw [List.getElem?_map, hia]; rfl) y
    have s13 := s2.trans s3
    have n3 : At K C (addO O Da) H3 (L2.wipe σ vs) (wipeD δ vs) := ⟨o2.same s3, (n1.env.same (key H3 s13)).wipe vs⟩
    refine hG _ hmem _ _ _ _ n3 d3 _ fun σ4 hw n4 => ⟨by rw [hw, wipe_wipe], ?_⟩
    refine iteT (A := te σ4 H3 _) (B := i + 1 ≤ as.length ∧ Same H1 H3 ∧ ∃ acc, H3 Da = some (.lst acc) ∧ Dats K C (hid (addO (dom H1) Da) H3) ((as.take (i + 1)).map f) acc) ?_
    refine hE _ hmem _ _ _ n4 _ fun v H6 s6 d6 => ?_
    have ht : as.take (i + 1) = as.take i ++ [as[i]] := List.take_succ_eq_append_getElem hlt
    have s36 := s3.trans s6
    have hl2 : acc.length ≤ as.length := by
      rw [hacc.length, List.length_map, List.length_take]
      omega
    refine ⟨acc, s36 _ _ ha, Nat.lt_of_le_of_lt (Nat.le_trans hl2 hl) (by decide), hlt, same_mut (s2.trans s36) hD, _, upd_same, ?_⟩
    rw [add_upd, ht, List.map_append]
    refine (hacc.same (same_hid s36)).append (.one (d6.same fun a u e => ?_))
    -- new since H3: not in H1, not Da
    unfold hid at e ⊢
    split at e
    · cases e
    · rename_i z
      rw [if_neg (fun y => z ?_)]
      · exact e
      · unfold addO at y
        rcases Bool.or_eq_true_iff.mp y with y | y
        · exact dom_mono s13 y
        · have y := of_decide_eq_true y
          subst y
          unfold dom
          rw [s3 _ _ ha]
          rfl
  · have e : i = as.length := by omega
    subst e
    rw [List.take_length] at hacc
    refine .inl ⟨by rw [← wl]; exact w.stop _ H2 (key H2 s2) o2, q _ _ (s1.trans s2) ?_⟩
    have h2 : Dat K C (hid (dom H1) H2) (.lst (as.map f)) (.ref Da) := dat_new s2 hD ha (hacc.same add_le)
    exact h2.same (dom_le s1)
theorem ef_is (h : EvF K C te δ d) (e : d = z) : EvF K C te δ z := e ▸ h
/-- tuple(a new list) -/
theorem ef_tup (h : EvF K C te δ (.lst ds)) : EvF K C (tCB (fun xs H Q => ∃ p ys, xs = [V.ref p] ∧ ((SqL K H p ys ∧ ∀ l, H l = none → Q (.ref l) (upd H l (.tup ys))) ∨ (SqT K H p ys ∧ Q (.ref p) H))) (tCons te tNil)) δ (.tup ds) := fun O σ H n Q q =>
  h O σ H n _ fun v H1 s1 hd => by
    obtain ⟨a, xs, rfl, h1, h2⟩ := dat_lst_iff.mp hd
    refine ⟨a, xs, rfl, .inl ⟨sqL_of h1, fun p hp => q _ _ (s1.trans (same_new hp)) (dat_tup_iff.mpr ⟨p, xs, rfl, ?_, h2.same (same_hid (same_new hp))⟩)⟩⟩
    unfold hid dom
    rw [back_none s1 hp]
    exact upd_same
theorem sf_ret (h : EvF K C te δ d) : StF K C (tRet te) δ d := fun O σ H n Z q => h O σ H n _ fun v H' s hd => q v H' s hd
theorem sf_guard {b : Bool} (h : EvT K C t δ b) (h1 : b = true → StF K C ts δ d) (h2 : b = false → StF K C ts' δ d) : StF K C (tSeq (tIfS t ts tNext) ts') δ d := fun O σ H n Z q => h O σ H n _ fun H' s => by
  cases b with
  | true => exact h1 rfl O σ H' (n.same s) { Z with nx := ts' Z } fun v2 H2 s2 d2 => q v2 H2 (s.trans s2) (d2.same (dom_le s))
  | false => exact h2 rfl O σ H' (n.same s) Z fun v2 H2 s2 d2 => q v2 H2 (s.trans s2) (d2.same (dom_le s))
theorem sf_seq (h : StX K C ts δ δ') (g : StF K C ts' δ' d) : StF K C (tSeq ts ts') δ d := fun O σ H n Z q => h O σ H n { Z with nx := ts' Z } fun σ' H' s n' => g O σ' H' n' Z fun v H2 s2 d2 => q v H2 (s.trans s2) (d2.same (dom_le s))
theorem ef_if {b : Bool} (h : EvT K C t δ b) (h1 : b = true → EvF K C ta δ z) (h2 : b = false → EvF K C tb δ z) : EvF K C (tIf t ta tb) δ z := fun O σ H n Q q => h O σ H n _ fun H' s => by
  cases b with
  | true => exact h1 rfl O σ H' (n.same s) Q fun v2 H2 s2 d2 => q v2 H2 (s.trans s2) (d2.same (dom_le s))
  | false => exact h2 rfl O σ H' (n.same s) Q fun v2 H2 s2 d2 => q v2 H2 (s.trans s2) (d2.same (dom_le s))
/-! enumerate, zip -/
def enuD (ds : List D) : List D := (ds.zipIdx).map fun (p : D × Nat) => D.tup [.int (p.2 : Int), p.1]
def zipD (ds es : List D) : List D := (ds.zip es).map fun (p : D × D) => D.tup [p.1, p.2]
theorem ei_enum (h : EvD K C tl δ (.lst ds)) : EvI K C (iEnum K (tCons tl tNil)) δ (enuD ds) := fun O σ H n R q => h O σ H n _ fun v H1 s1 d1 => by
  obtain ⟨a, xs, rfl, h1, h2⟩ := dat_lst_iff.mp d1
  have hl : (enuD ds).length = ds.length := by unfold enuD; rw [List.length_map, List.length_zipIdx]
  have key : ∀ O' H', Same (hid O H1) (hid O' H') → SqL K H' a xs ∧ Dats K C (hid O' H') ds xs := fun O' H' s => ⟨sqL_of (s _ _ h1), h2.same s⟩
  refine ⟨a, xs, rfl, sqL_of h1, q _ _ s1 ⟨fun O' i H' s o hi => ?_, fun O' i H' x H2 d s o hi y => ?_, fun O' H' s o => ?_⟩⟩
  · rw [hl] at hi
    exact ⟨xs, xs[i]'(by rw [h2.length]; exact hi), (key O' H' s).1, by simp [h2.length, hi]⟩
  · obtain ⟨T, x', rfl, hT, rfl, y⟩ := y
    obtain ⟨k1, k2⟩ := key O' _ s
    unfold enuD at hi
    rw [List.getElem?_map, List.getElem?_zipIdx] at hi
    have g3 := y xs k1
    obtain ⟨d', q1, q2⟩ := k2.get' g3
    rw [q1] at hi
    have e : D.tup [.int ((0 + i : Nat) : Int), d'] = d := by simpa using hi
    rw [Nat.zero_add] at e
    subst e
    exact ⟨same_new hT, new_tup o hT (.cons (dat_int.mpr rfl) (.one q2))⟩
  · exact ⟨xs, (key O' H' s).1, by rw [hl, h2.length]; exact Nat.le_refl _⟩
theorem ei_zipL (h : EvD K C ta δ (.lst ds)) (g : EvD K C tb δ (.lst es)) : EvI K C (RZ.iZipA K (tCons ta (tCons tb tNil))) δ (zipD ds es) := fun O σ H n R q => h O σ H n _ fun v H0 s0 d0 => g O σ H0 (n.same s0) _ fun w H1 s1 d1 => by
  obtain ⟨a, xs, rfl, h1, h2⟩ := dat_lst_iff.mp (d0.same (same_hid (O := O) s1))
  obtain ⟨b, ys, rfl, g1, g2⟩ := dat_lst_iff.mp d1
  have hl : (zipD ds es).length = min ds.length es.length := by unfold zipD; rw [List.length_map, List.length_zip]
  have key : ∀ O' H', Same (hid O H1) (hid O' H') → (SqL K H' a xs ∧ Dats K C (hid O' H') ds xs) ∧ SqL K H' b ys ∧ Dats K C (hid O' H') es ys := fun O' H' s => ⟨⟨sqL_of (s _ _ h1), h2.same s⟩, sqL_of (s _ _ g1), g2.same s⟩
  refine ⟨a, b, xs, ys, rfl, .inl ⟨sqL_of h1, sqL_of g1, q _ _ (s0.trans s1) ⟨fun O' i H' s o hi => ?_, fun O' i H' x H2 d s o hi y => ?_, fun O' H' s o => ?_⟩⟩⟩
  · rw [hl] at hi
    exact ⟨xs, ys, xs[i]'(by rw [h2.length]; omega), ys[i]'(by rw [g2.length]; omega), (key O' H' s).1.1, (key O' H' s).2.1, by simp, by simp⟩
  · obtain ⟨T, x', y', rfl, hT, rfl, y1, y2⟩ := y
    obtain ⟨⟨k1, k2⟩, k3, k4⟩ := key O' _ s
    obtain ⟨d1', q1, q2⟩ := k2.get' (y1 xs k1)
    obtain ⟨d2', q3, q4⟩ := k4.get' (y2 ys k3)
    unfold zipD at hi
    rw [List.getElem?_map, (List.getElem?_zip_eq_some (z := (d1', d2'))).mpr ⟨q1, q3⟩] at hi
    have e : D.tup [d1', d2'] = d := by simpa using hi
    subst e
    exact ⟨same_new hT, new_tup o hT (.cons q2 (.one q4))⟩
  · refine ⟨xs, ys, (key O' H' s).1.1, (key O' H' s).2.1, ?_⟩
    rw [hl, h2.length, g2.length]
    omega
theorem ei_zipT (h : EvD K C ta δ (.tup ds)) (g : EvD K C tb δ (.tup es)) : EvI K C (RZ.iZipA K (tCons ta (tCons tb tNil))) δ (zipD ds es) := fun O σ H n R q => h O σ H n _ fun v H0 s0 d0 => g O σ H0 (n.same s0) _ fun w H1 s1 d1 => by
  obtain ⟨a, xs, rfl, h1, h2⟩ := dat_tup_iff.mp (d0.same (same_hid (O := O) s1))
  obtain ⟨b, ys, rfl, g1, g2⟩ := dat_tup_iff.mp d1
  have hl : (zipD ds es).length = min ds.length es.length := by unfold zipD; rw [List.length_map, List.length_zip]
  have key : ∀ O' H', Same (hid O H1) (hid O' H') → (SqT K H' a xs ∧ Dats K C (hid O' H') ds xs) ∧ SqT K H' b ys ∧ Dats K C (hid O' H') es ys := fun O' H' s => ⟨⟨sqT_of (s _ _ h1), h2.same s⟩, sqT_of (s _ _ g1), g2.same s⟩
  refine ⟨a, b, xs, ys, rfl, .inr ⟨sqT_of h1, sqT_of g1, q _ _ (s0.trans s1) ⟨fun O' i H' s o hi => ?_, fun O' i H' x H2 d s o hi y => ?_, fun O' H' s o => ?_⟩⟩⟩
  · rw [hl] at hi
    exact ⟨xs, ys, xs[i]'(by rw [h2.length]; omega), ys[i]'(by rw [g2.length]; omega), (key O' H' s).1.1, (key O' H' s).2.1, by simp, by simp⟩
  · obtain ⟨T, x', y', rfl, hT, rfl, y1, y2⟩ := y
    obtain ⟨⟨k1, k2⟩, k3, k4⟩ := key O' _ s
    obtain ⟨d1', q1, q2⟩ := k2.get' (y1 xs k1)
    obtain ⟨d2', q3, q4⟩ := k4.get' (y2 ys k3)
    unfold zipD at hi
    rw [List.getElem?_map, (List.getElem?_zip_eq_some (z := (d1', d2'))).mpr ⟨q1, q3⟩] at hi
    have e : D.tup [d1', d2'] = d := by simpa using hi
    subst e
    exact ⟨same_new hT, new_tup o hT (.cons q2 (.one q4))⟩
  · refine ⟨xs, ys, (key O' H' s).1.1, (key O' H' s).2.1, ?_⟩
    rw [hl, h2.length, g2.length]
    omega
end
section
variable {X : Cx} {e e2 : Expr} {ta : TA} {p pos tpos : Pos} {elts : List Expr} {kk : Nat}
theorem i_enum {K : PySem.W.Frag} (b : BFree X.mg) (ha : PA X [e] ta) (hg : Gl X "enumerate" := by rfl) (hs : starEach [e] X.env = [(false, eval e X.env)] := by rfl) (hK : X.K = K := by rfl) : PI X (.Tuple elts kk tpos) (.Call (.Name "enumerate" p) [e] [] pos) (iEnum K ta) := by
  subst hK
  exact pi_enum hg (b _ (by decide)) ha hs
theorem i_zip {K : PySem.W.Frag} (b : BFree X.mg) (ha : PA X [e, e2] ta) (hg : Gl X "zip" := by rfl) (hs : starEach [e, e2] X.env = (false, eval e X.env) :: starEach [e2] X.env := by rfl) (hpl : (backTo pos (starEach [e2] X.env)).any (·.1) = false := by rfl) (hK : X.K = K := by rfl) :
    PI X (.Tuple elts kk tpos) (.Call (.Name "zip" p) [e, e2] [] pos) (RZ.iZipA K ta) := by
  subst hK
  exact RZ.pi_zipA hg (b _ (by decide)) ha hs hpl
end
section
open PyProof.Rows
variable {P : Program} {w : World} {K : PySem.W.Frag} {C : Addr} {mg : Str → Option Value} {base : Heap} {x : Str} {k : Nat} {ps N : List Str} {st : Stmt} {fa : Addr} {fd : FuncData} {pre : List D → Prop} {f : List D → D}
theorem okF (F : DefAt K mg x ps st fa fd) (S : FnScope N ps (defScope st))
    (hbody : ∀ (cdv : Value) (A : Around) (outer : List Env) (s : Shared) (H : Hp) (E : XK), Room k (A.deeper (envOfC x (defScope st) s.heap.objs.size fa cdv)) →
      ∃ t, PSs (cxOf CX0 P w K mg base N x (defScope st) fa cdv A outer s H E).nox (defBody st) t ∧ ∀ ds, pre ds → StF K C t (startD N ds) (f ds)) : DefOk P w K mg base x (k + 1) ps (SpF K C pre f ps.length) := by
  refine F.ok S (fun vs H Q E h => h.1) (fun cdv A outer s H vs Q E hr h => ?_)
  obtain ⟨t, h1, h2⟩ := hbody cdv A outer s H E hr
  obtain ⟨_, O, ds, o, hd, hp, hq⟩ := h
  exact ⟨t, h1, h2 ds hp O _ H (at_start o hd) _ hq⟩
/-- a promise for no argument at all -/
theorem ok_void (F : DefAt K mg x ps st fa fd) (sp : Sp) (h : ∀ vs H Q E, ¬ sp vs H Q E) : DefOk P w K mg base x 0 ps sp :=
  ⟨fa, fd, ⟨fun vs H Q E q => absurd q (h vs H Q E), fun A outer s H args us vs Q E _ _ _ _ q => absurd q (h vs H Q E)⟩, F.at_, F.fn.kp, F.bi⟩
end
end Zm


set_option Elab.async false
set_option linter.all false
set_option maxRecDepth 100000
set_option maxHeartbeats 4000000
set_option autoImplicit false
namespace Zm
open PySem PySem.Spec L2

structure MethAt (K : PySem.W.Frag) (C : Addr) (m q : Str) (ps : List Str) (st : Stmt) (f : Addr) (fd : FuncData) : Prop where
  fn : FunD K m q (defArgs st) (defBody st) (defScope st) [] [] f fd
  me : Meth K C m f
  bi : Binds K fd ps []
section
open PyProof.Rows
variable {P : Program} {w : World} {K : PySem.W.Frag} {C : Addr} {mg : Str → Option Value} {base : Heap} {x q m : Str} {k : Nat} {ps N : List Str} {st : Stmt} {fa : Addr} {fd : FuncData} {pre : List D → Prop} {f : List D → D} {sp : Sp}
theorem MethAt.ok (F : MethAt K C m q ps st fa fd) (cl : Cls K C) (S : FnScope N ps (defScope st)) (len : ∀ vs H Q E, sp vs H Q E → vs.length = ps.length)
    (hbody : ∀ (cdv : Value) (A : Around) (outer : List Env) (s : Shared) (H : Hp) (vs : List V) (Q : VK) (E : XK), Room k (A.deeper (envOfC q (defScope st) s.heap.objs.size fa cdv)) → sp vs H Q E →
      ∃ t, PSs (cxOf CX0 P w K mg base N q (defScope st) fa cdv A outer s H E).nox (defBody st) t ∧ t { nx := fun _ H' => Q .non H', rt := Q } (L2.start N vs) H) : MethOk P w K mg base C m (k + 1) ps sp := by
  refine ⟨cl, fa, fd, F.fn.ok S len fun cdv A outer s H vs Q E hr h => ?_, F.me, F.bi⟩
  obtain ⟨t, h1, h2⟩ := hbody cdv A outer s H vs Q E hr h
  exact ⟨t, PSs.nox h1, h2⟩
theorem MethAt.okD (F : MethAt K C m q ps st fa fd) (cl : Cls K C) (S : FnScope N ps (defScope st))
    (hbody : ∀ (cdv : Value) (A : Around) (outer : List Env) (s : Shared) (H : Hp) (E : XK), Room k (A.deeper (envOfC q (defScope st) s.heap.objs.size fa cdv)) →
      ∃ t, PSs (cxOf CX0 P w K mg base N q (defScope st) fa cdv A outer s H E).nox (defBody st) t ∧ ∀ ds, pre ds → StR K C t (startD N ds) (f ds)) : MethOk P w K mg base C m (k + 1) ps (SpD K C pre f ps.length) := by
  refine F.ok cl S (fun vs H Q E h => h.1) (fun cdv A outer s H vs Q E hr h => ?_)
  obtain ⟨t, h1, h2⟩ := hbody cdv A outer s H E hr
  obtain ⟨_, O, ds, o, hd, hp, hq⟩ := h
  exact ⟨t, h1, h2 ds hp O _ H (at_start o hd) _ hq⟩
theorem MethAt.okF (F : MethAt K C m q ps st fa fd) (cl : Cls K C) (S : FnScope N ps (defScope st))
    (hbody : ∀ (cdv : Value) (A : Around) (outer : List Env) (s : Shared) (H : Hp) (E : XK), Room k (A.deeper (envOfC q (defScope st) s.heap.objs.size fa cdv)) →
      ∃ t, PSs (cxOf CX0 P w K mg base N q (defScope st) fa cdv A outer s H E).nox (defBody st) t ∧ ∀ ds, pre ds → StF K C t (startD N ds) (f ds)) : MethOk P w K mg base C m (k + 1) ps (SpF K C pre f ps.length) := by
  refine F.ok cl S (fun vs H Q E h => h.1) (fun cdv A outer s H vs Q E hr h => ?_)
  obtain ⟨t, h1, h2⟩ := hbody cdv A outer s H E hr
  obtain ⟨_, O, ds, o, hd, hp, hq⟩ := h
  exact ⟨t, h1, h2 ds hp O _ H (at_start o hd) _ hq⟩
/-- what is promised of the making of a recipe -/
def ValidR (m : Int) (rows : List (List Int)) : Prop := 0 ≤ m ∧ 1 ≤ rows.length ∧ rows.length ≤ 1000 ∧ ∀ r ∈ rows, RowOk m r ∧ r.length ≤ 1000
def spInit (K : PySem.W.Frag) (C : Addr) : Sp := fun vs H Q _ => ∃ (x dx : Addr) (m : Int) (rows : List (List Int)) (v : V) (O : Addr → Bool) (H0 : Hp), vs = [.ref x, .int m, v] ∧ H0 x = none ∧ Same H0 H ∧ H x = some (.ins C dx []) ∧ OIn O H0 ∧ Dat K C (hid O H0) (rowsL rows) v ∧ ValidR m rows ∧
  ∀ H', Same H0 H' → Dat K C (hid (dom H0) H') (.rcp m rows) (.ref x) → Q .non H'
structure MakeOk (P : Program) (w : World) (K : PySem.W.Frag) (mg : Str → Option Value) (base : Heap) (C : Addr) (x : Str) (k : Nat) (ps : List Str) (sp : Sp) : Prop where
  ex : ∃ (f : Addr) (fd : FuncData), FnOk P w K mg base CX0 k f fd ps sp ∧ Mk K C f ∧ mg x = some (.ref C) ∧ Binds K fd ps []
end
section
variable {X : Cx} {C : Addr} {k : Nat} {ps : List Str} {sp : Sp} {x m : Str} {p pos apos : Pos} {e o : Expr} {es : List Expr} {ta : TE} {t : TA}
theorem pe_me0 {pl : Sem Bool} (M : MethOk X.prog X.w X.K X.mg X.base C m k ps sp) (hr : Room k X.A) (he : PE X o ta) (hx : Passes CX0 X E0 := by exact pass0)
    (ht : eval (.Call (.Attribute o m apos) [] [] pos) X.env = (do
      let ov ← eval o X.env
      standAt apos.atName
      let (f, first) ← holding [ov] (getMethod ov m pl)
      callWith pos f first (backTo pos (starEach [] X.env)) (backToKw pos (keywordEach [] X.env))) := by rfl) : PE X (.Call (.Attribute o m apos) [] [] pos) (tMeth C m sp [] E0 ta tNil) := by
  obtain ⟨f, fd, F, hm, hb⟩ := M.ex
  exact pe_meth0 he M.cl hm F hr hb .nil hx ht
theorem pe_me {pl : Sem Bool} (M : MethOk X.prog X.w X.K X.mg X.base C m k ps sp) (hr : Room k X.A) (he : PE X o ta) (ha : PA X (e :: es) t) (hx : Passes CX0 X E0 := by exact pass0)
    (hst : starEach (e :: es) X.env = (false, eval e X.env) :: starEach es X.env := by rfl) (hpl : (backTo pos (starEach es X.env)).any (·.1) = false := by rfl)
    (ht : eval (.Call (.Attribute o m apos) (e :: es) [] pos) X.env = (do
      let ov ← eval o X.env
      standAt apos.atName
      let (f, first) ← holding [ov] (getMethod ov m pl)
      callWith pos f first (backTo pos (starEach (e :: es) X.env)) (backToKw pos (keywordEach [] X.env))) := by rfl) : PE X (.Call (.Attribute o m apos) (e :: es) [] pos) (tMeth C m sp [] E0 ta t) := by
  obtain ⟨f, fd, F, hm, hb⟩ := M.ex
  exact pe_meth he M.cl hm F hr hb .nil hx ha hst hpl ht
theorem pe_mk (M : MakeOk X.prog X.w X.K X.mg X.base C x k ps sp) (hr : Room (k + 1) X.A) (ha : PA X (e :: es) t) (hg : Gl X x := by rfl) (hdb : (x == ("__debug__" : Str)) = false := by decide)
    (he : starEach (e :: es) X.env = (false, eval e X.env) :: starEach es X.env := by rfl) (hpl : (backTo pos (starEach es X.env)).any (·.1) = false := by rfl) (hx : Passes CX0 X E0 := by exact pass0) :
    PE X (.Call (.Name x p) (e :: es) [] pos) (tMake C sp [] E0 t) := by
  obtain ⟨f, fd, F, hm, hg2, hb⟩ := M.ex
  exact pe_make hm F hr hg hg2 hb .nil hx ha hdb he hpl
end
section
variable {K : PySem.W.Frag} {C : Addr} {δ : Dl} {tr : TA} {E : XK}
theorem ef_mk {m : Int} {rows : List (List Int)} (ha : EvA K C tr δ [.int m, rowsL rows]) (hv : ValidR m rows) : EvF K C (tMake C (spInit K C) [] E tr) δ (.rcp m rows) := fun O σ H n Q q =>
  ha O σ H n _ fun vs H1 s1 d1 x dx hx hdx hne => by
    obtain ⟨y, z, rfl, h1, h2⟩ := dats_two.mp d1
    rw [dat_int.mp h1]
    have s2 : Same H1 (upd (upd H1 dx (.own x)) x (.ins C dx [])) := (same_new hdx).trans (same_new (by rw [upd_ne hne.symm]; exact hx))
    exact ⟨x, dx, m, rows, z, O, H1, rfl, hx, s2, upd_same, (n.same s1).own, h2, hv, fun H' s3 d3 => ⟨rfl, q _ H' (s1.trans s3) (d3.same (dom_le s1))⟩⟩
end
section
variable {K : PySem.W.Frag} {C : Addr} {δ : Dl} {te : TE} {ds : List D}
/-- a new tuple of scalars -/
theorem ef_ofT (h : EvN K C te δ (.tup ds)) (hs : ∀ d ∈ ds, sca d = true) : EvF K C te δ (.tup ds) := fun O σ H n Q q => h O σ H n Q fun p H' s hp hd => by
  obtain ⟨b, xs, e, h1, h2⟩ := dat_tup_iff.mp hd
  cases e
  exact q _ H' s (dat_tup_iff.mpr ⟨p, xs, rfl, by unfold hid dom; rw [hp]; exact hid_same _ _ h1, sca_dats hs h2⟩)
theorem hid_upd {O : Addr → Bool} {H : Hp} {p : Addr} {o : HO} (h : O p = true) : hid O (upd H p o) = hid O H := by
  funext a
  unfold hid
  by_cases e : a = p
  · subst e
    rw [if_pos h, if_pos h]
  · rw [upd_ne e]
theorem put_many (m : Int) : putF sMany (.int m) [] = [(sMany, V.int m)] := rfl
theorem put_needs (m : Int) (t : Addr) : putF sNeeds (.ref t) [(sMany, V.int m)] = fsR m t := by
  show (if sMany = sNeeds then [(sMany, V.ref t)] else (sMany, V.int m) :: putF sNeeds (.ref t) []) = fsR m t
  rw [if_neg (by decide +kernel)]
  rfl
end
/-- what the written part says of the class of recipes -/
structure RecFacts (K : PySem.W.Frag) (C : Addr) : Prop where
  cl : Cls K C
  na : NoAttr K C sMany
  na2 : NoAttr K C sNeeds
  ha : PySem.W.findIn K (.ref C) "__class__" = some (some (.builtin "object.__class__"))
  hn : PySem.W.specialIn K (.builtin "object.__class__") "__get__" = some (some (.builtin "getset_descriptor.__get__"))
  tk : PySem.W.takesIn K (.builtin "object.__class__") = some true
  hm : PySem.W.mroIn K C (.type "object") = some true
  no : ∀ s ∈ tyNames, PySem.W.kitOne K (.type s) (.ref C) = some false
section
variable {K : PySem.W.Frag} {C : Addr} {δ : Dl} {te ti : TE} {ds : List D} {d : D}
theorem rc_isiR (R : RecFacts K C) {m : Int} {rows : List (List Int)} : RCD K C (rIsi K) [.rcp m rows, .raw (.ref C)] (.bl true) := fun O H vs o h Q q => by
  obtain ⟨x, y, rfl, hx, hy⟩ := dats_two.mp h
  rw [dat_raw.mp hy]
  obtain ⟨a, dx, t, xs, rfl, h1, h2, h3⟩ := dat_rcp_iff.mp hx
  refine ⟨_, .ref C, .ref C, .ref C, true, rfl, .own C, .base (.ins (hid_same _ _ h1) R.cl R.ha R.hn R.tk R.hm), ?_, q _ H (Same.refl H) (dat_bl.mpr rfl)⟩
  unfold PySem.W.kitOne
  rw [if_pos (by simp)]
theorem rc_isiN (R : RecFacts K C) {s : String} (hd : tyD d = some s) : RCD K C (rIsi K) [d, .raw (.ref C)] (.bl false) := fun O H vs o h Q q => by
  obtain ⟨x, y, rfl, hx, hy⟩ := dats_two.mp h
  rw [dat_raw.mp hy]
  exact ⟨x, .ref C, .type s, .ref C, false, rfl, .own C, ty_dat hx hd, R.no s (tyD_mem hd), q _ H (Same.refl H) (dat_bl.mpr rfl)⟩
/-- an item of a new list -/
theorem ef_ix {i : Int} (h : EvF K C te δ (.lst ds)) (hi : EvD K C ti δ (.int i)) (e : atI ds i = some d) : EvF K C (tOp (rIxL K) te ti) δ d := fun O σ H n Q q => h O σ H n _ fun v H1 s1 d1 => hi O σ H1 (n.same s1) _ fun w H2 s2 d2 => by
  obtain ⟨a, xs, rfl, h1, h2⟩ := dat_lst_iff.mp (d1.same (same_hid s2))
  obtain ⟨x, h3, h4⟩ := dats_at h2 e
  exact ⟨a, xs, i, x, rfl, dat_int.mp d2, sqL_of h1, h3, q x H2 (s1.trans s2) h4⟩
end
section
variable {X : Cx} {C : Addr} {x : Str} {pos : Pos}
theorem n_cl (hm : X.mg x = some (.ref C)) (hg : Gl X x := by rfl) (hd : (x == ("__debug__" : Str)) = false := by decide) : PE X (.Name x pos) (tC (.ref C)) := pe_glob hg hm rfl hd
end
end Zm


set_option Elab.async false
set_option linter.all false
set_option maxRecDepth 100000
set_option maxHeartbeats 4000000
set_option autoImplicit false
namespace Zm
open PySem PySem.Spec L2 PyProof.Rows

/-! ### set comprehensions of two clauses, over ints -/
abbrev Nay : Value → Shared → Prop := fun _ _ => False
/-- one turn of a clause: the item, its store, the tests -/
def Nest (P : Program) (w : World) (A : Around) (tg : Expr) (ifs : List Expr) (it : Value) (env : Env) (Stop : Shared → Prop) (Body : Bool → Shared → Prop) (s : Shared) : Prop :=
  wpAny (model P w) A (pyNext it) (fun r s1 => match r with
    | none => Stop s1
    | some v => wpAny (model P w) A (letOwnedTupleGo tg it v) (fun _ s2 => wpAny (model P w) A (assign tg env v) (fun _ s3 =>
        wpAny (model P w) A (forIn ifs true fun c r => if r = true then do let ok ← isTrue c env (eval c env); pure (ForInStep.yield ok) else pure (ForInStep.yield r)) Body Nay s3) Nay s2) Nay s1) Nay s
theorem nay {α : Type} {t : Sem α} {Q Q' : α → Shared → Prop} {M : Model} {A : Around} {E : Value → Shared → Prop} {s : Shared} (h : wpAny M A t Q Nay s) (f : ∀ a s, Q a s → Q' a s) : wpAny M A t Q' E s :=
  wpAny_mono h f fun _ _ z => z.elim

section
variable {P : Program} {w : World} {A : Around} {R : Result → Shared → Prop} {s : Shared} {elt t0 i0 t1 i1 : Expr} {f0 f1 : List Expr} {scope : Scope} {pos : Pos} {it acc : Value} {env : Env}
abbrev sc2 (elt t0 i0 t1 i1 : Expr) (f0 f1 : List Expr) (scope : Scope) (pos : Pos) : Expr := .SetComp elt [⟨t0, i0, f0, 0⟩, ⟨t1, i1, f1, 0⟩] scope pos
theorem turnS_out : compTurn (sc2 elt t0 i0 t1 i1 f0 f1 scope pos) 0 it acc env = (do
      standAt i0.pos
      match ← pyNext it with
      | none => pure (.done .next)
      | some v =>
        letOwnedTupleGo t0 it v
        assign t0 env v
        let mut yes := true
        for c in f0 do
          if yes then yes ← isTrue c env (eval c env)
        if yes then
          let z ← eval i1 env
          standAt i1.pos
          let z ← foldedSetIterable i1 env z
          let _ ← runOwn (.compStart (sc2 elt t0 i0 t1 i1 f0 f1 scope pos) 1 (← holding [z] (pyIter z)) acc env) env
        again (.compLoop (sc2 elt t0 i0 t1 i1 f0 f1 scope pos) 0 it acc env)) := by rfl
theorem turnS_in : compTurn (sc2 elt t0 i0 t1 i1 f0 f1 scope pos) 1 it acc env = (do
      standAt i1.pos
      match ← pyNext it with
      | none => pure (.done .next)
      | some v =>
        letOwnedTupleGo t1 it v
        assign t1 env v
        let mut yes := true
        for c in f1 do
          if yes then yes ← isTrue c env (eval c env)
        if yes then
          (do let z ← eval elt env; standAt elt.pos; let _ ← call (.builtin "set.add") [acc, z])
        again (.compLoop (sc2 elt t0 i0 t1 i1 f0 f1 scope pos) 1 it acc env)) := by rfl
abbrev Less (I : Nat → Shared → Prop) (n : Nat) : Shared → Prop := fun s => ∃ m, m < n ∧ I m s
/-- what an inner loop is to reach -/
def Inner (G : Shared → Prop) : Result → Shared → Prop := fun r s => match r with
  | .ok _ => G s
  | .error _ => False
theorem loopS_out (fs : ∀ x, foldedSetIterable i1 env x = pure x) (I : Nat → Shared → Prop) (turn : ∀ n s, I n s → Nest P w A t0 f0 it env (R (.ok .next)) (fun b s4 => if b = true then
      wpAny (model P w) A (eval i1 env) (fun z s5 => wpAny (model P w) A (pyIter z) (fun j s6 => codeAny (model P w) A (.compStart (sc2 elt t0 i0 t1 i1 f0 f1 scope pos) 1 j acc env) (Inner (Less I n)) s6) Nay s5) Nay s4 else Less I n s4) s)
    (n : Nat) (h : I n s) : codeAny (model P w) A (.compLoop (sc2 elt t0 i0 t1 i1 f0 f1 scope pos) 0 it acc env) R s := by
  refine codeAny_loop rfl I (fun n s hI => ?_) n h
  show wpAny _ A ((compTurn (sc2 elt t0 i0 t1 i1 f0 f1 scope pos) 0 it acc env).onRaise _) _ _ s
  refine wpAny_noted ?_
  rw [turnS_out]
  refine wpAny_bind (wpAny_standAt (wpAny_bind (nay (turn n s hI) fun r s1 q1 => ?_)))
  cases r with
  | none => exact wpAny_pure q1
  | some v =>
    refine wpAny_bind (nay q1 fun _ s2 q2 => wpAny_bind (nay q2 fun _ s3 q3 => wpAny_bind (nay q3 fun b s4 q4 => ?_)))
    cases b with
    | false => exact wpAny_pure ⟨rfl, q4⟩
    | true =>
      refine wpAny_bind (nay q4 fun z s5 q5 => wpAny_bind (wpAny_standAt (wpAny_bind (wpAny_of_eq (fs z) (wpAny_bind (wpAny_holding (nay q5 fun j s6 q6 => ?_)))))))
      refine wpAny_bind (wpAny_runOwn ?_)
      rw [Around.mark_none]
      refine codeAny_mono q6 fun r s7 q7 => ?_
      cases r with
      | ok f =>
        first
          | exact wpAny_pure ⟨rfl, q7⟩
          | exact wpAny_bind (wpAny_pure (wpAny_pure ⟨rfl, q7⟩))
      | error e => exact q7.elim
theorem loopS_in (I : Nat → Shared → Prop) (turn : ∀ n s, I n s → Nest P w A t1 f1 it env (R (.ok .next)) (fun b s4 => if b = true then
      wpAny (model P w) A (eval elt env) (fun z s5 => wpAny (model P w) A (call (.builtin "set.add") [acc, z]) (fun _ s6 => Less I n s6) Nay s5) Nay s4 else Less I n s4) s)
    (n : Nat) (h : I n s) : codeAny (model P w) A (.compLoop (sc2 elt t0 i0 t1 i1 f0 f1 scope pos) 1 it acc env) R s := by
  refine codeAny_loop rfl I (fun n s hI => ?_) n h
  show wpAny _ A ((compTurn (sc2 elt t0 i0 t1 i1 f0 f1 scope pos) 1 it acc env).onRaise _) _ _ s
  refine wpAny_noted ?_
  rw [turnS_in]
  refine wpAny_bind (wpAny_standAt (wpAny_bind (nay (turn n s hI) fun r s1 q1 => ?_)))
  cases r with
  | none => exact wpAny_pure q1
  | some v =>
    refine wpAny_bind (nay q1 fun _ s2 q2 => wpAny_bind (nay q2 fun _ s3 q3 => wpAny_bind (nay q3 fun b s4 q4 => ?_)))
    cases b with
    | false => exact wpAny_pure ⟨rfl, q4⟩
    | true => exact wpAny_bind (wpAny_bind (nay q4 fun z s5 q5 => wpAny_bind (wpAny_standAt (wpAny_bind (nay q5 fun _ s6 q6 => wpAny_pure (wpAny_pure ⟨rfl, q6⟩))))))
/-- the second clause's start -/
theorem startS_in (h0 : codeAny (model P w) A (.compLoop (sc2 elt t0 i0 t1 i1 f0 f1 scope pos) 1 it acc env) R s)
    (h : wpAny (model P w) A (pyIter it) (fun j s1 => codeAny (model P w) A (.compLoop (sc2 elt t0 i0 t1 i1 f0 f1 scope pos) 1 j acc env) R s1) Nay s) :
    codeAny (model P w) A (.compStart (sc2 elt t0 i0 t1 i1 f0 f1 scope pos) 1 it acc env) R s := by
  refine codeAny_of_tree ?_
  show wpAny _ _ ((compStart (sc2 elt t0 i0 t1 i1 f0 f1 scope pos) 1 it acc env).onRaise _) _ _ s
  refine wpAny_notedAt ?_
  unfold compStart
  show wpAny _ _ (ask >>= _) _ _ s
  refine wpAny_bind (wpAny_askSetting (wpAny_ite ?_))
  split
  · first
      | exact wpAny_bind (wpAny_pure (wpAny_pure ⟨rfl, h0⟩))
      | exact wpAny_pure ⟨rfl, h0⟩
  · first
      | exact wpAny_bind (wpAny_rule (wpAny_bind (wpAny_standAt (wpAny_bind (nay h fun j s1 q => wpAny_pure ⟨rfl, q⟩)))))
      | (refine wpAny_bind (wpAny_rule ?_)
         show wpAny _ _ (standAt i1.pos >>= _) _ _ s
         exact wpAny_bind (wpAny_standAt (wpAny_bind (nay h fun j s1 q => wpAny_pure ⟨rfl, q⟩))))
end

/-- a loop of a block stands ahead of some turn -/
def Stands (X : Cx) (pins : List (Addr × Obj)) (σ : L2.St) (fp : List Addr) (tn : Nat → Heap → Prop) (W : Nat → Nat → Hp → Prop) (k : Nat) (s : Shared) : Prop :=
  ∃ j H, Inv X pins σ H s ∧ tn j s.heap ∧ (∀ b ∈ fp, H b = none) ∧ W j k H
/-- the slots keep what the block began with -/
def KeepSl (σ σ' : L2.St) : Prop := σ.length = σ'.length ∧ ∀ (j : Nat) (v : V), σ[j]? = some (some v) → σ'[j]? = some (some v)
/-- behind an item's tests: the body's debt, and the way back -/
def Behind (X : Cx) (pins : List (Addr × Obj)) (σ : L2.St) (vs : List Nat) (B : Bool → L2.St → Hp → (Hp → Prop) → Prop) (G : Shared → Prop) (b : Bool) (s : Shared) : Prop :=
  ∃ ps σ2 H2 Nx, Inv X (pins ++ ps) σ2 H2 s ∧ wipe σ2 vs = wipe σ vs ∧ B b σ2 H2 Nx ∧ ∀ σ3 s3 H3, Inv X (pins ++ ps) σ3 H3 s3 → KeepSl σ σ3 → Nx H3 → G s3
theorem one_turn {X : Cx} {pins : List (Addr × Obj)} {σ : L2.St} {fp : List Addr} {it : Addr} {tn : Nat → Heap → Prop} {J : It} {tg : Expr} {g : TG} {tt : TT} {ifs : List Expr} {W : Nat → Nat → Hp → Prop} {vs : List Nat} {B : Bool → L2.St → Hp → (Hp → Prop) → Prop} {Qd : Hp → Prop}
    (hc : X.calm = true) (hx : X.xe = Nay) (T : Turn X.prog X.w X.K tg J fp it tn) (pg : PG X tg g) (pt : PTs X ifs tt) (hf : ∀ {σ' H' s'}, Inv X pins σ' H' s' → (∀ b ∈ fp, H' b = none) → ∀ b ∈ fp, FpOk X pins H' b)
    (step : ∀ j k H, W j k H → (J.stop j H ∧ Qd H) ∨ (J.go j H ∧ ∃ Nx : Hp → Prop, (∀ H', Nx H' → ∃ k', k' < k ∧ W (j + 1) k' H') ∧ ∀ x H', J.yld j H x H' → g x σ H' fun σ2 H2 => wipe σ2 vs = wipe σ vs ∧ tt σ2 H2 fun b H3 => B b σ2 H3 Nx))
    {k : Nat} {s : Shared} (h : Stands X pins σ fp tn W k s) : Nest X.prog X.w X.A tg ifs (.ref it) X.env (fun s1 => ∃ H, Inv X pins σ H s1 ∧ Qd H) (Behind X pins σ vs B (Less (Stands X pins σ fp tn W) k)) s := by
  obtain ⟨j, H, I, st, fr, wk⟩ := h
  rcases step j k H wk with ⟨stop, qd⟩ | ⟨go, Nx, nx, yl⟩
  · refine nay (T.done X rfl rfl rfl hc j pins s σ H Nay I (hf I fr) st stop) fun r s1 ⟨er, I1⟩ => ?_
    subst er
    exact ⟨H, I1, qd⟩
  · refine nay (T.item X rfl rfl rfl hc j pins s σ H Nay I (hf I fr) st go) fun r s1 ⟨u, er, h1⟩ => ?_
    subst er
    refine nay h1 fun _ s2 ⟨x, H2, I2, rx, y2, st2, fr2⟩ => ?_
    have ra := pg.run _ s2 σ H2 x u _ (I2.pinned (hf I2 fr2) (T.obj _ _ st2)) rx (yl x H2 y2)
    rw [hx] at ra
    refine nay ra fun _ s3 ⟨σ3, H3, I3, hw, q3⟩ => ?_
    have rt := pt.run _ s3 σ3 H3 _ I3 q3
    rw [hx] at rt
    refine nay rt fun b s4 ⟨H4, I4, q4⟩ => ?_
    refine ⟨pinsAt fp s2.heap, σ3, H4, Nx, I4, hw, q4, fun σ5 s5 H5 I5 ks n5 => ?_⟩
    obtain ⟨k', hk, w'⟩ := nx H5 n5
    have pin : ∀ b ∈ fp, ∀ o, s2.heap.get? b = some o → s5.heap.get? b = some o ∧ H5 b = none := fun b hb o e =>
      have z := I5.pin (b, o) (List.mem_append_right _ (List.mem_append_right _ (mem_pinsAt hb e)))
      ⟨z.1, z.2.1⟩
    refine ⟨k', hk, j + 1, H5, I5.unpinned.weak ks.1 ks.2, T.keep _ _ _ st2 fun b hb o e => (pin b hb o e).1, fun b hb => ?_, w'⟩
    obtain ⟨o, e, _⟩ := T.obj _ _ st2 b hb
    exact (pin b hb o e).2
/-- {elt for tg in iter if .. for tg1 in iter1 if ..}, elt an int: D the new set -/
def tSc2 (w : World) (wi : TI) (g : TG) (tt : TT) (wi1 : TI) (g1 : TG) (tt1 : TT) (te : TE) (vs vs1 : List Nat) : TE := fun σ H Q => wi σ H fun J H1 => ∀ D, H1 D = none →
  ∃ W : Nat → Nat → Hp → Prop, (∃ m, W 0 m (upd H1 D (SetO w D (fun _ => false) 0))) ∧ ∀ j k H2, W j k H2 → (J.stop j H2 ∧ Q (.ref D) H2) ∨ (J.go j H2 ∧ ∃ Nx : Hp → Prop, (∀ H', Nx H' → ∃ k', k' < k ∧ W (j + 1) k' H') ∧
    ∀ x H', J.yld j H2 x H' → g x (wipe σ vs) H' fun σ2 H3 => wipe σ2 vs = wipe (wipe σ vs) vs ∧ tt σ2 H3 fun b H4 => if b = true then
      wi1 σ2 H4 fun J1 H5 => ∃ W1 : Nat → Nat → Hp → Prop, (∃ m, W1 0 m H5) ∧ ∀ j1 k1 H6, W1 j1 k1 H6 → (J1.stop j1 H6 ∧ Nx H6) ∨ (J1.go j1 H6 ∧ ∃ Nx1 : Hp → Prop, (∀ H', Nx1 H' → ∃ k', k' < k1 ∧ W1 (j1 + 1) k' H') ∧
        ∀ x H', J1.yld j1 H6 x H' → g1 x (wipe σ2 vs1) H' fun σ3 H7 => wipe σ3 vs1 = wipe (wipe σ2 vs1) vs1 ∧ tt1 σ3 H7 fun b H8 => if b = true then
          te σ3 H8 fun y H9 => ∃ (i : Int) (S : Int → Bool) (n : Nat), y = .int i ∧ H9 D = some (SetO w D S n) ∧ n + 1 < scanBound ∧ Nx1 (upd H9 D (SetO w D (fun l => S l || decide (l = i)) (if S i = true then n else n + 1))) else Nx1 H8)
      else Nx H4)
theorem sc2_in {X : Cx} {σ : L2.St} {elt tg iter tg1 iter1 : Expr} {ifs ifs1 : List Expr} {scope : Scope} {vs1 : List Nat} {pos : Pos} {wi1 : TI} {g1 : TG} {tt1 : TT} {te : TE} {D : Addr} {pins : List (Addr × Obj)} {s : Shared} {H : Hp} {Nx : Hp → Prop} {G : Shared → Prop}
    (hc : X.calm = true) (hx : X.xe = Nay) (pi1 : PI X tg1 iter1 wi1) (pg1 : PG X tg1 g1) (pt1 : PTs X ifs1 tt1) (pe : PE X elt te) (I : Inv X pins σ H s)
    (h : wi1 σ H fun J1 H5 => ∃ W1 : Nat → Nat → Hp → Prop, (∃ m, W1 0 m H5) ∧ ∀ j1 k1 H6, W1 j1 k1 H6 → (J1.stop j1 H6 ∧ Nx H6) ∨ (J1.go j1 H6 ∧ ∃ Nx1 : Hp → Prop, (∀ H', Nx1 H' → ∃ k', k' < k1 ∧ W1 (j1 + 1) k' H') ∧
        ∀ x H', J1.yld j1 H6 x H' → g1 x (wipe σ vs1) H' fun σ3 H7 => wipe σ3 vs1 = wipe (wipe σ vs1) vs1 ∧ tt1 σ3 H7 fun b H8 => if b = true then
          te σ3 H8 fun y H9 => ∃ (i : Int) (S : Int → Bool) (n : Nat), y = .int i ∧ H9 D = some (SetO X.w D S n) ∧ n + 1 < scanBound ∧ Nx1 (upd H9 D (SetO X.w D (fun l => S l || decide (l = i)) (if S i = true then n else n + 1))) else Nx1 H8))
    (back : ∀ s3 H3, Inv X pins (wipe σ vs1) H3 s3 → Nx H3 → G s3) :
    wpAny (model X.prog X.w) X.A (eval iter1 X.env) (fun z s5 => wpAny (model X.prog X.w) X.A (pyIter z) (fun j s6 => codeAny (model X.prog X.w) X.A (.compStart (sc2 elt tg iter tg1 iter1 ifs ifs1 scope pos) 1 j (.ref D) X.env) (Inner G) s6) Nay s5) Nay s := by
  have ri := pi1.run pins s σ H _ I h
  rw [hx] at ri
  refine nay ri fun z s1 q1 => nay q1 fun j s2 ⟨it, fp, tn, J, H2, ej, I2, T, st2, f2, W1, ⟨m, w1⟩, step⟩ => ?_
  subst ej
  have hf : ∀ {σ' H' s'}, Inv X pins σ' H' s' → (∀ b ∈ fp, H' b = none) → ∀ b ∈ fp, FpOk X pins H' b := fun _ hn b hb => ⟨hn b hb, (f2 b hb).2⟩
  have go : codeAny (model X.prog X.w) X.A (.compLoop (sc2 elt tg iter tg1 iter1 ifs ifs1 scope pos) 1 (.ref it) (.ref D) X.env) (Inner G) s2 := by
    refine loopS_in (Stands X pins (wipe σ vs1) fp tn W1) (fun k s3 h3 => ?_) m ⟨0, H2, I2.weak (wipe_length _ _) (fun j v e => (wipe_some e).1), st2, fun b hb => (f2 b hb).1, w1⟩
    refine nay (one_turn (vs := vs1) hc hx T pg1 pt1 hf step h3) fun r s4 q4 => ?_
    cases r with
    | none =>
      obtain ⟨H4, I4, q⟩ := q4
      exact back _ _ I4 q
    | some v =>
      refine nay q4 fun _ s5 q5 => nay q5 fun _ s6 q6 => nay q6 fun b s7 ⟨ps, σ7, H7, Nx1, I7, hw, q7, fin⟩ => ?_
      have ks : KeepSl (wipe σ vs1) σ7 := ⟨(wipe_length (wipe σ vs1) vs1).symm.trans ((congrArg List.length hw.symm).trans (wipe_length σ7 vs1)), fun l v e => by
        have e2 : (wipe (wipe σ vs1) vs1)[l]? = some (some v) := by
          rw [wipe_wipe]
          exact e
        rw [← hw] at e2
        exact (wipe_some e2).1⟩
      cases b with
      | false => exact fin σ7 _ _ I7 ks q7
      | true =>
        have re := pe.run _ s7 σ7 H7 _ I7 q7
        rw [hx] at re
        refine nay re fun y s8 ⟨yv, H8, I8, r8, i, S, n, ey, hD, room, nx⟩ => ?_
        subst ey
        have rs := mt_sadd _ s8 σ7 H8 (.ref D) [.int i] (.ref D) [y] (fun _ H' => Nx1 H') I8 rfl (.cons r8 .nil) ⟨D, i, S, n, rfl, rfl, hD, room, nx⟩
        rw [hx] at rs
        refine nay rs fun _ s9 ⟨_, H9, I9, _, q9⟩ => ?_
        exact fin σ7 _ _ I9 ks q9
  exact startS_in go (T.self X.A 0 _ _ _ st2 go)
theorem sc2_ok {X : Cx} {pins : List (Addr × Obj)} {s : Shared} {σ : L2.St} {H : Hp} {Q : VK} {elt tg iter tg1 iter1 : Expr} {ifs ifs1 : List Expr} {scope : Scope} {own : List (Str × Nat)} {vs1 : List Nat} {pos pos' : Pos} {wi wi1 : TI} {g g1 : TG} {tt tt1 : TT} {te : TE} {use : Option (Value → Sem Unit)} {Qf : Value → Shared → Prop}
    (hc : X.calm = true) (nd : X.N.Nodup) (I : Inv X pins σ H s) (pi0 : PI X tg iter wi) (bo : BlkOk X.N X.env.scope scope own) (hv : ∀ i ∈ vs1, i ∈ own.map (·.2)) (fs : ∀ z, foldedSetIterable iter X.env z = pure z) (fs1 : ∀ env z, foldedSetIterable iter1 env z = pure z)
    (blk : ∀ (s0 : Shared) (H0 : Hp) (C : Addr) (cl : List (Str × Addr)) (fp : List Addr), PG (X.blk s0 H0 scope (compEnvC scope cl C X.env) fp) tg g ∧ PTs (X.blk s0 H0 scope (compEnvC scope cl C X.env) fp) ifs tt ∧ PI (X.blk s0 H0 scope (compEnvC scope cl C X.env) fp) tg1 iter1 wi1 ∧
      PG (X.blk s0 H0 scope (compEnvC scope cl C X.env) fp) tg1 g1 ∧ PTs (X.blk s0 H0 scope (compEnvC scope cl C X.env) fp) ifs1 tt1 ∧ PE (X.blk s0 H0 scope (compEnvC scope cl C X.env) fp) elt te)
    (h : tSc2 X.w wi g tt wi1 g1 tt1 te (own.map (·.2)) vs1 σ H Q)
    (done : ∀ D C s' m H', Inv X pins σ H' s' → Q (.ref D) H' → s'.heap.Ns C m → FpOk X pins H' C → compPost (model X.prog X.w) X.A X.xe use Qf (.ref D) C (.ok .next) s') :
    wpAny (model X.prog X.w) X.A (comprehension (sc2 elt tg iter tg1 iter1 ifs ifs1 scope pos) scope X.env pos' (newSet (.type "set")) false (eval iter X.env) use) Qf X.xe s := by
  have caught : ∀ y ∈ scope.names, y.2 = .free → ∃ c, X.env.cells.lookup y.1 = some c := fun y hy e => (bo.free y hy e).elim (fun k => I.ok.has _ (.inl k)) fun k => I.ok.has _ (.inr k)
  refine wpAny_comprehension_free (use := use) rfl fs (closure_ok caught) bo.kind (fun y hy e => by rw [bo.uniq y hy, e]) (thn (pi0.run pins s σ H _ I h) fun z s1 q1 => thn q1 fun j s2 q2 => ?_)
  obtain ⟨it, fp, tn, J, H2, ej, I2, T, st2, f2, q⟩ := q2
  subst ej
  refine wpAny_newSet_raw fun led hl => newEnv_comp ?_
  subst hl
  generalize eD : s2.heap.objs.size = D
  have freeD : H2 D = none := I2.hok.fresh (Nat.le_of_eq eD)
  obtain ⟨W, ⟨m, w0⟩, turn⟩ := q D freeD
  generalize eH : upd H2 D (SetO X.w D (fun _ => false) 0) = H3 at w0
  generalize es3 : ({ s2 with heap := s2.heap.push { cls := .type "set", dict := none, data := .set #[] 0 (.fresh 0 0 (!X.w.params.followText "set-order")) } } : Shared) = s3
  have h3 : s3.heap = s2.heap.push { cls := .type "set", dict := none, data := .set #[] 0 (.fresh 0 0 (!X.w.params.followText "set-order")) } := by rw [← es3]
  have I3 : Inv X pins σ H3 s3 := by
    rw [← es3, ← eH]
    refine I2.laid (t' := s2.toks) (fun b o e => Heap.get?_push_of_some _ e) (Nat.le_of_eq eD) (setO_new ?_)
    rw [← eD]
    exact setR_fresh X.w
  have f3 : ∀ b ∈ fp, FpOk X pins H3 b ∧ b < s3.heap.objs.size := fun b hb => by
    obtain ⟨o, e, _⟩ := T.obj _ _ st2 b hb
    have lt := Heap.lt_size e
    refine ⟨⟨?_, (f2 b hb).2⟩, by rw [h3, Heap.size_push]; exact Nat.lt_succ_of_lt lt⟩
    rw [← eH, upd_ne (by rw [← eD]; exact Nat.ne_of_lt lt)]
    exact (f2 b hb).1
  have I4 := block_start I3 bo nd f3
  obtain ⟨pg, pt, pi1, pg1, pt1, pe⟩ := blk s3 H3 s3.heap.objs.size (cellsFrom (s3.heap.objs.size + 1) scope.names (cloFrom X.env.cells scope.names [])) fp
  show codeAny _ _ (.compStart (sc2 elt tg iter tg1 iter1 ifs ifs1 scope pos) 0 (.ref it) (.ref D) (compEnvC scope (cellsFrom (s3.heap.objs.size + 1) scope.names (cloFrom X.env.cells scope.names [])) s3.heap.objs.size X.env)) (compPost (model X.prog X.w) X.A X.xe use Qf (.ref D) s3.heap.objs.size) { s3 with heap := pushCells (s3.heap.push { cls := .type "dict", data := .dict #[] }) scope.names }
  generalize ec : compEnvC scope (cellsFrom (s3.heap.objs.size + 1) scope.names (cloFrom X.env.cells scope.names [])) s3.heap.objs.size X.env = ce at I4 pg pt pe pi1 pg1 pt1 ⊢
  have atL : ce.locals = s3.heap.objs.size := by
    rw [← ec]
    rfl
  generalize es4 : ({ s3 with heap := pushCells (s3.heap.push { cls := .type "dict", data := .dict #[] }) scope.names } : Shared) = s4 at I4 ⊢
  have st4 : tn 0 s4.heap := T.keep _ _ _ st2 fun b _ o e => by
    rw [← es4]
    exact pushCells_keeps _ _ _ _ (Heap.get?_push_of_some _ (by rw [h3]; exact Heap.get?_push_of_some _ e))
  have hf : ∀ {σ' H' s'}, Inv (X.blk s3 H3 scope ce fp) [] σ' H' s' → (∀ b ∈ fp, H' b = none) → ∀ b ∈ fp, FpOk (X.blk s3 H3 scope ce fp) [] H' b := fun I' hn b hb =>
    ⟨hn b hb, (I'.ok.exf b hb).1, I'.ok.exfs b hb, .inl hb, fun x c e => (I'.ok.exf b hb).2 x c e, fun p hp => absurd (show p ∈ ([] : List (Addr × Obj)) ++ [] from hp) (by simp)⟩
  have go : codeAny (model X.prog X.w) X.A (.compLoop (sc2 elt tg iter tg1 iter1 ifs ifs1 scope pos) 0 (.ref it) (.ref D) ce) (compPost (model X.prog X.w) X.A X.xe use Qf (.ref D) s3.heap.objs.size) s4 := by
    refine loopS_out (fs1 ce) (Stands (X.blk s3 H3 scope ce fp) [] (wipe σ (own.map (·.2))) fp tn W) (fun k s5 h5 => ?_) m ⟨0, H3, I4, st4, fun b hb => (f3 b hb).1.1, w0⟩
    refine nay (one_turn (X := X.blk s3 H3 scope ce fp) (vs := own.map (·.2)) hc rfl T pg pt hf turn h5) fun r s6 q6 => ?_
    cases r with
    | none =>
      obtain ⟨H6, I6, qq⟩ := q6
      have I7 : Inv X pins σ H6 s6 := I3.call' (ch := fp) I6.os I6.base I6.hok I6.bare fun b hb => ⟨(f3 b hb).1.2.2.2.1, (f3 b hb).1.2.1, (f3 b hb).1.2.2.2.2.1, (f3 b hb).1.2.2.2.2.2⟩
      have fr : H6 ce.locals = none := I6.free
      obtain ⟨l, ns, _⟩ := I6.loc
      have ns : s6.heap.Ns ce.locals l := ns
      rw [atL] at fr ns
      exact done D s3.heap.objs.size s6 l H6 I7 qq ns (I3.fpOk (Nat.le_refl _) fr)
    | some v =>
      refine nay q6 fun _ s7 q7 => nay q7 fun _ s8 q8 => nay q8 fun b s9 ⟨ps, σ9, H9, Nx, I9, hw, q9, fin⟩ => ?_
      have l9 : (wipe σ (own.map (·.2))).length = σ9.length := (wipe_length (wipe σ (own.map (·.2))) (own.map (·.2))).symm.trans ((congrArg List.length hw.symm).trans (wipe_length σ9 (own.map (·.2))))
      have k9 : ∀ (i : Nat) (v : V), (wipe σ (own.map (·.2)))[i]? = some (some v) → σ9[i]? = some (some v) ∧ i ∉ own.map (·.2) := fun i v e => by
        have e2 : (wipe (wipe σ (own.map (·.2))) (own.map (·.2)))[i]? = some (some v) := by
          rw [wipe_wipe]
          exact e
        rw [← hw] at e2
        exact wipe_some e2
      cases b with
      | false => exact fin σ9 _ _ I9 ⟨l9, fun i v e => (k9 i v e).1⟩ q9
      | true =>
        refine sc2_in (X := X.blk s3 H3 scope ce fp) hc rfl pi1 pg1 pt1 pe I9 q9 fun s' H' I' nx => fin (wipe σ9 vs1) _ _ I' ⟨l9.trans (wipe_length σ9 vs1).symm, fun i v e => ?_⟩ nx
        obtain ⟨e1, e2⟩ := k9 i v e
        rw [wipe_out fun z => e2 (hv i z)]
        exact e1
  exact codeAny_compStart_set go (T.self X.A 0 _ _ _ st4 go)
theorem pe_sc2 {X : Cx} {elt tg iter tg1 iter1 : Expr} {ifs ifs1 : List Expr} {scope : Scope} {own : List (Str × Nat)} {vs1 : List Nat} {pos : Pos} {wi wi1 : TI} {g g1 : TG} {tt tt1 : TT} {te : TE}
    (hc : X.calm = true) (nd : X.N.Nodup) (pi0 : PI X tg iter wi) (bo : BlkOk X.N X.env.scope scope own) (hv : ∀ i ∈ vs1, i ∈ own.map (·.2))
    (blk : ∀ (s0 : Shared) (H0 : Hp) (C : Addr) (cl : List (Str × Addr)) (fp : List Addr), PG (X.blk s0 H0 scope (compEnvC scope cl C X.env) fp) tg g ∧ PTs (X.blk s0 H0 scope (compEnvC scope cl C X.env) fp) ifs tt ∧ PI (X.blk s0 H0 scope (compEnvC scope cl C X.env) fp) tg1 iter1 wi1 ∧
      PG (X.blk s0 H0 scope (compEnvC scope cl C X.env) fp) tg1 g1 ∧ PTs (X.blk s0 H0 scope (compEnvC scope cl C X.env) fp) ifs1 tt1 ∧ PE (X.blk s0 H0 scope (compEnvC scope cl C X.env) fp) elt te)
    (fs : ∀ z, foldedSetIterable iter X.env z = pure z := by intro _; rfl) (fs1 : ∀ env z, foldedSetIterable iter1 env z = pure z := by intro _ _; rfl) :
    PE X (sc2 elt tg iter tg1 iter1 ifs ifs1 scope pos) (tSc2 X.w wi g tt wi1 g1 tt1 te (own.map (·.2)) vs1) := ⟨fun pins s σ H Q I h => by
  rw [arm_eval_SetComp]
  refine sc2_ok hc nd I pi0 bo hv fs fs1 blk h fun D C s' l H' I' q ns f => ⟨l, ns, fun h2 sb => ?_⟩
  obtain ⟨f0, f1, _, f3, f4, f5⟩ := f
  exact ⟨.ref D, H', I'.turned (t' := s'.toks) (fun b o hb e => (sb.2 b hb).trans e) f0 f1 f3 f4 f5, rfl, q⟩⟩
end Zm


set_option Elab.async false
set_option linter.all false
set_option maxRecDepth 100000
set_option maxHeartbeats 4000000
set_option autoImplicit false
namespace Zm
open PySem PySem.Spec L2

theorem nd_len : ∀ (l l2 : List Int), l.Nodup → (∀ x ∈ l, x ∈ l2) → l.length ≤ l2.length
  | [], _, _, _ => Nat.zero_le _
  | a :: l, l2, h, g => by
    rw [List.nodup_cons] at h
    have ha := g a (List.mem_cons_self ..)
    have ih := nd_len l (l2.erase a) h.2 fun x hx => by
      have ne : x ≠ a := fun e => h.1 (by rw [← e]; exact hx)
      exact (List.mem_erase_of_ne ne).mpr (g x (List.mem_cons_of_mem _ hx))
    have e := List.length_erase_of_mem ha
    have := List.length_pos_of_mem ha
    rw [List.length_cons]
    omega
theorem lt_eq {l l2 : List Int} (h : l.Pairwise (· < ·)) (h2 : l2.Pairwise (· < ·)) (e : ∀ x, x ∈ l ↔ x ∈ l2) : l = l2 := by
  have nd : ∀ {l : List Int}, l.Pairwise (· < ·) → l.Nodup := fun h => h.imp fun h e => by omega
  have le : ∀ {l : List Int}, l.Pairwise (· < ·) → l.Pairwise (· ≤ ·) := fun h => h.imp fun h => by omega
  exact perm_le_eq ((List.perm_ext_iff_of_nodup (nd h) (nd h2)).mpr e) (le h) (le h2)
/-- the set of ints at D has the members that M tells -/
def HasS (w : World) (H : Hp) (D : Addr) (M : Int → Prop) : Prop := ∃ (S : Int → Bool) (n : Nat) (seen : List Int), H D = some (SetO w D S n) ∧ (∀ x, S x = true ↔ x ∈ seen) ∧ seen.Nodup ∧ seen.length = n ∧ ∀ x, x ∈ seen ↔ M x
theorem HasS.iff {w : World} {H : Hp} {D : Addr} {M M' : Int → Prop} (h : HasS w H D M) (e : ∀ x, M x ↔ M' x) : HasS w H D M' := by
  obtain ⟨S, n, seen, h1, h2, h3, h4, h5⟩ := h
  exact ⟨S, n, seen, h1, h2, h3, h4, fun x => (h5 x).trans (e x)⟩
theorem HasS.same {w : World} {H H' : Hp} {D : Addr} {M : Int → Prop} (h : HasS w H D M) (s : Same H H') : HasS w H' D M := by
  obtain ⟨S, n, seen, h1, h2, h3, h4, h5⟩ := h
  exact ⟨S, n, seen, s _ _ h1, h2, h3, h4, h5⟩
section
variable {K : PySem.W.Frag} {C : Addr} {w : World} {δ : Dl} {te : TE} {tt : TT} {wi wi1 : TI} {g g1 : TG} {vs vs1 : List Nat}
theorem en_sortedS2 {α : Type} {as : List α} {g0 : α → D} {p : α → Bool} {δi : α → Dl} {bs : α → List Int} {δj : α → Int → Dl} {ns : List Int} (hI : EvI K C wi δ (as.map g0)) (hG : ∀ a ∈ as, EvG K C g vs (wipeD δ vs) (g0 a) (δi a)) (hT : ∀ a ∈ as, EvT K C tt (δi a) (p a))
    (hI1 : ∀ a ∈ as, p a = true → EvI K C wi1 (δi a) (dI (bs a))) (hG1 : ∀ a ∈ as, p a = true → ∀ i ∈ bs a, EvG K C g1 vs1 (wipeD (δi a) vs1) (.int i) (δj a i)) (hE : ∀ a ∈ as, p a = true → ∀ i ∈ bs a, EvD K C te (δj a i) (.int i))
    (hm : ∀ k, k ∈ ns ↔ ∃ a ∈ as, p a = true ∧ k ∈ bs a) (hs : ns.Pairwise (· < ·)) (hl : ns.length < 64) :
    EvN K C (tCB (rSortedSet w) (tCons (tSc2 w wi g tt wi1 g1 tYes te vs vs1) tNil)) δ (.lst (dI ns)) := fun O σ H n Q q => by
  show wi σ H _
  refine hI O σ H n _ fun J H1 s1 wk D hD => ?_
  have n1 := n.same s1
  have o1 : OIn (addO O D) (upd H1 D (SetO w D (fun _ => false) 0)) := (n1.add (o := SetO w D (fun _ => false) 0) hD).own
  have key : ∀ H2, Same H1 H2 → Same (hid O H1) (hid (addO O D) H2) := fun H2 s => (add_fresh hD).trans (same_hid s)
  have wl : (as.map g0).length = as.length := List.length_map _
  -- what may be in the set
  have cap : ∀ {M : Int → Prop} {H2}, HasS w H2 D M → (∀ x, M x → x ∈ ns) → ∃ (S : Int → Bool) (k : Nat) (seen : List Int), H2 D = some (SetO w D S k) ∧ k < 64 ∧ (∀ x, S x = true ↔ x ∈ seen) ∧ seen.Nodup ∧ seen.length = k ∧ ∀ x, x ∈ seen ↔ M x := fun h hM => by
    obtain ⟨S, k, seen, h1, h2, h3, h4, h5⟩ := h
    refine ⟨S, k, seen, h1, ?_, h2, h3, h4, h5⟩
    rw [← h4]
    exact Nat.lt_of_le_of_lt (nd_len seen ns h3 fun x hx => hM x ((h5 x).mp hx)) hl
  refine ⟨fun j k H2 => k = as.length - j ∧ j ≤ as.length ∧ Same H1 H2 ∧ HasS w H2 D fun x => ∃ a ∈ as.take j, p a = true ∧ x ∈ bs a, ⟨as.length, by omega, Nat.zero_le _, same_new hD, ?_⟩, ?_⟩
  · exact ⟨_, 0, [], upd_same, fun x => by simp, List.nodup_nil, rfl, fun x => by simp⟩
  rintro j k H2 ⟨rfl, hj, s2, st⟩
  have o2 : OIn (addO O D) H2 := (n1.own.same s2).add (by obtain ⟨S, k, seen, h1, _⟩ := st; exact ⟨_, h1, trivial⟩)
  by_cases hlt : j < as.length
  · have hia : as[j]? = some as[j] := by simp [hlt]
    have mem : as[j] ∈ as := List.getElem_mem hlt
    have tk : as.take (j + 1) = as.take j ++ [as[j]] := List.take_succ_eq_append_getElem hlt
    refine .inr ⟨wk.go _ j H2 (key H2 s2) o2 (by rw [wl]; exact hlt), fun H3 => j + 1 ≤ as.length ∧ Same H1 H3 ∧ HasS w H3 D fun x => ∃ a ∈ as.take (j + 1), p a = true ∧ x ∈ bs a, fun H' hN => ⟨_, by omega, rfl, hN⟩, fun x H3 y => ?_⟩
    obtain ⟨s3, d3⟩ := wk.yld _ j H2 x H3 (g0 as[j]) (key H2 s2) o2 (by rw [List.getElem?_map, hia]; rfl) y
    have s13 := s2.trans s3
    have n3 : At K C (addO O D) H3 (L2.wipe σ vs) (wipeD δ vs) := ⟨o2.same s3, (n1.env.same (key H3 s13)).wipe vs⟩
    refine hG _ mem _ _ _ _ n3 d3 _ fun σ4 hw n4 => ⟨by rw [hw], hT _ mem _ _ _ n4 _ fun H5 s5 => ?_⟩
    cases hp : p as[j] with
    | false =>
      refine iteF ⟨hlt, s13.trans s5, (st.same (s3.trans s5)).iff fun x => ?_⟩
      rw [tk]
      simp only [List.mem_append, List.mem_singleton]
      constructor
      · rintro ⟨a, h1, h2⟩
        exact ⟨a, .inl h1, h2⟩
      · rintro ⟨a, h1 | h1, h2, h3⟩
        · exact ⟨a, h1, h2, h3⟩
        · rw [h1, hp] at h2
          cases h2
    | true =>
      refine iteT (hI1 _ mem hp _ _ _ (n4.same s5) _ fun J1 H6 s6 wk1 => ?_)
      have n6 := n4.same (s5.trans s6)
      have wl1 : (dI (bs as[j])).length = (bs as[j]).length := List.length_map _
      refine ⟨fun i l H7 => l = (bs as[j]).length - i ∧ i ≤ (bs as[j]).length ∧ Same H1 H7 ∧ Same (hid (addO O D) H6) (hid (addO O D) H7) ∧ HasS w H7 D (fun x => (∃ a ∈ as.take j, p a = true ∧ x ∈ bs a) ∨ x ∈ (bs as[j]).take i),
        ⟨(bs as[j]).length, by omega, Nat.zero_le _, (s13.trans s5).trans s6, Same.refl _, (st.same ((s3.trans s5).trans s6)).iff fun x => by simp⟩, ?_⟩
      rintro i l H7 ⟨rfl, hi, s7, s67, st7⟩
      have o7 : OIn (addO O D) H7 := (n1.own.same s7).add (by obtain ⟨S, k, seen, h1, _⟩ := st7; exact ⟨_, h1, trivial⟩)
      by_cases hlt1 : i < (bs as[j]).length
      · have hib : (bs as[j])[i]? = some (bs as[j])[i] := by simp [hlt1]
        have memb : (bs as[j])[i] ∈ bs as[j] := List.getElem_mem hlt1
        have tk1 : (bs as[j]).take (i + 1) = (bs as[j]).take i ++ [(bs as[j])[i]] := List.take_succ_eq_append_getElem hlt1
        refine .inr ⟨wk1.go _ i H7 s67 o7 (by rw [wl1]; exact hlt1), fun H8 => i + 1 ≤ (bs as[j]).length ∧ Same H1 H8 ∧ Same (hid (addO O D) H6) (hid (addO O D) H8) ∧ HasS w H8 D (fun x => (∃ a ∈ as.take j, p a = true ∧ x ∈ bs a) ∨ x ∈ (bs as[j]).take (i + 1)), fun H' hN => ⟨_, by omega, rfl, hN⟩, fun x H8 y => ?_⟩
        obtain ⟨s8, d8⟩ := wk1.yld _ i H7 x H8 (.int (bs as[j])[i]) s67 o7 (by unfold dI; rw [List.getElem?_map, hib]; rfl) y
        have n8 : At K C (addO O D) H8 (L2.wipe σ4 vs1) (wipeD (δi as[j]) vs1) := ⟨o7.same s8, (n6.env.same (s67.trans (same_hid s8))).wipe vs1⟩
        refine hG1 _ mem hp _ memb _ _ _ _ n8 d8 _ fun σ9 hw9 n9 => ⟨by rw [hw9], ?_⟩
        unfold tYes
        refine iteT (hE _ mem hp _ memb _ _ _ n9 _ fun v H9 s9 d9 => ?_)
        obtain ⟨S, m, seen, h1, h2, h3, h4, h5, h6⟩ := cap (st7.same (s8.trans s9)) fun x hx => (hm x).mpr (by
          rcases hx with ⟨a, ha, hb⟩ | hx
          · exact ⟨a, List.mem_of_mem_take ha, hb⟩
          · exact ⟨_, mem, hp, List.mem_of_mem_take hx⟩)
        refine ⟨_, S, m, dat_int.mp d9, h1, Nat.lt_of_lt_of_le (Nat.succ_lt_succ h2) (by decide), hlt1, same_mut ((s7.trans s8).trans s9) hD, ?_, ?_⟩
        · rw [add_upd]
          exact s67.trans (same_hid (s8.trans s9))
        · by_cases hS : S (bs as[j])[i] = true
          · refine ⟨_, _, seen, upd_same, fun x => ?_, h4, by rw [if_pos hS]; exact h5, fun x => ?_⟩
            · rw [Bool.or_eq_true, decide_eq_true_eq, h3]
              exact ⟨fun h => h.elim id fun e => by rw [e]; exact (h3 _).mp hS, .inl⟩
            · rw [h6, tk1]
              show _ ↔ (_ ∨ x ∈ (bs as[j]).take i ++ [(bs as[j])[i]])
              rw [List.mem_append, List.mem_singleton]
              have := (h6 _).mp ((h3 _).mp hS)
              exact ⟨fun h => h.elim .inl fun h => .inr (.inl h), fun h => h.elim .inl fun h => h.elim .inr fun e => by rw [e]; exact this⟩
          · refine ⟨_, _, seen ++ [(bs as[j])[i]], upd_same, fun x => ?_, ?_, by rw [if_neg hS, List.length_append, h5]; rfl, fun x => ?_⟩
            · rw [Bool.or_eq_true, decide_eq_true_eq, h3, List.mem_append, List.mem_singleton]
            · refine List.nodup_append.mpr ⟨h4, by simp, fun a ha b hb e => ?_⟩
              rw [List.mem_singleton.mp hb] at e
              exact hS ((h3 _).mpr (by rw [← e]; exact ha))
            · rw [List.mem_append, List.mem_singleton, h6, tk1]
              show _ ↔ (_ ∨ x ∈ (bs as[j]).take i ++ [(bs as[j])[i]])
              rw [List.mem_append, List.mem_singleton]
              exact or_assoc
      · have e : i = (bs as[j]).length := by omega
        subst e
        refine .inl ⟨by rw [← wl1]; exact wk1.stop _ H7 s67 o7, hlt, s7, st7.iff fun x => ?_⟩
        rw [List.take_length, tk]
        simp only [List.mem_append, List.mem_singleton]
        constructor
        · rintro (⟨a, h1, h2⟩ | h)
          · exact ⟨a, .inl h1, h2⟩
          · exact ⟨_, .inr rfl, hp, h⟩
        · rintro ⟨a, h1 | h1, h2, h3⟩
          · exact .inl ⟨a, h1, h2, h3⟩
          · rw [h1] at h3
            exact .inr h3
  · have e : j = as.length := by omega
    subst e
    refine .inl ⟨by rw [← wl]; exact wk.stop _ H2 (key H2 s2) o2, ?_⟩
    rw [List.take_length] at st
    obtain ⟨S, m, seen, h1, h2, h3, h4, h5, h6⟩ := cap st fun x hx => (hm x).mpr hx
    refine ⟨D, S, m, rfl, h1, h2, fun ns' l k1 k2 k3 fr => ?_⟩
    have e : ns' = ns := lt_eq k1 hs fun x => by rw [k2, h3, h6, hm]
    subst e
    have o : OIn O H2 := n1.own.same s2
    exact q l _ ((s1.trans s2).trans (same_new fr)) (back_none (s1.trans s2) fr) (new_lst o fr (dats_ints.mpr rfl))
end
section
variable {X : Cx} {e : Expr} {es : List Expr} {t : TA} {p pos : Pos}
theorem c_sortedS {K : PySem.W.Frag} (b : BFree X.mg) (ha : PA X (e :: es) t) (hg : Gl X "sorted" := by rfl) (hc : X.calm = true := by rfl) (hK : X.K = K := by rfl)
    (he : starEach (e :: es) X.env = (false, eval e X.env) :: starEach es X.env := by rfl) (hpl : (backTo pos (starEach es X.env)).any (·.1) = false := by rfl) :
    PE X (.Call (.Name "sorted" p) (e :: es) [] pos) (tCB (rSortedSet X.w) t) := by
  subst hK
  exact pe_callB (cr_sortedSet hc) hg (b _ (by decide)) (by decide +kernel) ha (he := he) (hpl := hpl)
end
end Zm


set_option Elab.async false
set_option linter.all false
set_option maxRecDepth 100000
set_option maxHeartbeats 4000000
set_option autoImplicit false
namespace Zm
open PySem PySem.Spec L2

/-! ### == and != by an own __eq__ -/
section
open PySem.W
variable {prog : Program} {w : World} {A : Around} {E : Value → Shared → Prop} {s : Shared} {K : Frag} {x C L f : Addr} {h0 : Heap} {m : Str → Option Value} {ox : Obj} {od : Option Obj} {name : Str} {id B : String} {b tb : Value}
theorem bound_B {args : List Value} {Q : Option Value → Shared → Prop} (X : K.In s.heap) (J : InstAt s.heap x ox C od) (at_ : findIn K (.ref C) name = some (some (.builtin id))) (S : Slot B name id)
    (h : wpAny (model prog w) A (call (.builtin id) (.ref x :: args)) (fun v => Q (some v)) E s) : wpAny (model prog w) A (callSpecialIfBound? (.ref x) name args) Q E s := by
  simp only [callSpecialIfBound?, bindSpecialIfBound?]
  refine wpAny_holding (wpAny_bind (wpAny_bind (wpAny_bind (J.type.here ((looks_findIn X at_).here ?_)))))
  simp only [S.bind]
  refine wpAny_bind (wpAny_askSetting (wpAny_ite ?_))
  have fin : wpAny (model prog w) A (call (.builtin id) ([.ref x] ++ args) >>= fun v => pure (some v)) Q E s := wpAny_bind (wpAny_mono h (fun v s1 q => wpAny_pure q) fun _ _ q => q)
  split
  · first
      | exact wpAny_bind (wpAny_pure (wpAny_pure (by exact fin)))
      | exact wpAny_bind (wpAny_pure (by exact fin))
      | exact wpAny_pure (by exact fin)
  · first
      | exact wpAny_tryCatch (wpAny_bind (wpAny_pure (wpAny_pure (by exact fin))))
      | exact wpAny_tryCatch (wpAny_bind (wpAny_pure (by exact fin)))
theorem ne_body {fd : Value} {Q : Fin → Shared → Prop} (hu : A.units < cLine) (X : K.In s.heap) (J : InstAt s.heap x ox C od) (at_ : findIn K (.ref C) "__eq__" = some (some (.ref f))) (fn : isFn K (.ref f) = true)
    (h : wpAny (model prog w) A (call (.ref f) [.ref x, b]) (fun v s1 => ∃ r, v = .bool r ∧ Q (.done (.ret (.bool (!r)))) s1) E s) : wpAny (model prog w) A (Builtin.«object.__ne__» ⟨[.ref x, b], []⟩) Q E s := by
  unfold Builtin.«object.__ne__»
  repeat (first
    | with_reducible refine wpAny_cRoomFor hu ?_
    | (refine wpAny_bind (m := callSpecialIfBound? (.ref x) (Str.ofString "__eq__") [b])
        (ifBound_K X J at_ fn (wpAny_mono h (fun v s1 q => by
          obtain ⟨r, rfl, q⟩ := q
          repeat (first | exact q | exact wpAny_pure q | exact wpAny_truthy_bool q | (refine wpAny_bind (m := truthy (.bool _)) (wpAny_truthy_bool ?_)) | wp_step)) fun _ _ e => e)))
    | wp_step)
theorem ne_own {Q : Value → Shared → Prop} (hu : A.units + 1 < cLine) (X : K.In s.heap) (J : InstAt s.heap x ox C od) (hb : Looks (model prog w) s.heap (typeOf b) tb) (nf : notFirst K C tb = true)
    (ne : findIn K (.ref C) "__ne__" = some (some (.builtin "object.__ne__"))) (ob : mroIn K C (.type "object") = some true) (at_ : findIn K (.ref C) "__eq__" = some (some (.ref f))) (fn : isFn K (.ref f) = true)
    (h : wpAny (model prog w) A.in1 (call (.ref f) [.ref x, b]) (fun v s1 => ∃ r, v = .bool r ∧ Q (.bool (!r)) s1) E s) : wpAny (model prog w) A (richCompare .NotEq (.ref x) b) Q E s := by
  have one : wpAny (model prog w) A (tryCompare (.ref x) "__ne__" b) (fun r s1 => ∃ v, r = some v ∧ Q v s1) E s := by
    unfold tryCompare
    refine wpAny_bind (bound_B X J ne F.cmp_object.ne (wpAny_call (codeAny_call_builtin F.cmp_object.ne.plain F.cmpEntry_ne (check_slot F.cmpKind_ne F.cmpSplit_ne ?_ (F.cmpArgs_ne _ _) (ne_body (A := A.in1) (fd := .none) hu X J at_ fn (wpAny_mono h (fun v s1 q => ?_) fun _ _ e => e))))))
    · unfold isInstance
      exact J.type.andThen (looks_mroIn X ob)
    · obtain ⟨r, rfl, q⟩ := q
      first | exact ⟨r, rfl, wpAny_pure ⟨_, rfl, q⟩⟩ | exact ⟨r, rfl, ⟨_, rfl, q⟩⟩
  unfold richCompare
  simp only [oneThing_ref]
  refine wpAny_holding (wpAny_bind (wpAny_cRoomFor (Nat.lt_of_succ_lt hu) ?_))
  refine wpAny_bind (J.type.here (wpAny_bind (hb.here ?_)))
  split
  · rename_i q
    have e : subIn K tb (.ref C) = some false := by
      rcases Bool.or_eq_true_iff.mp nf with e | e
      · rw [beq_iff_eq.mp e] at q
        simp at q
      · exact beq_iff_eq.mp e
    refine wpAny_bind ((looks_subIn X e).here ?_)
    simp only [Bool.false_eq_true, if_false]
    exact wpAny_bind (wpAny_mono one (fun r s1 z => by
      obtain ⟨v, rfl, q⟩ := z
      exact wpAny_pure q) fun _ _ e => e)
  · refine wpAny_bind (wpAny_pure ?_)
    simp only [Bool.false_eq_true, if_false]
    exact wpAny_bind (wpAny_mono one (fun r s1 z => by
      obtain ⟨v, rfl, q⟩ := z
      exact wpAny_pure q) fun _ _ e => e)
end

/-- x == y (neg: x != y), x an instance of the class at C, by its own == that promises sp -/
def rOwn (K : PySem.W.Frag) (C : Addr) (sp : Sp) (E : XK) (neg : Bool) : R2 := fun x y H Q => (∃ a dx fs, x = .ref a ∧ H a = some (.ins C dx fs)) ∧ (∃ t, TyX K H y t ∧ PySem.W.notFirst K C t = true) ∧ sp [x, y] H (fun v H' => ∃ b, v = .bl b ∧ Q (.bl (b != neg)) H') E
section
variable {X : Cx} {C : Addr} {k : Nat} {ps : List Str} {sp : Sp} {E : XK}
theorem call_own {A : Around} (f : Addr) {fd : FuncData} (F : FnOk X.prog X.w X.K X.mg X.base CX0 k f fd ps sp) (hb : Binds X.K fd ps []) (hr : Room k A) (fr : A.frames = X.A.frames) (pass : Passes CX0 X E) {pins : List (Addr × Obj)} {s : Shared} {σ : L2.St} {H : Hp} {x y : V} {u v : Value} {Q : VK}
    (I : Inv X pins σ H s) (rx : RelV x u) (ry : RelV y v) (h : sp [x, y] H Q E) : wpAny (model X.prog X.w) A (call (.ref f) [u, v]) (fun z s1 => ∃ r H', Inv X pins σ H' s1 ∧ RelV r z ∧ Q r H') X.xe s := by
  have e0 : Env0 X.prog X.w X.K X.mg X.base A X.stack s H := by
    have e := I.env0
    exact ⟨by rw [fr]; exact e.frames, e.mod, e.bs, e.bsz, e.funs, e.frf, e.hok, e.bare⟩
  have hl := F.len _ _ _ _ h
  refine wpAny_call (codeAny_mono (F.run A X.stack s H ⟨[u, v], []⟩ [u, v] [x, y] _ E hr e0 (by
    have := hb s [u, v] I.kIn (by simpa using hl)
    simpa using this) (.cons rx (.cons ry .nil)) h) fun r s1 hq => ?_)
  cases r with
  | error e => exact pass pins σ H s e s1 I hq
  | ok fl =>
    cases fl with
    | ret z =>
      obtain ⟨r, H', I', rz, q⟩ := I.after hq
      exact ⟨r, H', I', rz, q⟩
    | next => exact False.elim hq
    | brk => exact False.elim hq
    | cont => exact False.elim hq
theorem op_own (M : MethOk X.prog X.w X.K X.mg X.base C "__eq__" k ps sp) (hr : Room k X.A) (pass : Passes CX0 X E) : OpR X (compareOp .Eq) (rOwn X.K C sp E false) := by
  intro pins s σ H x y v u Q I rx ry ⟨⟨a, dx, fs, ex, ha⟩, ⟨t, ty, nf⟩, hsp⟩
  subst ex
  cases rx
  obtain ⟨f, fd, F, me, hb⟩ := M.ex
  obtain ⟨mA, J, _⟩ := ins_get I.hok ha
  obtain ⟨od, J, _⟩ := J.look
  obtain ⟨m, fr⟩ := I.fr
  obtain ⟨P, Z, p, _⟩ := kit_of I ry ty
  show wpAny _ X.A (richCompare .Eq (.ref a) u) _ _ _
  refine PySem.W.cmp_K (op := .Eq) (tb := t) hr.units0 fr I.ok.mod.kin J (Z.ty _ _ I.kIn p) nf me.at_ me.fn (wpAny_mono (call_own f F hb hr rfl pass I (show RelV (V.ref a) (Value.ref a) from rfl) ry hsp) (fun z s1 q => ?_) fun _ _ e => e)
  obtain ⟨r, H', I', rz, b, er, q⟩ := q
  subst er
  cases (show z = Value.bool b from rz)
  refine ⟨.bl b, H', I', rfl, ?_⟩
  rw [Bool.bne_false] at q
  exact q
theorem op_ownNe (M : MethOk X.prog X.w X.K X.mg X.base C "__eq__" k ps sp) (hr : Room (k + 1) X.A) (pass : Passes CX0 X E) (ne : PySem.W.findIn X.K (.ref C) "__ne__" = some (some (.builtin "object.__ne__"))) (ob : PySem.W.mroIn X.K C (.type "object") = some true) :
    OpR X (compareOp .NotEq) (rOwn X.K C sp E true) := by
  intro pins s σ H x y v u Q I rx ry ⟨⟨a, dx, fs, ex, ha⟩, ⟨t, ty, nf⟩, hsp⟩
  subst ex
  cases rx
  obtain ⟨f, fd, F, me, hb⟩ := M.ex
  obtain ⟨mA, J, _⟩ := ins_get I.hok ha
  obtain ⟨od, J, _⟩ := J.look
  obtain ⟨P, Z, p, _⟩ := kit_of I ry ty
  show wpAny _ X.A (richCompare .NotEq (.ref a) u) _ _ _
  have hu : X.A.units + 1 < cLine := by
    have := hr.un
    omega
  refine ne_own (tb := t) hu I.kIn J (Z.ty _ _ I.kIn p) nf ne ob me.at_ me.fn (wpAny_mono (call_own f F hb hr.in1 rfl pass I (show RelV (V.ref a) (Value.ref a) from rfl) ry hsp) (fun z s1 q => ?_) fun _ _ e => e)
  obtain ⟨r, H', I', rz, b, er, q⟩ := q
  subst er
  cases (show z = Value.bool b from rz)
  refine ⟨b, rfl, .bl (!b), H', I', rfl, ?_⟩
  rw [Bool.bne_true] at q
  exact q
end
section
variable {K : PySem.W.Frag} {C : Addr}
theorem notFirst_ty {s : String} (h : s ∈ tyNames) : PySem.W.notFirst K C (.type s) = true := by
  have h' : s = "NoneType" ∨ s = "bool" ∨ s = "int" ∨ s = "str" ∨ s = "list" ∨ s = "tuple" ∨ s = "dict" := by simpa [tyNames] using h
  rcases h' with e | e | e | e | e | e | e <;> subst e <;> kernel_rfl
theorem r2_own (R : RecFacts K C) {pre : List D → Prop} {f : List D → D} {E : XK} {neg b : Bool} {m : Int} {rows : List (List Int)} {e : D} (ht : (∃ s, tyD e = some s) ∨ ∃ n rs, e = .rcp n rs) (hp : pre [.rcp m rows, e]) (hf : f [.rcp m rows, e] = .bl b) :
    R2D K C (rOwn K C (SpD K C pre f 2) E neg) (.rcp m rows) e (.bl (b != neg)) := fun O H x y o h1 h2 Q q => by
  obtain ⟨a, dx, t, xs, rfl, g1, g2, g3⟩ := dat_rcp_iff.mp h1
  refine ⟨⟨a, dx, _, rfl, hid_same _ _ g1⟩, ?_, rfl, O, [.rcp m rows, e], o, .cons h1 (.one h2), hp, fun v H' s d => ?_⟩
  · rcases ht with ⟨s, hs⟩ | ⟨n, rs, rfl⟩
    · exact ⟨.type s, ty_dat h2 hs, notFirst_ty (tyD_mem hs)⟩
    · obtain ⟨a2, dx2, t2, xs2, rfl, k1, k2, k3⟩ := dat_rcp_iff.mp h2
      refine ⟨.ref C, .base (.ins (hid_same _ _ k1) R.cl R.ha R.hn R.tk R.hm), ?_⟩
      unfold PySem.W.notFirst
      rw [beq_self_eq_true, Bool.true_or]
  · rw [hf] at d
    exact ⟨b, dat_bl.mp d, q _ H' s (dat_bl.mpr rfl)⟩
end
end Zm


set_option Elab.async false
set_option linter.all false
set_option maxRecDepth 100000
set_option maxHeartbeats 4000000
set_option autoImplicit false
namespace Zm
open PySem PySem.Spec L2

/-! ### what == says of ints, rows, lists of rows -/
/-- data that == may look at, nested at most n deep -/
def ShN (n : Nat) (d : D) : Prop := flatAll d = true ∧ (toPy d).canLay0 = true ∧ (toPy d).depth ≤ n
theorem ShN.shp {n : Nat} {d : D} (h : ShN n d) (hn : n ≤ 64) : shp d = true := by
  unfold Zm.shp SeqAt.shaped
  rw [h.1, h.2.1, decide_eq_true (Nat.le_trans h.2.2 hn)]
  rfl
theorem shN_int {n : Nat} {i : Int} : ShN n (.int i) := by
  refine ⟨rfl, ?_, ?_⟩
  · unfold toPy PyData.canLay0
    rfl
  · unfold toPy PyData.depth
    exact Nat.zero_le _
theorem shN_all {n : Nat} : ∀ {ds : List D}, (∀ d ∈ ds, ShN n d) → flatAlls ds = true ∧ PyData.canLayAll0 (toPys ds) = true ∧ PyData.depthAll (toPys ds) ≤ n
  | [], _ => by
    refine ⟨rfl, ?_, ?_⟩
    · unfold toPys PyData.canLayAll0
      rfl
    · unfold toPys PyData.depthAll
      exact Nat.zero_le _
  | d :: ds, h => by
    obtain ⟨a1, a2, a3⟩ := h d (List.mem_cons_self ..)
    obtain ⟨b1, b2, b3⟩ := shN_all fun e he => h e (List.mem_cons_of_mem _ he)
    refine ⟨?_, ?_, ?_⟩
    · unfold flatAlls
      rw [a1, b1]
      rfl
    · unfold toPys PyData.canLayAll0
      rw [a2, b2]
      rfl
    · unfold toPys PyData.depthAll
      exact Nat.max_le.mpr ⟨a3, b3⟩
theorem shN_lst {n : Nat} {ds : List D} (h : ∀ d ∈ ds, ShN n d) : ShN (n + 1) (.lst ds) := by
  obtain ⟨b1, b2, b3⟩ := shN_all h
  refine ⟨?_, ?_, ?_⟩
  · unfold flatAll
    exact b1
  · unfold toPy PyData.canLay0
    exact b2
  · unfold toPy PyData.depth
    exact Nat.succ_le_succ b3
theorem shN_tup {n : Nat} {ds : List D} (h : ∀ d ∈ ds, ShN n d) : ShN (n + 1) (.tup ds) := by
  obtain ⟨b1, b2, b3⟩ := shN_all h
  refine ⟨?_, ?_, ?_⟩
  · unfold flatAll
    exact b1
  · unfold toPy PyData.canLay0
    exact b2
  · unfold toPy PyData.depth
    exact Nat.succ_le_succ b3
theorem shN_dI {n : Nat} {ns : List Int} : ∀ d ∈ dI ns, ShN n d := fun d hd => by
  obtain ⟨i, _, rfl⟩ := List.mem_map.mp hd
  exact shN_int
theorem shp_row {ns : List Int} : shp (.lst (dI ns)) = true := (shN_lst (n := 0) shN_dI).shp (by decide)
theorem shp_rowsD {rows : List (List Int)} : shp (rowsD rows) = true := (shN_tup (n := 1) fun d hd => by
  obtain ⟨r, _, rfl⟩ := List.mem_map.mp hd
  exact shN_tup shN_dI).shp (by decide)
theorem shp_rowsL {rows : List (List Int)} : shp (rowsL rows) = true := (shN_lst (n := 1) fun d hd => by
  obtain ⟨r, _, rfl⟩ := List.mem_map.mp hd
  exact shN_lst shN_dI).shp (by decide)
theorem eqs_map {α : Type} [DecidableEq α] {f : α → D} (h : ∀ a b, eqD (f a) (f b) = decide (a = b)) : ∀ (as bs : List α), PyData.eqvAll (toPys (as.map f)) (toPys (bs.map f)) = decide (as = bs)
  | [], [] => by
    unfold List.map toPys PyData.eqvAll
    rfl
  | [], b :: bs => by
    unfold List.map toPys PyData.eqvAll
    rfl
  | a :: as, [] => by
    unfold List.map toPys PyData.eqvAll
    rfl
  | a :: as, b :: bs => by
    have e := h a b
    unfold eqD at e
    have ih := eqs_map h as bs
    rw [List.map_cons, List.map_cons]
    unfold toPys PyData.eqvAll
    rw [e, ih, Bool.eq_iff_iff, Bool.and_eq_true, decide_eq_true_eq, decide_eq_true_eq, decide_eq_true_eq, List.cons.injEq]
theorem eqD_lst {ds es : List D} : eqD (.lst ds) (.lst es) = PyData.eqvAll (toPys ds) (toPys es) := by
  unfold eqD toPy PyData.eqv
  rfl
theorem eqD_tup {ds es : List D} : eqD (.tup ds) (.tup es) = PyData.eqvAll (toPys ds) (toPys es) := by
  unfold eqD toPy PyData.eqv
  rfl
theorem eqD_row {a b : List Int} : eqD (.lst (dI a)) (.lst (dI b)) = decide (a = b) := eqD_lst.trans (eqs_map (fun _ _ => eqD_int) a b)
theorem eqD_rowT {a b : List Int} : eqD (.tup (dI a)) (.tup (dI b)) = decide (a = b) := eqD_tup.trans (eqs_map (fun _ _ => eqD_int) a b)
theorem eqD_rowsD {a b : List (List Int)} : eqD (rowsD a) (rowsD b) = decide (a = b) := eqD_tup.trans (eqs_map (f := fun r => D.tup (dI r)) (fun _ _ => eqD_rowT) a b)
theorem eqD_rowsL {a b : List (List Int)} : eqD (rowsL a) (rowsL b) = decide (a = b) := eqD_lst.trans (eqs_map (f := fun r => D.lst (dI r)) (fun _ _ => eqD_row) a b)
end Zm


set_option Elab.async false
set_option linter.all false
set_option maxRecDepth 100000
set_option maxHeartbeats 4000000
set_option autoImplicit false
namespace Zm
open PySem PySem.Spec L2

/-! ### new lists that are changed -/
/-- how a piece of text may end -/
abbrev EndP := (Addr → Bool) → Hp → Ends → Prop
def SubO (O O' : Addr → Bool) : Prop := ∀ a, O a = true → O' a = true
def EndOk (E : EndP) : Prop := ∀ O0 O H0 H Z, SubO O0 O → OIn O0 H0 → Same H0 H → E O0 H0 Z → E O H Z
section
variable (K : PySem.W.Frag) (C : Addr)
def EndX (δ' : Dl) : EndP := fun O H Z => ∀ σ' H', Same H H' → At K C O H' σ' δ' → Z.nx σ' H'
def EndR (d : D) : EndP := fun O H Z => ∀ v H', Same H H' → Dat K C (hid O H') d v → Z.rt v H'
def StE (E : EndP) (ts : TS) (δ : Dl) : Prop := ∀ O σ H, At K C O H σ δ → ∀ Z : Ends, E O H Z → ts Z σ H
/-- slot i holds d, all of it made since H0 -/
def StNw (E : EndP) (ts : TS) (δ : Dl) (i : Nat) (d : D) : Prop := ∀ O H0 σ H, OIn O H0 → Same H0 H → EnvR K C (hid O H0) σ (δ.set i none) → (∃ v, σ[i]? = some (some v) ∧ Dat K C (hid (dom H0) H) d v) → ∀ Z : Ends, E O H0 Z → ts Z σ H
abbrev WP := (Addr → Bool) → Hp → Hp → V → Prop
/-- slot i holds what W says; its lists are one's own -/
def StW (E : EndP) (ts : TS) (δ : Dl) (i : Nat) (W : WP) : Prop := ∀ O0 H0 O σ H, SubO O0 O → OIn O0 H0 → Same H0 H → At K C O H σ δ → (∃ v, σ[i]? = some (some v) ∧ W O H0 H v) → ∀ Z : Ends, E O0 H0 Z → ts Z σ H
end
mutual
def Wild (n : Nat) : D → WP
  | .lst ds, O, H0, H, v => ∃ a xs, v = .ref a ∧ O a = true ∧ H0 a = none ∧ H a = some (.lst xs) ∧ xs.length ≤ n ∧ Wilds n ds O H0 H xs
  | _, _, _, _, _ => True
def Wilds (n : Nat) : List D → (Addr → Bool) → Hp → Hp → List V → Prop
  | [], _, _, _, _ => True
  | d :: ds, O, H0, H, xs => ∃ x ys, xs = x :: ys ∧ Wild n d O H0 H x ∧ Wilds n ds O H0 H ys
end
mutual
/-- no list of it longer than n -/
def BndD (n : Nat) : D → Prop
  | .lst ds => ds.length ≤ n ∧ BndDs n ds
  | _ => True
def BndDs (n : Nat) : List D → Prop
  | [] => True
  | d :: ds => BndD n d ∧ BndDs n ds
end
section
variable {K : PySem.W.Frag} {C : Addr} {O O0 : Addr → Bool} {H0 H H' : Hp} {n : Nat}
theorem hid_sub (s : SubO O0 O) : Same (hid O H) (hid O0 H) := fun a u e => by
  unfold hid at e ⊢
  split at e
  · cases e
  · rename_i q
    rw [if_neg fun z => q (s a z)]
    exact e
theorem sub_dom (o : OIn O H) : SubO O (dom H) := fun a e => own_dom o e
/-- what was made since H0 is one's own, but for tuples -/
structure Old (O : Addr → Bool) (H0 H : Hp) : Prop where
  same : Same H0 H
  own : ∀ a o, H0 a = none → H a = some o → NoT o → O a = true
theorem dom_none {H0 H : Hp} {a : Addr} {o : HO} (s : Same H0 H) (h : hid (dom H0) H a = some o) (no : NoT o) : H0 a = none ∧ H a = some o := by
  unfold hid at h
  split at h
  · cases h
  · rename_i q
    refine ⟨?_, h⟩
    cases r : H0 a with
    | none => rfl
    | some u =>
      have h2 := s a u r
      rw [h] at h2
      rw [Option.some.inj h2] at no
      exact absurd (dom_of r no) q
theorem endX_ok {δ' : Dl} : EndOk (EndX K C δ') := fun O0 O H0 H Z s o e h σ' H' s' n => h σ' H' (e.trans s') ⟨o.same (e.trans s'), n.env.same (hid_sub s)⟩
theorem endR_ok {d : D} : EndOk (EndR K C d) := fun O0 O H0 H Z s o e h v H' s' n => h v H' (e.trans s') (n.same (hid_sub s))
mutual
theorem Wild.of (old : Old O H0 H) : ∀ {d : D} {v : V}, BndD n d → Dat K C (hid (dom H0) H) d v → Wild n d O H0 H v
  | .lst ds, v, b, h => by
    obtain ⟨a, xs, rfl, h1, h2⟩ := dat_lst_iff.mp h
    unfold BndD at b
    unfold Wild
    obtain ⟨h0, h3⟩ := dom_none old.same h1 trivial
    exact ⟨a, xs, rfl, old.own a _ h0 h3 trivial, h0, h3, by rw [h2.length]; exact b.1, Wilds.of old b.2 h2⟩
  | .non, _, _, _ => by unfold Wild; trivial
  | .bl _, _, _, _ => by unfold Wild; trivial
  | .int _, _, _, _ => by unfold Wild; trivial
  | .str _, _, _, _ => by unfold Wild; trivial
  | .tup _, _, _, _ => by unfold Wild; trivial
  | .dic _, _, _, _ => by unfold Wild; trivial
  | .rcp _ _, _, _, _ => by unfold Wild; trivial
  | .raw _, _, _, _ => by unfold Wild; trivial
  | .dtp _, _, _, _ => by unfold Wild; trivial
theorem Wilds.of (old : Old O H0 H) : ∀ {ds : List D} {xs : List V}, BndDs n ds → Dats K C (hid (dom H0) H) ds xs → Wilds n ds O H0 H xs
  | [], _, _, _ => by unfold Wilds; trivial
  | d :: ds, xs, b, h => by
    obtain ⟨x, ys, rfl, h1, h2⟩ := dats_cons.mp h
    unfold BndDs at b
    unfold Wilds
    exact ⟨x, ys, rfl, Wild.of old b.1 h1, Wilds.of old b.2 h2⟩
end
mutual
theorem Wild.same (s : Same H H') : ∀ {d : D} {v : V}, Wild n d O H0 H v → Wild n d O H0 H' v
  | .lst ds, v, h => by
    unfold Wild at h ⊢
    obtain ⟨a, xs, h1, h2, h3, h4, h5, h6⟩ := h
    exact ⟨a, xs, h1, h2, h3, s _ _ h4, h5, Wilds.same s h6⟩
  | .non, _, _ => by unfold Wild; trivial
  | .bl _, _, _ => by unfold Wild; trivial
  | .int _, _, _ => by unfold Wild; trivial
  | .str _, _, _ => by unfold Wild; trivial
  | .tup _, _, _ => by unfold Wild; trivial
  | .dic _, _, _ => by unfold Wild; trivial
  | .rcp _ _, _, _ => by unfold Wild; trivial
  | .raw _, _, _ => by unfold Wild; trivial
  | .dtp _, _, _ => by unfold Wild; trivial
theorem Wilds.same (s : Same H H') : ∀ {ds : List D} {xs : List V}, Wilds n ds O H0 H xs → Wilds n ds O H0 H' xs
  | [], _, _ => by unfold Wilds; trivial
  | d :: ds, xs, h => by
    unfold Wilds at h ⊢
    obtain ⟨x, ys, h1, h2, h3⟩ := h
    exact ⟨x, ys, h1, Wild.same s h2, Wilds.same s h3⟩
end
theorem Wilds.snoc {y : V} : ∀ {ds : List D} {xs : List V}, Wilds n ds O H0 H xs → Wilds n ds O H0 H (xs ++ [y])
  | [], _, _ => by unfold Wilds; trivial
  | d :: ds, xs, h => by
    unfold Wilds at h ⊢
    obtain ⟨x, ys, rfl, h2, h3⟩ := h
    exact ⟨x, ys ++ [y], rfl, h2, Wilds.snoc h3⟩
mutual
/-- whatever list grows -/
theorem Wild.app {b : Addr} {ys : List V} {y : V} (hb : H b = some (.lst ys)) : ∀ {d : D} {v : V}, Wild n d O H0 H v → Wild (n + 1) d O H0 (upd H b (.lst (ys ++ [y]))) v
  | .lst ds, v, h => by
    unfold Wild at h ⊢
    obtain ⟨a, xs, h1, h2, h3, h4, h5, h6⟩ := h
    by_cases e : a = b
    · subst e
      rw [hb] at h4
      cases h4
      exact ⟨a, ys ++ [y], h1, h2, h3, upd_same, by rw [List.length_append]; exact Nat.succ_le_succ h5, (Wilds.app hb h6).snoc⟩
    · exact ⟨a, xs, h1, h2, h3, by rw [upd_ne e]; exact h4, Nat.le_succ_of_le h5, Wilds.app hb h6⟩
  | .non, _, _ => by unfold Wild; trivial
  | .bl _, _, _ => by unfold Wild; trivial
  | .int _, _, _ => by unfold Wild; trivial
  | .str _, _, _ => by unfold Wild; trivial
  | .tup _, _, _ => by unfold Wild; trivial
  | .dic _, _, _ => by unfold Wild; trivial
  | .rcp _ _, _, _ => by unfold Wild; trivial
  | .raw _, _, _ => by unfold Wild; trivial
  | .dtp _, _, _ => by unfold Wild; trivial
theorem Wilds.app {b : Addr} {ys : List V} {y : V} (hb : H b = some (.lst ys)) : ∀ {ds : List D} {xs : List V}, Wilds n ds O H0 H xs → Wilds (n + 1) ds O H0 (upd H b (.lst (ys ++ [y]))) xs
  | [], _, _ => by unfold Wilds; trivial
  | d :: ds, xs, h => by
    unfold Wilds at h ⊢
    obtain ⟨x, zs, h1, h2, h3⟩ := h
    exact ⟨x, zs, h1, Wild.app hb h2, Wilds.app hb h3⟩
end
theorem Wilds.get : ∀ {ds : List D} {xs : List V} {j : Nat} {d : D}, Wilds n ds O H0 H xs → ds[j]? = some d → ∃ x, xs[j]? = some x ∧ Wild n d O H0 H x
  | [], _, _, _, _, e => by simp at e
  | d :: ds, xs, j, d', h, e => by
    unfold Wilds at h
    obtain ⟨x, ys, rfl, h2, h3⟩ := h
    cases j with
    | zero =>
      have q : d = d' := by simpa using e
      subst q
      exact ⟨x, rfl, h2⟩
    | succ j =>
      obtain ⟨z, a, b⟩ := h3.get (j := j) (by simpa using e)
      exact ⟨z, by simpa using a, b⟩
theorem At.grow {σ : L2.St} {δ : Dl} {a : Addr} {o : HO} (n : At K C O H σ δ) (h : O a = true) (ho : NoT o := by trivial) : At K C O (upd H a o) σ δ := ⟨n.own.upd ho, by rw [hid_upd h]; exact n.env⟩
end
end Zm


set_option Elab.async false
set_option linter.all false
set_option maxRecDepth 100000
set_option maxHeartbeats 4000000
set_option autoImplicit false
namespace Zm
open PySem PySem.Spec L2

section
variable {K : PySem.W.Frag} {C : Addr} {E : EndP} {ts ts' : TS} {δ δ' : Dl} {i j : Nat} {d e : D} {te : TE} {t : TT} {W : WP} {n : Nat} {ds es : List D}
theorem dat_dom {O : Addr → Bool} {H0 H : Hp} {v : V} (o : OIn O H0) (h : Dat K C (hid (dom H0) H) d v) : Dat K C (hid O H) d v := h.same (hid_sub (sub_dom o))
theorem StE.x (h : StE K C (EndX K C δ') ts δ) : StX K C ts δ δ' := h
theorem StE.r (h : StE K C (EndR K C d) ts δ) : StR K C ts δ d := h
theorem se_x (h : StX K C ts δ δ') : StE K C (EndX K C δ') ts δ := h
theorem se_r (h : StR K C ts δ d) : StE K C (EndR K C d) ts δ := h
theorem se_seq (ok : EndOk E) (h : StX K C ts δ δ') (g : StE K C E ts' δ') : StE K C E (tSeq ts ts') δ := fun O σ H n Z q => h O σ H n _ fun σ' H' s n' => g O σ' H' n' Z (ok _ _ _ _ _ (fun _ e => e) n.own s q)
theorem se_guard (ok : EndOk E) (h : EvT K C t δ false) (g : StE K C E ts' δ) : StE K C E (tSeq (tIfS t ts tNext) ts') δ := fun O σ H n Z q => h O σ H n _ fun H' s => g O σ H' (n.same s) Z (ok _ _ _ _ _ (fun _ e => e) n.own s q)
theorem envR_set {H : Hp} {σ : L2.St} {v : V} (h : EnvR K C H σ (δ.set i none)) (hv : σ[i]? = some (some v)) (hd : Dat K C H d v) : EnvR K C H σ (δ.set i (some d)) := ⟨by rw [h.1, List.length_set, List.length_set], fun k e q => by
  by_cases hk : i = k
  · subst hk
    rw [List.getElem?_set] at q
    split at q
    · split at q
      · have e1 : d = e := by simpa using q
        subst e1
        exact ⟨v, hv, hd⟩
      · cases q
    · exact absurd rfl (by assumption)
  · rw [List.getElem?_set_ne hk] at q
    exact h.2 k e (by rw [List.getElem?_set_ne hk]; exact q)⟩
/-- a new thing comes into a slot -/
theorem se_new (ok : EndOk E) (hi : i < δ.length) (h : EvF K C te δ d) (g : StNw K C E ts δ i d) : StE K C E (tSeq (tAsg te (gName i)) ts) δ := fun O σ H n Z q => h O σ H n _ fun v H1 s1 d1 => by
  have hl : i < σ.length := by rw [n.env.1]; exact hi
  exact g O H (σ.set i (some v)) H1 n.own s1 (n.env.unset (some v) i) ⟨v, List.getElem?_set_self hl, d1⟩ Z q
theorem nw_at {O : Addr → Bool} {H0 H : Hp} {σ : L2.St} (o : OIn O H0) (s : Same H0 H) (env : EnvR K C (hid O H0) σ (δ.set i none)) (hv : ∃ v, σ[i]? = some (some v) ∧ Dat K C (hid (dom H0) H) d v) : At K C O H σ (δ.set i (some d)) := by
  obtain ⟨v, h1, h2⟩ := hv
  exact ⟨o.same s, envR_set (env.same (same_hid s)) h1 (dat_dom o h2)⟩
theorem nw_same {H0 H H' : Hp} {σ : L2.St} (s : Same H H') (hv : ∃ v, σ[i]? = some (some v) ∧ Dat K C (hid (dom H0) H) d v) : ∃ v, σ[i]? = some (some v) ∧ Dat K C (hid (dom H0) H') d v := by
  obtain ⟨v, h1, h2⟩ := hv
  exact ⟨v, h1, h2.same (same_hid s)⟩
theorem snw_guard (h : EvT K C t (δ.set i (some d)) false) (g : StNw K C E ts' δ i d) : StNw K C E (tSeq (tIfS t ts tNext) ts') δ i d := fun O H0 σ H o s env hv Z q =>
  h O σ H (nw_at o s env hv) _ fun H' s' => g O H0 σ H' o (s.trans s') env (nw_same s' hv) Z q
/-- one's own are now the things made since H0 too -/
def grown (O : Addr → Bool) (H0 H : Hp) : Addr → Bool := fun a => O a || (dom H a && !dom H0 a)
theorem grown_sub {O : Addr → Bool} {H0 H : Hp} : SubO O (grown O H0 H) := fun a e => by
  unfold grown
  rw [e]
  rfl
theorem grown_in {O : Addr → Bool} {H0 H : Hp} (o : OIn O H0) (s : Same H0 H) : OIn (grown O H0 H) H := by
  have oH := o.same s
  refine ⟨fun a e q => ?_, fun a v e q => ?_⟩
  · unfold grown at e
    rcases Bool.or_eq_true_iff.mp e with e | e
    · exact oH a e q
    · obtain ⟨e, _⟩ := Bool.and_eq_true_iff.mp e
      obtain ⟨u, r, _⟩ := dom_some e
      rw [q] at r
      cases r
  · unfold grown at e
    rcases Bool.or_eq_true_iff.mp e with e | e
    · exact oH.nt a v e q
    · obtain ⟨e, _⟩ := Bool.and_eq_true_iff.mp e
      obtain ⟨u, r, nu⟩ := dom_some e
      rw [q] at r
      rw [Option.some.inj r]
      exact nu
theorem grown_old {O : Addr → Bool} {H0 H : Hp} (s : Same H0 H) : Old (grown O H0 H) H0 H := ⟨s, fun a o h0 h no => by
  unfold grown
  have e1 : dom H a = true := dom_of h no
  have e2 : dom H0 a = false := by
    unfold dom
    rw [h0]
    rfl
  rw [e1, e2]
  simp⟩
theorem grown_hid {O : Addr → Bool} {H0 H : Hp} (s : Same H0 H) : Same (hid O H0) (hid (grown O H0 H) H) := fun a u e => by
  unfold hid at e ⊢
  split at e
  · cases e
  · rename_i q
    have : ¬ grown O H0 H a = true := fun z => by
      unfold grown at z
      rcases Bool.or_eq_true_iff.mp z with z | z
      · exact q z
      · obtain ⟨z1, z⟩ := Bool.and_eq_true_iff.mp z
        obtain ⟨w, r, nw⟩ := dom_some z1
        rw [s a u e] at r
        rw [← Option.some.inj r] at nw
        rw [dom_of e nw] at z
        cases z
    rw [if_neg this]
    exact s a u e
theorem grown_dom {O : Addr → Bool} {H0 H H' : Hp} (o : OIn O H0) (s : Same H0 H) : Same (hid (dom H) H') (hid (grown O H0 H) H') := hid_sub fun a e => by
  unfold grown at e
  rcases Bool.or_eq_true_iff.mp e with e | e
  · exact sub_dom (o.same s) a e
  · exact (Bool.and_eq_true_iff.mp e).1
theorem sn_wild (hW : ∀ {O : Addr → Bool} {H0 H : Hp} {v : V}, Old O H0 H → Dat K C (hid (dom H0) H) d v → W O H0 H v) (g : StW K C E ts (δ.set i none) i W) : StNw K C E ts δ i d := fun O H0 σ H o s env hv Z q => by
  obtain ⟨v, h1, h2⟩ := hv
  exact g O H0 (grown O H0 H) σ H grown_sub o s ⟨grown_in o s, env.same (grown_hid s)⟩ ⟨v, h1, hW (grown_old s) h2⟩ Z q
/-- a wholly new thing is made of it, then it is one's own -/
theorem sn_mk (hj : i ≠ j) (hl : j < δ.length) (h : EvF K C te (δ.set i (some d)) e) (hW : ∀ {O : Addr → Bool} {H0 H : Hp} {v : V}, Old O H0 H → Dat K C (hid (dom H0) H) d v → W O H0 H v)
    (hs : ∀ {O : Addr → Bool} {H0 H H' : Hp} {v : V}, Same H H' → W O H0 H v → W O H0 H' v) (g : StW K C E ts ((δ.set i none).set j (some e)) i W) : StNw K C E (tSeq (tAsg te (gName j)) ts) δ i d := fun O H0 σ H o s env hv Z q =>
  h O σ H (nw_at o s env hv) _ fun w H1 s1 d1 => by
    obtain ⟨v, h1, h2⟩ := hv
    have n0 : At K C (grown O H0 H) H1 σ (δ.set i none) := ⟨(grown_in o s).same s1, (env.same (grown_hid s)).same (same_hid s1)⟩
    have n1 : At K C (grown O H0 H) H1 (σ.set j (some w)) ((δ.set i none).set j (some e)) := ⟨n0.own, n0.env.set j (d1.same (grown_dom o s))⟩
    exact g O H0 (grown O H0 H) (σ.set j (some w)) H1 grown_sub o (s.trans s1) n1 ⟨v, by rw [List.getElem?_set_ne hj.symm]; exact h1, hs s1 (hW (grown_old s) h2)⟩ Z q
theorem sw_fin (ok : EndOk E) (h : StE K C E ts δ) : StW K C E ts δ i W := fun O0 H0 O σ H so o s n hv Z q => h O σ H n Z (ok _ _ _ _ _ so o s q)
/-- x.append(e) -/
theorem sw_app (hn : n < 100000) (h : EvD K C te δ e) (g : StW K C E ts δ i (Wild (n + 1) (.lst ds))) : StW K C E (tSeq (tDrop (tBM K "list" rAppend (tVar i) (tCons te tNil))) ts) δ i (Wild n (.lst ds)) := fun O0 H0 O σ H so o s n1 hv Z q => by
  obtain ⟨v, hv, hw⟩ := hv
  have hw' := hw
  unfold Wild at hw'
  obtain ⟨a, xs, rfl, k1, k2, k3, k4, k5⟩ := hw'
  refine ⟨.ref a, hv, .inl ⟨rfl, xs, (.inl (.inl k3))⟩, h O σ H n1 _ fun w H1 s1 d1 => ⟨a, xs, w, rfl, rfl, s1 _ _ k3, Nat.lt_of_le_of_lt k4 (Nat.lt_of_lt_of_le hn (by decide)), ?_⟩⟩
  exact g O0 H0 O σ _ so o (same_mut (s.trans s1) k2) ((n1.same s1).grow k1) ⟨.ref a, hv, Wild.app (s1 _ _ k3) (Wild.same s1 hw)⟩ Z q
/-- x[j].append(e) -/
theorem sw_appI {l : Int} (hn : n < 100000) (hl : l = (j : Int)) (hj : ds[j]? = some (.lst es)) (h : EvD K C te δ e) (g : StW K C E ts δ i (Wild (n + 1) (.lst ds))) :
    StW K C E (tSeq (tDrop (tBM K "list" rAppend (tOp (rIxL K) (tVar i) (tC (.int l))) (tCons te tNil))) ts) δ i (Wild n (.lst ds)) := fun O0 H0 O σ H so o s n1 hv Z q => by
  obtain ⟨v, hv, hw⟩ := hv
  have hw' := hw
  unfold Wild at hw'
  obtain ⟨a, xs, rfl, k1, k2, k3, k4, k5⟩ := hw'
  obtain ⟨x, e1, e2⟩ := k5.get hj
  unfold Wild at e2
  obtain ⟨b, ys, rfl, m1, m2, m3, m4, m5⟩ := e2
  have ix : atI xs l = some (.ref b) := by
    subst hl
    unfold atI ixN
    rw [if_pos (Int.natCast_nonneg j)]
    have : (j : Int) < (xs.length : Int) := by
      have := (List.getElem?_eq_some_iff.mp e1).1
      omega
    rw [if_pos this, Option.bind_some, Int.toNat_natCast]
    exact e1
  refine ⟨.ref a, hv, a, xs, l, .ref b, rfl, rfl, (.inl (.inl k3)), ix, .inl ⟨rfl, ys, (.inl (.inl m3))⟩, h O σ H n1 _ fun w H1 s1 d1 => ⟨b, ys, w, rfl, rfl, s1 _ _ m3, Nat.lt_of_le_of_lt m4 (Nat.lt_of_lt_of_le hn (by decide)), ?_⟩⟩
  exact g O0 H0 O σ _ so o (same_mut (s.trans s1) m2) ((n1.same s1).grow m1) ⟨.ref a, hv, Wild.app (s1 _ _ m3) (Wild.same s1 hw)⟩ Z q
/-- a new list of new rows -/
def WRows (n : Nat) : WP := fun O H0 H v => ∃ a xs, v = .ref a ∧ O a = true ∧ H0 a = none ∧ H a = some (.lst xs) ∧ xs.length ≤ n ∧ ∀ x ∈ xs, ∃ q ys, x = .ref q ∧ q ≠ a ∧ O q = true ∧ H0 q = none ∧ H q = some (.lst ys) ∧ ys.length ≤ n
theorem WRows.same {O : Addr → Bool} {H0 H H' : Hp} {v : V} (s : Same H H') (h : WRows n O H0 H v) : WRows n O H0 H' v := by
  obtain ⟨a, xs, h1, h2, h3, h4, h5, h6⟩ := h
  refine ⟨a, xs, h1, h2, h3, s _ _ h4, h5, fun x hx => ?_⟩
  obtain ⟨q, ys, k1, k2, k3, k4, k5, k6⟩ := h6 x hx
  exact ⟨q, ys, k1, k2, k3, k4, s _ _ k5, k6⟩
theorem dats_mem {H : Hp} : ∀ {ds : List D} {xs : List V}, Dats K C H ds xs → ∀ x ∈ xs, ∃ d ∈ ds, Dat K C H d x
  | [], xs, h, x, hx => by
    rw [dats_nil.mp h] at hx
    cases hx
  | d :: ds, xs, h, x, hx => by
    obtain ⟨y, ys, rfl, h1, h2⟩ := dats_cons.mp h
    rcases List.mem_cons.mp hx with e | e
    · subst e
      exact ⟨d, List.mem_cons_self .., h1⟩
    · obtain ⟨d', m, q⟩ := dats_mem h2 x e
      exact ⟨d', List.mem_cons_of_mem _ m, q⟩
theorem WRows.of {rows : List (List Int)} (hl : rows.length ≤ n) (hr : ∀ r ∈ rows, r.length ≤ n) {O : Addr → Bool} {H0 H : Hp} {v : V} (old : Old O H0 H) (h : Dat K C (hid (dom H0) H) (rowsL rows) v) : WRows n O H0 H v := by
  obtain ⟨a, xs, rfl, h1, h2⟩ := dat_lst_iff.mp h
  obtain ⟨k1, k2⟩ := dom_none old.same h1 trivial
  refine ⟨a, xs, rfl, old.own a _ k1 k2 trivial, k1, k2, by rw [h2.length, List.length_map]; exact hl, fun x hx => ?_⟩
  obtain ⟨d, hd, dx⟩ := dats_mem h2 x hx
  obtain ⟨r, mr, rfl⟩ := List.mem_map.mp hd
  obtain ⟨q, ys, rfl, g1, g2⟩ := dat_lst_iff.mp dx
  obtain ⟨m1, m2⟩ := dom_none old.same g1 trivial
  have e := dats_ints.mp g2
  refine ⟨q, ys, rfl, fun z => ?_, old.own q _ m1 m2 trivial, m1, m2, by rw [e, List.length_map]; exact hr r mr⟩
  subst z
  rw [m2] at k2
  cases k2
  rw [e] at hx
  obtain ⟨z, _, hz⟩ := List.mem_map.mp hx
  cases hz
/-- for row in x: row.append(e) -/
theorem swr_for {r : Nat} (hr : r ≠ i) (hrl : r < δ.length) (hn : 2 * n < 100000) (h : EvD K C te (δ.set r none) e) (g : StW K C E ts (δ.set r none) i (Wild n (.lst []))) :
    StW K C E (tSeq (tFor (iList K (tVar i)) (gName r) (tDrop (tBM K "list" rAppend (tVar r) (tCons te tNil)))) ts) δ i (WRows n) := fun O0 H0 O σ H so o s n1 hv Z q => by
  obtain ⟨v, hv, a, xs, rfl, k1, k2, k3, k4, k5⟩ := hv
  refine ⟨.ref a, hv, a, rfl, ⟨xs, .inl (.inl k3)⟩, ?_⟩
  refine ⟨fun k m σ' H' => m = xs.length - k ∧ k ≤ xs.length ∧ Same H0 H' ∧ At K C O H' σ' (δ.set r none) ∧ σ'[i]? = some (some (.ref a)) ∧ H' a = some (.lst xs) ∧ ∀ x ∈ xs, ∃ p ys, x = .ref p ∧ p ≠ a ∧ O p = true ∧ H0 p = none ∧ H' p = some (.lst ys) ∧ ys.length ≤ n + k,
    ⟨xs.length, by omega, Nat.zero_le _, s, ⟨n1.own, ?_⟩, hv, k3, k5⟩, ?_⟩
  · refine ⟨n1.env.1.trans (List.length_set).symm, fun j d hd => ?_⟩
    by_cases e : r = j
    · subst e
      rw [List.getElem?_set_self hrl] at hd
      cases hd
    · rw [List.getElem?_set_ne e] at hd
      exact n1.env.2 j d hd
  rintro k m σ' H' ⟨rfl, hk, s', n', hv', ka, kx⟩
  by_cases hlt : k < xs.length
  · have hx : xs[k]? = some xs[k] := by simp [hlt]
    refine .inr ⟨⟨xs, xs[k], .inl (.inl ka), hx⟩, fun σ2 H2 => k + 1 ≤ xs.length ∧ Same H0 H2 ∧ At K C O H2 σ2 (δ.set r none) ∧ σ2[i]? = some (some (.ref a)) ∧ H2 a = some (.lst xs) ∧ ∀ x ∈ xs, ∃ p ys, x = .ref p ∧ p ≠ a ∧ O p = true ∧ H0 p = none ∧ H2 p = some (.lst ys) ∧ ys.length ≤ n + (k + 1),
      fun σ2 H2 hN => ⟨_, by omega, rfl, hN⟩, fun x H2 y => ?_⟩
    obtain ⟨rfl, y⟩ := y
    have ex := y xs (.inl (.inl ka))
    rw [hx] at ex
    cases ex
    obtain ⟨p, ys, ep, pa, po, p0, ph, pl⟩ := kx xs[k] (List.getElem_mem hlt)
    have n2 : At K C O H2 (σ'.set r (some xs[k])) (δ.set r none) := by
      have z := n'.env.unset (some xs[k]) r
      rw [List.set_set] at z
      exact ⟨n'.own, z⟩
    have hr2 : (σ'.set r (some xs[k]))[r]? = some (some xs[k]) := List.getElem?_set_self (by rw [n'.env.1, List.length_set]; exact hrl)
    rw [ep] at n2 hr2
    rw [ep]
    refine ⟨.ref p, hr2, .inl ⟨rfl, ys, .inl (.inl ph)⟩, h O _ H2 n2 _ fun w H3 s3 d3 => ⟨p, ys, w, rfl, rfl, s3 _ _ ph, Nat.lt_of_le_of_lt pl (Nat.lt_of_lt_of_le (by omega) (by decide : 100000 ≤ sizeLine)), hlt, same_mut (s'.trans s3) p0, ?_, by rw [List.getElem?_set_ne hr]; exact hv', by rw [upd_ne pa.symm]; exact s3 _ _ ka, fun x hx => ?_⟩⟩
    · exact (n2.same s3).grow po
    · obtain ⟨p2, ys2, e1, e2, e3, e4, e5, e6⟩ := kx x hx
      by_cases z : p2 = p
      · subst z
        rw [ph] at e5
        cases e5
        exact ⟨p2, _, e1, e2, e3, e4, upd_same, by rw [List.length_append]; exact Nat.succ_le_succ e6⟩
      · exact ⟨p2, ys2, e1, e2, e3, e4, by rw [upd_ne z]; exact s3 _ _ e5, Nat.le_succ_of_le e6⟩
  · have e : k = xs.length := by omega
    subst e
    refine .inl ⟨⟨xs, .inl (.inl ka), Nat.le_refl _⟩, ?_⟩
    refine g O0 H0 O σ' H' so o s' n' ⟨.ref a, hv', ?_⟩ Z q
    unfold Wild
    exact ⟨a, xs, rfl, k1, k2, ka, k4, by unfold Wilds; trivial⟩
/-- a new list of two new things -/
theorem ef_lst2 {ta tb : TE} (ha : EvF K C ta δ d) (hb : EvF K C tb δ e) : EvF K C (tLst (tCons ta (tCons tb tNil))) δ (.lst [d, e]) := fun O σ H n1 Q q => ha O σ H n1 _ fun v H1 s1 d1 => hb O σ H1 (n1.same s1) _ fun w H2 s2 d2 => by
  refine ⟨by show 2 ≤ sizeLine; decide, fun p hp => q _ _ ((s1.trans s2).trans (same_new hp)) ?_⟩
  have s3 := same_new (o := HO.lst [v, w]) hp
  refine dat_new ((s1.trans s2).trans s3) (back_none (s1.trans s2) hp) upd_same (.cons (d1.same ((same_hid s2).trans (same_hid s3))) (.one ((d2.same (dom_le s1)).same (same_hid s3))))
end
end Zm


set_option Elab.async false
set_option linter.all false
set_option maxRecDepth 100000
set_option maxHeartbeats 4000000
set_option autoImplicit false
namespace Zm
open PySem PySem.Spec L2

/-! ### a list that grows, and is read at the end -/
section
variable (K : PySem.W.Frag) (C : Addr)
/-- a new list of at most n things that P tells -/
def WL (P : D → Prop) (n : Nat) : WP := fun O H0 H v => ∃ a xs ds, v = .ref a ∧ O a = true ∧ H0 a = none ∧ H a = some (.lst xs) ∧ xs.length ≤ n ∧ (∀ d ∈ ds, P d) ∧ Dats K C (hid O H) ds xs
/-- a piece of text that keeps the phase -/
def StWB (ts : TS) (δ δ' : Dl) (i : Nat) (W W' : WP) : Prop := ∀ H0 O σ H, Same H0 H → At K C O H σ δ → (∃ v, σ[i]? = some (some v) ∧ W O H0 H v) → ∀ Z : Ends, (∀ σ' H', Same H0 H' → Same (hid O H) (hid O H') → At K C O H' σ' δ' → (∃ v, σ'[i]? = some (some v) ∧ W' O H0 H' v) → Z.nx σ' H') → ts Z σ H
end
section
variable {K : PySem.W.Frag} {C : Addr} {E : EndP} {ts ts' : TS} {δ δ' δ2 : Dl} {i j : Nat} {d e z : D} {te te2 : TE} {t : TT} {W W' : WP} {n : Nat} {ds es : List D} {P : D → Prop} {c : Nat} {R1 : D → Prop} {tr : TA}
theorem WL.mono {m : Nat} (h : n ≤ m) {O : Addr → Bool} {H0 H : Hp} {v : V} (w : WL K C P n O H0 H v) : WL K C P m O H0 H v := by
  obtain ⟨a, xs, ds, h1, h2, h3, h4, h5, h6⟩ := w
  exact ⟨a, xs, ds, h1, h2, h3, h4, Nat.le_trans h5 h, h6⟩
theorem swb_seq (h : StWB K C ts δ δ' i W W') (g : StW K C E ts' δ' i W') : StW K C E (tSeq ts ts') δ i W := fun O0 H0 O σ H so o s n hv Z q => h H0 O σ H s n hv { Z with nx := ts' Z } fun σ' H' s' _ n' hv' => g O0 H0 O σ' H' so o s' n' hv' Z q
/-- x.append(e) -/
theorem swb_app (hn : n < 100000) (h : EvD K C te δ e) (hp : P e) : StWB K C (tDrop (tBM K "list" rAppend (tVar i) (tCons te tNil))) δ δ i (WL K C P n) (WL K C P (n + 1)) := fun H0 O σ H s n1 hv Z q => by
  obtain ⟨v, hv, a, xs, ds, rfl, k1, k2, k3, k4, k5, k6⟩ := hv
  refine ⟨.ref a, hv, .inl ⟨rfl, xs, .inl (.inl k3)⟩, h O σ H n1 _ fun w H1 s1 d1 => ⟨a, xs, w, rfl, rfl, s1 _ _ k3, Nat.lt_of_le_of_lt k4 (Nat.lt_of_lt_of_le hn (by decide)), ?_⟩⟩
  have e1 : hid O (upd H1 a (.lst (xs ++ [w]))) = hid O H1 := hid_upd k1
  refine q _ _ (same_mut (s.trans s1) k2) (by rw [e1]; exact same_hid s1) ((n1.same s1).grow k1) ⟨.ref a, hv, a, xs ++ [w], ds ++ [e], rfl, k1, k2, upd_same, by rw [List.length_append]; exact Nat.succ_le_succ k4, fun d hd => ?_, by rw [e1]; exact (k6.same (same_hid s1)).append (.one d1)⟩
  rcases List.mem_append.mp hd with hd | hd
  · exact k5 d hd
  · rw [List.mem_singleton.mp hd]
    exact hp
theorem swb_if {b : Bool} (h : EvT K C t δ b) (hW : ∀ {O : Addr → Bool} {H0 H H' : Hp} {v : V}, Same H H' → W O H0 H v → W O H0 H' v) (h1 : b = true → StWB K C ts δ δ' i W W') (h2 : b = false → StWB K C ts' δ δ' i W W') : StWB K C (tIfS t ts ts') δ δ' i W W' := fun H0 O σ H s n1 hv Z q => h O σ H n1 _ fun H1 s1 => by
  obtain ⟨v, hv, hw⟩ := hv
  have hv' : ∃ v, σ[i]? = some (some v) ∧ W O H0 H1 v := ⟨v, hv, hW s1 hw⟩
  cases b with
  | true => exact h1 rfl H0 O σ H1 (s.trans s1) (n1.same s1) hv' Z fun σ' H' s' sh n' hv2 => q σ' H' s' ((same_hid s1).trans sh) n' hv2
  | false => exact h2 rfl H0 O σ H1 (s.trans s1) (n1.same s1) hv' Z fun σ' H' s' sh n' hv2 => q σ' H' s' ((same_hid s1).trans sh) n' hv2
theorem swb_next (hW : ∀ {O : Addr → Bool} {H0 H : Hp} {v : V}, W O H0 H v → W' O H0 H v) : StWB K C tNext δ δ i W W' := fun H0 O σ H s n1 hv Z q => by
  obtain ⟨v, hv, hw⟩ := hv
  exact q σ H s (Same.refl _) n1 ⟨v, hv, hW hw⟩
theorem WL.same {O : Addr → Bool} {H0 H H' : Hp} {v : V} (s : Same H H') (w : WL K C P n O H0 H v) : WL K C P n O H0 H' v := by
  obtain ⟨a, xs, ds, h1, h2, h3, h4, h5, h6, h7⟩ := w
  exact ⟨a, xs, ds, h1, h2, h3, s _ _ h4, h5, h6, h7.same (same_hid s)⟩
theorem swb_le (h : StWB K C ts δ δ2 i W W') (l : LeD δ' δ2) : StWB K C ts δ δ' i W W' := fun H0 O σ H s n1 hv Z q => h H0 O σ H s n1 hv Z fun σ' H' s' sh n' hv' => q σ' H' s' sh (n'.weak l) hv'
/-- a loop of such pieces; r: the loop's slot -/
theorem swb_for {α : Type} {as : List α} {g0 : α → D} {wi : TI} {r : Nat} {tb : TS} {Wk : Nat → WP} (hr : r ≠ i) (hI : EvI K C wi δ (as.map g0)) (h0 : LeD δ' δ) (hW : ∀ {k : Nat} {O : Addr → Bool} {H0 H H' : Hp} {v : V}, Same H H' → Wk k O H0 H v → Wk k O H0 H' v)
    (hB : ∀ k a, as[k]? = some a → StWB K C tb (δ'.set r (some (g0 a))) δ' i (Wk k) (Wk (k + 1))) : StWB K C (tFor wi (gName r) tb) δ δ' i (Wk 0) (Wk as.length) := fun H0 O σ H s n1 hv Z q => hI O σ H n1 _ fun J H1 s1 w => by
  have m1 := n1.same s1
  have wl : (as.map g0).length = as.length := List.length_map _
  obtain ⟨v, hv, hw⟩ := hv
  refine ⟨fun k m σ2 H2 => m = as.length - k ∧ k ≤ as.length ∧ Same H0 H2 ∧ Same (hid O H1) (hid O H2) ∧ At K C O H2 σ2 δ' ∧ ∃ v, σ2[i]? = some (some v) ∧ Wk k O H0 H2 v, ⟨as.length, by omega, Nat.zero_le _, s.trans s1, Same.refl _, m1.weak h0, v, hv, hW s1 hw⟩, ?_⟩
  rintro k m σ2 H2 ⟨rfl, hk, s2, sh, n2, hv2⟩
  by_cases hlt : k < as.length
  · have hia : as[k]? = some as[k] := by simp [hlt]
    refine .inr ⟨w.go _ k H2 sh n2.own (by rw [wl]; exact hlt), fun σ3 H3 => k + 1 ≤ as.length ∧ Same H0 H3 ∧ Same (hid O H1) (hid O H3) ∧ At K C O H3 σ3 δ' ∧ ∃ v, σ3[i]? = some (some v) ∧ Wk (k + 1) O H0 H3 v, fun σ3 H3 hN => ⟨_, by omega, rfl, hN⟩, fun x H3 y => ?_⟩
    obtain ⟨s3, d3⟩ := w.yld _ k H2 x H3 (g0 as[k]) sh n2.own (by rw [List.getElem?_map, hia]; rfl) y
    have n3 := n2.same s3
    obtain ⟨v2, hv2, hw2⟩ := hv2
    refine hB k _ hia H0 O (σ2.set r (some x)) H3 (s2.trans s3) ⟨n3.own, n3.env.set r d3⟩ ⟨v2, by rw [List.getElem?_set_ne hr]; exact hv2, hW s3 hw2⟩ _ fun σ4 H4 s4 sh4 n4 hv4 => ?_
    exact ⟨hlt, s4, (sh.trans (same_hid s3)).trans sh4, n4, hv4⟩
  · have e : k = as.length := by omega
    subst e
    exact .inl ⟨by rw [← wl]; exact w.stop _ H2 sh n2.own, q σ2 H2 s2 ((same_hid s1).trans sh) n2 hv2⟩
theorem sw_if {b : Bool} (h : EvT K C t δ b) (hW : ∀ {O : Addr → Bool} {H0 H H' : Hp} {v : V}, Same H H' → W O H0 H v → W O H0 H' v) (h1 : b = true → StW K C E (tSeq ts ts') δ i W) (h2 : b = false → StW K C E ts' δ i W) : StW K C E (tSeq (tIfS t ts tNext) ts') δ i W := fun O0 H0 O σ H so o s n1 hv Z q => h O σ H n1 _ fun H1 s1 => by
  obtain ⟨v, hv, hw⟩ := hv
  have hv' : ∃ v, σ[i]? = some (some v) ∧ W O H0 H1 v := ⟨v, hv, hW s1 hw⟩
  cases b with
  | true => exact h1 rfl O0 H0 O σ H1 so o (s.trans s1) (n1.same s1) hv' Z q
  | false => exact h2 rfl O0 H0 O σ H1 so o (s.trans s1) (n1.same s1) hv' Z q
/-- x = x + [..] -/
theorem sw_cat (hi : i < δ.length) (hn : n + es.length ≤ 100000) (h : EvD K C te2 δ (.lst es)) (hp : ∀ d ∈ es, P d) (g : StW K C E ts (δ.set i none) i (WL K C P (n + es.length))) : StW K C E (tSeq (tAsg (tOp rCat (tVar i) te2) (gName i)) ts) δ i (WL K C P n) := fun O0 H0 O σ H so o s n1 hv Z q => by
  obtain ⟨v, hv, a, xs, ds, rfl, k1, k2, k3, k4, k5, k6⟩ := hv
  refine ⟨.ref a, hv, h O σ H n1 _ fun w H1 s1 d1 => ?_⟩
  obtain ⟨b, ys, rfl, m1, m2⟩ := dat_lst_iff.mp d1
  have hl : xs.length + ys.length ≤ n + es.length := by rw [m2.length]; omega
  refine ⟨a, b, xs, ys, rfl, rfl, s1 _ _ k3, hid_same _ _ m1, Nat.le_trans hl (Nat.le_trans hn (by decide)), fun l fr => ?_⟩
  have n2 : At K C (addO O l) (upd H1 l (.lst (xs ++ ys))) σ δ := (n1.same s1).add fr
  have sh : Same (hid O H1) (hid (addO O l) (upd H1 l (.lst (xs ++ ys)))) := (add_fresh fr).trans (same_hid (same_new fr))
  refine g O0 H0 (addO O l) _ _ (fun b hb => by unfold addO; rw [so b hb]; rfl) o ((s.trans s1).trans (same_new fr)) ⟨n2.own, n2.env.unset _ i⟩ ⟨.ref l, List.getElem?_set_self (by rw [n1.env.1]; exact hi), l, xs ++ ys, ds ++ es, rfl, by unfold addO; simp, back_none (s.trans s1) fr, upd_same, by rw [List.length_append]; exact hl, fun d hd => ?_, ((k6.same (same_hid s1)).append m2).same sh⟩ Z q
  exact (List.mem_append.mp hd).elim (k5 d) (hp d)
/-- the list is read again -/
theorem sw_back (ok : EndOk E) (g : ∀ ds : List D, (∀ d ∈ ds, P d) → ds.length ≤ n → StE K C E ts (δ.set i (some (.lst ds)))) : StW K C E ts δ i (WL K C P n) := fun O0 H0 O σ H so o s n1 hv Z q => by
  obtain ⟨v, hv, a, xs, ds, rfl, k1, k2, k3, k4, k5, k6⟩ := hv
  let O2 : Addr → Bool := fun b => O b && !decide (b = a)
  have s2 : SubO O2 O := fun b hb => (Bool.and_eq_true_iff.mp hb).1
  have s0 : SubO O0 O2 := fun b hb => by
    have ne : b ≠ a := fun z => by
      subst z
      exact o b hb k2
    show (O b && !decide (b = a)) = true
    rw [so b hb, decide_eq_false ne]
    rfl
  have o2 : OIn O2 H := ⟨fun b hb => n1.own b (s2 b hb), fun b u hb => n1.own.nt b u (s2 b hb)⟩
  have na : O2 a = false := by
    show (O a && !decide (a = a)) = false
    rw [decide_eq_true rfl, k1]
    rfl
  have da : Dat K C (hid O2 H) (.lst ds) (.ref a) := dat_lst_iff.mpr ⟨a, xs, rfl, by unfold hid; rw [na, if_neg Bool.false_ne_true]; exact k3, k6.same (hid_sub s2)⟩
  have env : EnvR K C (hid O2 H) σ (δ.set i none) := by
    have z := (n1.env.same (hid_sub s2)).unset (some (V.ref a)) i
    have e : σ.set i (some (V.ref a)) = σ := by
      apply List.ext_getElem?
      intro j
      rw [List.getElem?_set]
      split
      · rename_i e
        subst e
        split
        · exact hv.symm
        · rename_i q
          rw [List.getElem?_eq_none (by omega)]
      · rfl
    rwa [e] at z
  exact g ds k5 (by rw [← k6.length]; exact k4) O2 σ H ⟨o2, envR_set env hv da⟩ Z (ok _ _ _ _ _ s0 o s q)
/-- a list is made, then a draw comes, then no more -/
theorem sp_listDraw (hi : i < δ.length) (hi0 : i ≠ 0) (hj0 : j ≠ 0) (hij : i ≠ j) (ha : EvA K C tr δ es) (he : ∀ d ∈ es, P d) (hl : es.length ≤ n) (hn : n ≤ 100000) (hd : EvP K C te2 (δ.set i none) c R1)
    (g : ∀ d, R1 d → StW K C (EndR K C z) ts ((δ.set i none).set j (some d)) i (WL K C P n)) : StP K C (tSeq (tAsg (tLst tr) (gName i)) (tSeq (tAsg te2 (gName j)) ts)) δ c (fun d => d = z) := fun O σ H p m x hm Z q =>
  ha O σ H x.at_ _ fun vs H1 s1 d1 => ⟨by rw [d1.length]; exact Nat.le_trans hl (Nat.le_trans hn (by decide)), fun a fr => by
    have n1 := x.at_.same s1
    have n2 : At K C (addO O a) (upd H1 a (.lst vs)) σ δ := n1.add fr
    have pu := (x.purse.same s1).same (same_new (o := .lst vs) fr)
    have np : a ≠ p := fun z => by
      rw [z] at fr
      exact (x.purse.same s1).some fr
    have y : AtP K C (addO O a) (upd H1 a (.lst vs)) (σ.set i (some (.ref a))) (δ.set i none) p m := ⟨⟨n2.own, n2.env.unset _ i⟩, by unfold addO; rw [x.own]; rfl, pu, by rw [List.getElem?_set_ne hi0]; exact x.slot⟩
    refine hd (addO O a) _ _ p m y hm _ fun w H3 d b3 p3 r3 hd3 => ?_
    have y3 := y.but b3 p3
    have ha3 : H3 a = some (.lst vs) := b3 _ _ np upd_same
    let H0 : Hp := fun b => if b = a then none else H3 b
    have s0 : Same H0 H3 := fun b u e => by
      show H3 b = some u
      have e : (if b = a then none else H3 b) = some u := e
      split at e
      · cases e
      · exact e
    have h0a : H0 a = none := if_pos rfl
    have oO : OIn O H0 := by
      refine ⟨fun b hb e => ?_, fun b u hb e => ?_⟩
      · have ne : b ≠ a := fun z => by
          subst z
          exact n1.own b hb fr
        have e : (if b = a then none else H3 b) = none := e
        rw [if_neg ne] at e
        exact y3.at_.own b (by unfold addO; rw [hb]; rfl) e
      · have ne : b ≠ a := fun z => by
          subst z
          exact n1.own b hb fr
        have e : (if b = a then none else H3 b) = some u := e
        rw [if_neg ne] at e
        exact y3.at_.own.nt b u (by unfold addO; rw [hb]; rfl) e
    refine g d r3 O H0 (addO O a) ((σ.set i (some (.ref a))).set j (some w)) H3 (fun b hb => by unfold addO; rw [hb]; rfl) oO s0 ⟨y3.at_.own, y3.at_.env.set j hd3⟩ ⟨.ref a, by rw [List.getElem?_set_ne (fun q => hij q.symm), List.getElem?_set_self (by rw [x.at_.env.1]; exact hi)], a, vs, es, rfl, by unfold addO; simp, h0a, ha3, by rw [d1.length]; exact hl, he, ?_⟩ Z fun v H' s' dv => ?_
    · exact (d1.same (add_new fr)).same (but_hid b3 y.own)
    · have bb : But p H H' := fun b u hb e => by
        have e1 := s1 _ _ e
        have ne : b ≠ a := fun z => by
          subst z
          rw [fr] at e1
          cases e1
        have e3 := b3 b u hb (by rw [upd_ne ne]; exact e1)
        exact s' b u (by show (if b = a then none else H3 b) = some u; rw [if_neg ne]; exact e3)
      have pp : PurseIs (m + c) H' p := by
        obtain ⟨q1, q2, q3, q4, k1, k2⟩ := p3
        exact ⟨q1, q2, q3, q4, s' _ _ (by show (if p = a then none else H3 p) = _; rw [if_neg np.symm]; exact k1), k2⟩
      exact q v H' z bb pp rfl dv⟩
end
section
variable {X : Cx}
theorem e_revL {K : PySem.W.Frag} {e : Expr} {te : TE} {k : Nat} {p1 p2 p3 pos : Pos} (he : PE X e te) (hK : X.K = K := by rfl) : PE X (.Subscript e (.Slice none none (some (.UnaryOp .USub (.Constant (.int 1) k p1) p2)) p3) pos) (tRevL K te) := by
  subst hK
  exact pe_revL he
theorem o_own {P : Program} {w : World} {K : PySem.W.Frag} {mg : Str → Option Value} {base : Heap} {C : Addr} {k : Nat} {ps : List Str} {sp : Sp} (M : MethOk P w K mg base C "__eq__" k ps sp) (hr : Room k X.A) (h1 : X.prog = P := by rfl) (h2 : X.w = w := by rfl) (hK : X.K = K := by rfl) (h4 : X.mg = mg := by rfl) (h5 : X.base = base := by rfl) (pass : Passes CX0 X E0 := by exact pass0) :
    OpR X (compareOp .Eq) (rOwn K C sp E0 false) := by
  subst h1 h2 hK h4 h5
  exact op_own M hr pass
theorem o_ownNe {P : Program} {w : World} {K : PySem.W.Frag} {mg : Str → Option Value} {base : Heap} {C : Addr} {k : Nat} {ps : List Str} {sp : Sp} (M : MethOk P w K mg base C "__eq__" k ps sp) (hr : Room (k + 1) X.A) (ne : PySem.W.findIn K (.ref C) "__ne__" = some (some (.builtin "object.__ne__"))) (ob : PySem.W.mroIn K C (.type "object") = some true)
    (h1 : X.prog = P := by rfl) (h2 : X.w = w := by rfl) (hK : X.K = K := by rfl) (h4 : X.mg = mg := by rfl) (h5 : X.base = base := by rfl) (pass : Passes CX0 X E0 := by exact pass0) : OpR X (compareOp .NotEq) (rOwn K C sp E0 true) := by
  subst h1 h2 hK h4 h5
  exact op_ownNe M hr pass ne ob
end
section
variable {K : PySem.W.Frag} {C : Addr} {E : EndP} {ts : TS} {δ : Dl} {i : Nat} {te : TE} {W W' : WP} {ds : List D}
theorem Dats.rev {H : Hp} : ∀ {ds : List D} {xs : List V}, Dats K C H ds xs → Dats K C H ds.reverse xs.reverse
  | [], xs, h => by
    rw [dats_nil.mp h]
    exact .nil
  | d :: ds, xs, h => by
    obtain ⟨x, ys, rfl, h1, h2⟩ := dats_cons.mp h
    rw [List.reverse_cons, List.reverse_cons]
    exact (Dats.rev h2).append (.one h1)
theorem en_revL (h : EvD K C te δ (.lst ds)) : EvN K C (tRevL K te) δ (.lst ds.reverse) := fun O σ H n Q q => h O σ H n _ fun v H1 s1 d1 => by
  obtain ⟨a, xs, rfl, h1, h2⟩ := dat_lst_iff.mp d1
  exact ⟨a, xs, rfl, sqL_of h1, fun p hp => q p _ (s1.trans (same_new hp)) (back_none s1 hp) (new_lst (n.same s1).own hp h2.rev)⟩
theorem sw_mono (hW : ∀ {O : Addr → Bool} {H0 H : Hp} {v : V}, W O H0 H v → W' O H0 H v) (g : StW K C E ts δ i W') : StW K C E ts δ i W := fun O0 H0 O σ H so o s n hv Z q => by
  obtain ⟨v, hv, hw⟩ := hv
  exact g O0 H0 O σ H so o s n ⟨v, hv, hW hw⟩ Z q
end
end Zm


set_option Elab.async false
set_option linter.all false
set_option maxRecDepth 100000
set_option maxHeartbeats 4000000
set_option autoImplicit false
namespace Zm
open PySem PySem.Spec L2

/-! ### text that goes on and draws; the purse stands in slot j -/
structure AtJ (K : PySem.W.Frag) (C : Addr) (j : Nat) (O : Addr → Bool) (H : Hp) (σ : L2.St) (δ : Dl) (p : Addr) (n : Nat) : Prop where
  at_ : At K C O H σ δ
  own : O p = true
  purse : PurseIs n H p
  slot : σ[j]? = some (some (.ref p))
section
variable (K : PySem.W.Frag) (C : Addr) (j : Nat)
def EvJ (te : TE) (δ : Dl) (c : Nat) (R : D → Prop) : Prop := ∀ O σ H p n, AtJ K C j O H σ δ p n → n + c ≤ 1000000 → ∀ Q : VK, (∀ v H' d, But p H H' → PurseIs (n + c) H' p → R d → Dat K C (hid O H') d v → Q v H') → te σ H Q
def EvJT (tt : TT) (δ : Dl) (c : Nat) (b : Bool) : Prop := ∀ O σ H p n, AtJ K C j O H σ δ p n → n + c ≤ 1000000 → ∀ Q : Bool → Hp → Prop, (∀ H', But p H H' → PurseIs (n + c) H' p → Q b H') → tt σ H Q
def StJ (ts : TS) (δ δ' : Dl) (c : Nat) : Prop := ∀ O σ H p n, AtJ K C j O H σ δ p n → n + c ≤ 1000000 → ∀ Z : Ends, (∀ σ' H', But p H H' → AtJ K C j O H' σ' δ' p (n + c) → Z.nx σ' H') → ts Z σ H
end
section
variable {K : PySem.W.Frag} {C : Addr} {j i r c c1 c2 c3 n m : Nat} {O : Addr → Bool} {H H' : Hp} {σ : L2.St} {δ δ' δ2 : Dl} {p : Addr} {te ta tb : TE} {t u : TT} {ts ts' : TS} {tr : TA} {d : D} {ds : List D} {R R1 R2 : D → Prop} {b : Bool}
theorem AtJ.but (x : AtJ K C j O H σ δ p n) (s : But p H H') (h : PurseIs m H' p) : AtJ K C j O H' σ δ p m := ⟨⟨but_own x.at_.own s h, x.at_.env.same (but_hid s x.own)⟩, x.own, h, x.slot⟩
theorem AtJ.same (x : AtJ K C j O H σ δ p n) (s : Same H H') : AtJ K C j O H' σ δ p n := x.but (But.of s) (x.purse.same s)
theorem ej_call {pre : List D → Prop} {m : Nat} {R : List D → D → Prop} {E : XK} (ha : EvA K C tr δ ds) (hn : ds.length = m) (hp : pre ds) : EvJ K C j (tCall (SpP K C pre c R m) [] E (tCons (tVar j) tr)) δ c (R ds) := fun O σ H p n x hn2 Q q =>
  ⟨_, x.slot, ha O σ H x.at_ _ fun vs H1 s1 d1 => by
    show SpP K C pre c R m ((V.ref p :: vs) ++ []) H1 Q E
    rw [List.append_nil]
    exact ⟨by rw [List.length_cons, d1.length, hn], O, p, n, ds, vs, rfl, x.at_.own.same s1, x.own, x.purse.same s1, hn2, d1, hp, fun v H' d b pu r hd => q v H' d ((But.of s1).trans b) pu r hd⟩⟩
theorem ejt_of (h : EvT K C t δ b) : EvJT K C j t δ 0 b := fun O σ H p n x hn Q q => h O σ H x.at_ _ fun H' s => q H' (But.of s) (x.purse.same s)
theorem ejt_B (h : EvJ K C j te δ c (fun d => d = .bl b)) : EvJT K C j (tB te) δ c b := fun O σ H p n x hn Q q => h O σ H p n x hn _ fun v H' d s pu r hd => by
  subst r
  exact ⟨b, dat_bl.mp hd, q H' s pu⟩
theorem ejt_not (h : EvJT K C j t δ c b) : EvJT K C j (tNot t) δ c (!b) := fun O σ H p n x hn Q q => h O σ H p n x hn _ fun H' s pu => q H' s pu
theorem ejt_or (h1 : EvJT K C j t δ c1 false) (h2 : EvJT K C j u δ c2 b) : EvJT K C j (tOr t u) δ (c1 + c2) b := fun O σ H p n x hn Q q => h1 O σ H p n x (by omega) _ fun H' s pu => by
  have e : n + c1 + c2 = n + (c1 + c2) := by omega
  exact h2 O σ H' p _ (x.but s pu) (by omega) Q fun H2 s2 p2 => q H2 (s.trans s2) (by rw [← e]; exact p2)
theorem sj_seq (h : StJ K C j ts δ δ' c1) (g : StJ K C j ts' δ' δ2 c2) : StJ K C j (tSeq ts ts') δ δ2 (c1 + c2) := fun O σ H p n x hn Z q => h O σ H p n x (by omega) { Z with nx := ts' Z } fun σ' H' s x' => by
  have e : n + c1 + c2 = n + (c1 + c2) := by omega
  exact g O σ' H' p _ x' (by omega) Z fun σ2 H2 s2 x2 => q σ2 H2 (s.trans s2) (by rw [← e]; exact x2)
theorem sj_set (hi : i ≠ j) (h : EvD K C te δ d) : StJ K C j (tAsg te (gName i)) δ (δ.set i (some d)) 0 := fun O σ H p n x hn Z q => h O σ H x.at_ _ fun v H' s hd => by
  have y := x.same s
  exact q _ H' (But.of s) ⟨⟨y.at_.own, y.at_.env.set i hd⟩, y.own, y.purse, by rw [List.getElem?_set_ne hi]; exact y.slot⟩
theorem sj_skip (h : EvJT K C j t δ c false) : StJ K C j (tIfS t ts tNext) δ δ c := fun O σ H p n x hn Z q => h O σ H p n x hn _ fun H' s pu => q σ H' s (x.but s pu)
theorem sj_le (h : StJ K C j ts δ δ2 c1) (l : LeD δ' δ2) (hc : c1 ≤ c) : StJ K C j ts δ δ' c := fun O σ H p n x hn Z q => h O σ H p n x (by omega) Z fun σ' H' s y => q σ' H' s ⟨y.at_.weak l, y.own, y.purse.mono (by omega), y.slot⟩
/-- two drawn things in a new list -/
theorem sj_two (hi : i ≠ j) (ha : EvJ K C j ta δ c1 R1) (hb : EvJ K C j tb δ c2 R2) (g : ∀ d e, R1 d → R2 e → StJ K C j ts' (δ.set i (some (.lst [d, e]))) δ' c3) : StJ K C j (tSeq (tAsg (tLst (tCons ta (tCons tb tNil))) (gName i)) ts') δ δ' (c1 + c2 + c3) := fun O σ H p n x hn Z q =>
  ha O σ H p n x (by omega) _ fun v H1 d1 s1 p1 r1 hd1 => hb O σ H1 p _ (x.but s1 p1) (by omega) _ fun w H2 d2 s2 p2 r2 hd2 => by
    refine ⟨by show 2 ≤ sizeLine; decide, fun a fr => ?_⟩
    have x2 := (x.but s1 p1).but s2 p2
    have s3 := same_new (o := HO.lst [v, w]) fr
    have x3 := x2.same s3
    have da : Dat K C (hid O (upd H2 a (.lst [v, w]))) (.lst [d1, d2]) (.ref a) := new_lst x2.at_.own fr (.cons (hd1.same (but_hid s2 x.own)) (.one hd2))
    have e : n + c1 + c2 + c3 = n + (c1 + c2 + c3) := by omega
    exact g d1 d2 r1 r2 O _ _ p _ ⟨⟨x3.at_.own, x3.at_.env.set i da⟩, x3.own, x3.purse, by rw [List.getElem?_set_ne hi]; exact x3.slot⟩ (by omega) Z fun σ' H' s' y => q σ' H' ((s1.trans s2).trans ((But.of s3).trans s')) (by rw [← e]; exact y)
theorem sj_for {α : Type} {as : List α} {g0 : α → D} {wi : TI} {tb : TS} (hr : r ≠ j) (hI : EvI K C wi δ (as.map g0)) (h0 : LeD δ' δ) (hB : ∀ a ∈ as, StJ K C j tb (δ'.set r (some (g0 a))) δ' c) : StJ K C j (tFor wi (gName r) tb) δ δ' (as.length * c) := fun O σ H p n x hn Z q => hI O σ H x.at_ _ fun J H1 s1 w => by
  have x1 := x.same s1
  have wl : (as.map g0).length = as.length := List.length_map _
  refine ⟨fun k m σ2 H2 => m = as.length - k ∧ k ≤ as.length ∧ But p H1 H2 ∧ AtJ K C j O H2 σ2 δ' p (n + k * c), ⟨as.length, by omega, Nat.zero_le _, But.refl p H1, by rw [Nat.zero_mul]; exact ⟨x1.at_.weak h0, x1.own, x1.purse, x1.slot⟩⟩, ?_⟩
  rintro k m σ2 H2 ⟨rfl, hk, s2, x2⟩
  by_cases hlt : k < as.length
  · have hia : as[k]? = some as[k] := by simp [hlt]
    have hb : (k + 1) * c ≤ as.length * c := Nat.mul_le_mul_right _ hlt
    have hb2 : (k + 1) * c = k * c + c := Nat.succ_mul _ _
    refine .inr ⟨w.go _ k H2 (but_hid s2 x.own) x2.at_.own (by rw [wl]; exact hlt), fun σ3 H3 => k + 1 ≤ as.length ∧ But p H1 H3 ∧ AtJ K C j O H3 σ3 δ' p (n + (k + 1) * c), fun σ3 H3 hN => ⟨_, by omega, rfl, hN⟩, fun y H3 hy => ?_⟩
    obtain ⟨s3, d3⟩ := w.yld _ k H2 y H3 (g0 as[k]) (but_hid s2 x.own) x2.at_.own (by rw [List.getElem?_map, hia]; rfl) hy
    have x3 := x2.same s3
    refine hB as[k] (List.getElem_mem hlt) O (σ2.set r (some y)) H3 p _ ⟨⟨x3.at_.own, x3.at_.env.set r d3⟩, x3.own, x3.purse, by rw [List.getElem?_set_ne hr]; exact x3.slot⟩ (by omega) _ fun σ4 H4 s4 x4 => ?_
    have e : n + k * c + c = n + (k + 1) * c := by omega
    exact ⟨hlt, (s2.trans (But.of s3)).trans s4, by rw [← e]; exact x4⟩
  · have e : k = as.length := by omega
    subst e
    exact .inl ⟨by rw [← wl]; exact w.stop _ H2 (but_hid s2 x.own) x2.at_.own, q σ2 H2 ((But.of s1).trans s2) x2⟩
end
end Zm


set_option Elab.async false
set_option linter.all false
set_option maxRecDepth 100000
set_option maxHeartbeats 4000000
set_option autoImplicit false
namespace Zm
open PySem PySem.Spec L2
/-! ### unpacking of a list; len(set(..)); inserting -/
theorem g_lstT {X : Cx} {pos : Pos} {K : PySem.W.Frag} {es : List Expr} {k n : Nat} {t : TGs} (h : PGs X es t) (hc : X.calm = true := by rfl) (hn : (assignEach es X.env).length = n := by rfl) (hst : (assignEach es X.env).findIdx? (·.1) = none := by rfl) (hK : X.K = K := by rfl) : PG X (.Tuple es k pos) (gLst K n t) := by
  subst hK
  exact pg_lst hc h hn hst
section
variable {K : PySem.W.Frag} {C : Addr} {δ : Dl} {te : TE} {d e : D} {ns : List Int}
theorem ega_lst2 {i j : Nat} : EvGa K C (gLst K 2 (gCons (gName i) (gCons (gName j) gNil))) δ (.lst [d, e]) ((δ.set i (some d)).set j (some e)) := fun O σ H v n hd Q q => by
  obtain ⟨a, xs, rfl, h1, h3⟩ := dat_lst_iff.mp hd
  obtain ⟨x, y, rfl, h4, h5⟩ := dats_two.mp h3
  exact ⟨a, [x, y], rfl, sqL_of h1, rfl, x, [y], rfl, y, [], rfl, rfl, q _ ⟨n.own, (n.env.set i h4).set j h5⟩⟩
theorem sx_asg {g : TG} {δ' : Dl} (h : EvD K C te δ d) (hg : EvGa K C g δ d δ') : StX K C (tAsg te g) δ δ' := fun O σ H n Z q => h O σ H n _ fun v H' s hd => hg O σ H' v (n.same s) hd _ fun σ' n' => q σ' H' s n'
theorem ev_lenSet (h : EvD K C te δ (.lst (dI ns))) (nd : ns.Nodup) (hl : ns.length ≤ 4000) : EvD K C (RZ.tLenSetI K te) δ (.int ns.length) := fun O σ H n Q q => h O σ H n _ fun v H' s hd => by
  obtain ⟨a, xs, rfl, h1, h2⟩ := dat_lst_iff.mp hd
  rw [dats_ints.mp h2] at h1
  exact ⟨a, ns, rfl, sqL_of h1, nd, hl, q _ H' s (dat_int.mpr rfl)⟩
end
/-- an order of n blocks -/
def OrdOk (n : Nat) (o : List Int) : Prop := o.length = n ∧ o.Nodup ∧ ∀ x ∈ o, 0 ≤ x ∧ x < n
/-- what xs.insert(i, y) does -/
def rIns : V → List V → Hp → VK → Prop := fun x vs H Q => ∃ (l : Addr) (xs : List V) (i : Int) (y : V), x = .ref l ∧ vs = [.int i, y] ∧ H l = some (.lst xs) ∧ xs.length < sizeLine ∧ 0 ≤ i ∧ i < 2 ^ 63 ∧
    Q .non (upd H l (.lst (xs.take i.toNat ++ [y] ++ xs.drop i.toNat)))
theorem mt_insert' {X : Cx} : MtR X "list.insert" rIns := mt_insert
/-- for item in some: found.insert(draw(purse, len(found) + 1), item) .. return found; purse, some, found, item: slots 0 to 3 -/
theorem sp_shuffle {K : PySem.W.Frag} {C : Addr} {E : XK} {ns : List Int} {N : Nat} (hN : ns.length ≤ N) (hN2 : N ≤ 1000) :
    StP K C (tSeq (tAsg (tLst tNil) (gName 2)) (tSeq (tFor (iList K (tVar 1)) (gName 3) (tDrop (tBM K "list" rIns (tVar 2) (tCons (tCall spDraw [] E (tCons (tVar 0) (tCons (tOp (rI0 fun i j => .int (i + j)) (tCB (fun xs H Q => ∃ p ys, xs = [V.ref p] ∧ (SqL K H p ys ∨ SqT K H p ys) ∧ Q (.int ys.length) H) (tCons (tVar 2) tNil)) (tC (.int 1))) tNil))) (tCons (tVar 3) tNil))))) (tRet (tVar 2))))
      [none, some (.lst (dI ns)), none, none] N (fun d => ∃ o : List Int, d = .lst (dI o) ∧ o.Perm ns) := by
  intro O σ H p n x hn Z q
  obtain ⟨v1, hv1, hd1⟩ := x.at_.env.2 1 _ rfl
  obtain ⟨a, xs, rfl, ha, hxs⟩ := dat_lst_iff.mp hd1
  rw [dats_ints.mp hxs] at ha
  have hl : σ.length = 4 := x.at_.env.1
  refine ⟨by show 0 ≤ sizeLine; decide, fun l fr => ?_⟩
  have lp : l ≠ p := fun z => by
    rw [z] at fr
    exact x.purse.some fr
  have ha' := hid_same _ _ ha
  have al : a ≠ l := ne_of_none ha' fr
  have ap : a ≠ p := fun z => by
    rw [z] at ha
    unfold hid at ha
    rw [if_pos x.own] at ha
    cases ha
  refine ⟨.ref a, by rw [List.getElem?_set_ne (by decide)]; exact hv1, a, rfl, ⟨_, SqL.of (by rw [upd_ne al]; exact ha')⟩, ?_⟩
  refine ⟨fun k m σ' H' => m = ns.length - k ∧ k ≤ ns.length ∧ But p H H' ∧ PurseIs (n + k) H' p ∧ σ'.length = 4 ∧ σ'[0]? = some (some (.ref p)) ∧ σ'[2]? = some (some (.ref l)) ∧ ∃ acc : List Int, H' l = some (.lst (acc.map V.int)) ∧ acc.Perm (ns.take k),
    ⟨ns.length, by omega, Nat.zero_le _, But.of (same_new fr), x.purse.same (same_new fr), by rw [List.length_set, hl], by rw [List.getElem?_set_ne (by decide)]; exact x.slot, List.getElem?_set_self (by rw [hl]; decide), [], upd_same, by rw [List.take_zero]⟩, ?_⟩
  rintro k m σ' H' ⟨rfl, hk, b', pu, hl', s0, s2, acc, hacc, perm⟩
  have ha2 : H' a = some (.lst (ns.map V.int)) := b' a _ ap ha'
  have lacc : acc.length = k := by rw [perm.length_eq, List.length_take, Nat.min_eq_left hk]
  by_cases hlt : k < ns.length
  · have hx : (ns.map V.int)[k]? = some (.int ns[k]) := by rw [List.getElem?_map, List.getElem?_eq_getElem hlt]; rfl
    refine .inr ⟨⟨_, .int ns[k], .inl (.inl ha2), hx⟩, fun σ2 H2 => k + 1 ≤ ns.length ∧ But p H H2 ∧ PurseIs (n + (k + 1)) H2 p ∧ σ2.length = 4 ∧ σ2[0]? = some (some (.ref p)) ∧ σ2[2]? = some (some (.ref l)) ∧ ∃ acc : List Int, H2 l = some (.lst (acc.map V.int)) ∧ acc.Perm (ns.take (k + 1)),
      fun σ2 H2 hN => ⟨_, by omega, rfl, hN⟩, fun y H2 hy => ?_⟩
    obtain ⟨rfl, hy⟩ := hy
    have ey := hy _ (.inl (.inl ha2))
    rw [hx] at ey
    cases ey
    have t0 : (σ'.set 3 (some (V.int ns[k])))[0]? = some (some (.ref p)) := by rw [List.getElem?_set_ne (by decide)]; exact s0
    have t2 : (σ'.set 3 (some (V.int ns[k])))[2]? = some (some (.ref l)) := by rw [List.getElem?_set_ne (by decide)]; exact s2
    have t3 : (σ'.set 3 (some (V.int ns[k])))[3]? = some (some (.int ns[k])) := List.getElem?_set_self (by rw [hl']; decide)
    refine ⟨.ref l, t2, .inl ⟨rfl, _, .inl (.inl hacc)⟩, .ref p, t0, .ref l, t2, l, acc.map V.int, rfl, .inl (SqL.of hacc), _, _, rfl, rfl, ?_⟩
    rw [List.length_map, lacc]
    refine ⟨p, n + k, (k : Int) + 1, rfl, pu, by omega, by omega, by omega, fun i H3 i0 i1 b3 pu3 => ⟨.int ns[k], t3, l, acc.map V.int, i, .int ns[k], rfl, rfl, b3 _ _ lp hacc, ?_, i0, by omega, hlt, ?_, ?_, by rw [List.length_set, hl'], t0, t2, acc.take i.toNat ++ [ns[k]] ++ acc.drop i.toNat, ?_, ?_⟩⟩
    · rw [List.length_map, lacc]
      exact Nat.lt_of_lt_of_le (by omega : k < 1000) (by decide)
    · exact fun c u nc e => by rw [upd_ne (ne_of_none e fr)]; exact b3 c u nc (b' c u nc e)
    · exact pu3.upd lp
    · rw [upd_same]
      simp only [List.map_append, List.map_take, List.map_drop, List.map_cons, List.map_nil]
    · have e1 : (acc.take i.toNat ++ [ns[k]] ++ acc.drop i.toNat).Perm (ns[k] :: acc) := by
        rw [List.append_assoc]
        have z : (acc.take i.toNat ++ ns[k] :: acc.drop i.toNat).Perm (ns[k] :: (acc.take i.toNat ++ acc.drop i.toNat)) := List.perm_middle
        rw [List.take_append_drop] at z
        exact z
      rw [List.take_succ_eq_append_getElem hlt]
      exact e1.trans ((perm.cons _).trans (List.perm_append_comm (l₁ := [ns[k]]) (l₂ := ns.take k)))
  · have e : k = ns.length := by omega
    subst e
    refine .inl ⟨⟨_, SqL.of ha2, by rw [List.length_map]; exact Nat.le_refl _⟩, .ref l, s2, ?_⟩
    rw [List.take_length] at perm
    refine q (.ref l) H' (.lst (dI acc)) b' (pu.mono (by omega)) ⟨acc, rfl, perm⟩ (dat_lst_iff.mpr ⟨l, _, rfl, ?_, dats_ints.mpr rfl⟩)
    unfold hid
    rw [if_neg (fun z => x.at_.own l z fr)]
    exact hacc
end Zm


set_option Elab.async false
set_option linter.all false
set_option maxRecDepth 100000
set_option maxHeartbeats 4000000
set_option autoImplicit false
namespace Zm
open PySem PySem.Spec L2
/-! ### more statements that draw -/
section
variable {K : PySem.W.Frag} {C : Addr} {δ δ' : Dl} {ta tb te : TE} {tr ta2 : TA} {R R1 R2 : D → Prop} {c c1 c2 : Nat} {ts ts' ts2 : TS} {tt : TT}
theorem sp_par2 {i j : Nat} (hi : i ≠ 0) (hj : j ≠ 0) (h : EvPA K C ta2 δ c1 (fun ds => ∃ a b, ds = [a, b] ∧ R1 a ∧ R2 b)) (g : ∀ a b, R1 a → R2 b → StP K C ts ((δ.set i (some a)).set j (some b)) c2 R) :
    StP K C (tSeq (tPar i j ta2) ts) δ (c1 + c2) R := fun O σ H p n x hn Z q => h O σ H p n x (by omega) _ fun vs H' ds s pu r hd => by
  obtain ⟨a, b, rfl, r1, r2⟩ := r
  obtain ⟨v, w, rfl, h1, h2⟩ := dats_two.mp hd
  have x1 := x.but s pu
  have e : n + c1 + c2 = n + (c1 + c2) := by omega
  refine ⟨v, w, rfl, g a b r1 r2 O _ H' p _ ⟨⟨x1.at_.own, (x1.at_.env.set i h1).set j h2⟩, x1.own, x1.purse, ?_⟩ (by omega) Z fun v2 H2 d2 s2 p2 r2 hd2 => q v2 H2 d2 (s.trans s2) (by rw [← e]; exact p2) r2 hd2⟩
  rw [List.getElem?_set_ne hj, List.getElem?_set_ne hi]
  exact x1.slot
/-- if b: ..; rest -/
theorem sp_if2 {b : Bool} (h : EvT K C tt δ b) (h1 : b = true → StP K C (tSeq ts ts') δ c R) (h2 : b = false → StP K C ts' δ c R) : StP K C (tSeq (tIfS tt ts tNext) ts') δ c R := fun O σ H p n x hn Z q => h O σ H x.at_ _ fun H' s => by
  have x' := x.but (But.of s) (x.purse.same s)
  cases b with
  | true => exact h1 rfl O σ H' p _ x' hn Z fun v H2 d s2 p2 r hd => q v H2 d ((But.of s).trans s2) p2 r hd
  | false => exact h2 rfl O σ H' p _ x' hn Z fun v H2 d s2 p2 r hd => q v H2 d ((But.of s).trans s2) p2 r hd
theorem sp_assoc (h : StP K C (tSeq ts (tSeq ts' ts2)) δ c R) : StP K C (tSeq (tSeq ts ts') ts2) δ c R := h
theorem sp_weak (h : StP K C ts δ' c R) (l : LeD δ' δ) : StP K C ts δ c R := fun O σ H p n x hn Z q => h O σ H p n ⟨x.at_.weak l, x.own, x.purse, x.slot⟩ hn Z q
/-- .. what follows is shown once -/
theorem sp_if2T {δt : Dl} {b : Bool} (l : LeD δt δ) (hc : c2 ≤ c) (h : EvT K C tt δ b) (tail : StP K C ts' δt c2 R) (h1 : b = true → StP K C ts' δt c2 R → StP K C (tSeq ts ts') δ c R) : StP K C (tSeq (tIfS tt ts tNext) ts') δ c R :=
  sp_if2 h (fun e => h1 e tail) (fun _ => sp_imp (sp_weak tail l) (fun d h => h) hc)
end
section
variable {K : PySem.W.Frag} {C : Addr} {j i r c c1 c2 c3 n m : Nat} {O : Addr → Bool} {H H' : Hp} {σ : L2.St} {δ δ' δ2 : Dl} {p : Addr} {te ta tb : TE} {t u : TT} {ts ts' : TS} {tr : TA} {d : D} {ds : List D} {R R1 R2 : D → Prop} {b : Bool}
theorem sj_setJ (hi : i ≠ j) (h : EvJ K C j te δ c1 R) (g : ∀ d, R d → StJ K C j ts' (δ.set i (some d)) δ' c2) : StJ K C j (tSeq (tAsg te (gName i)) ts') δ δ' (c1 + c2) := fun O σ H p n x hn Z q => h O σ H p n x (by omega) _ fun v H1 d s1 p1 r1 hd => by
  have x1 := x.but s1 p1
  have e : n + c1 + c2 = n + (c1 + c2) := by omega
  exact g d r1 O _ H1 p _ ⟨⟨x1.at_.own, x1.at_.env.set i hd⟩, x1.own, x1.purse, by rw [List.getElem?_set_ne hi]; exact x1.slot⟩ (by omega) Z fun σ' H' s' y => q σ' H' (s1.trans s') (by rw [← e]; exact y)
theorem ej_imp (h : EvJ K C j te δ c R) (g : ∀ d, R d → R1 d) (hc : c ≤ c1) : EvJ K C j te δ c1 R1 := fun O σ H p n x hn Q q => h O σ H p n x (by omega) Q fun v H' d s pu r hd => q v H' d s (pu.mono (by omega)) (g d r) hd
/-- a wholly new thing made of a drawn one -/
theorem ej_callF {pre : List D → Prop} {f : List D → D} {E : XK} (h : EvJ K C j te δ c R1) (hp : ∀ d, R1 d → pre [d]) : EvJ K C j (tCall (SpF K C pre f 1) [] E (tCons te tNil)) δ c (fun z => ∃ d, R1 d ∧ z = f [d]) := fun O σ H p n x hn Q q => h O σ H p n x hn _ fun v H1 d s1 p1 r1 hd => by
  show SpF K C pre f 1 ([v] ++ []) H1 Q E
  have o1 := but_own x.at_.own s1 p1
  exact ⟨rfl, O, [d], o1, .one hd, hp d r1, fun w H2 s2 d2 => q w H2 (f [d]) (s1.trans (But.of s2)) (p1.same s2) ⟨d, r1, rfl⟩ (d2.same (dom_own o1))⟩
/-- a comprehension over range(n) whose elements draw -/
theorem ej_lc {Re : D → Prop} {N : Nat} {k : Int} {vs : List Nat} (hk : k = (N : Int)) (h : EvD K C ta δ (.int k)) (h0 : j ∉ vs) (hi : i ∈ vs) (hN2 : N ≤ 1000)
    (hE : ∀ a : Nat, a < N → EvJ K C j te ((wipeD δ vs).set i (some (.int (0 + (a : Int))))) c Re) : EvJ K C j (tLc (iRng1 (tCons ta tNil)) (gName i) tYes te vs) δ (N * c) (fun d => ∃ ds, d = .lst ds ∧ ds.length = N ∧ ∀ e ∈ ds, Re e) := fun O σ H p n x hn Q q => by
  subst hk
  refine ei_rng1 (ea_cons h ea_nil) (by omega) (by omega) O σ H x.at_ _ fun J H1 s1 w Da hD => ?_
  have x1 := x.same s1
  have np : Da ≠ p := fun z => by rw [z] at hD; exact x1.purse.some hD
  have wl : (rngD 0 (N : Int).toNat).length = N := by unfold rngD; rw [List.length_map, List.length_range]; omega
  have key : ∀ H2, But p H1 H2 → Same (hid O H1) (hid (addO O Da) H2) := fun H2 s => (add_fresh hD).trans (but_hid s (by unfold addO; rw [x.own]; rfl))
  have opx : addO O Da p = true := by unfold addO; rw [x.own]; rfl
  refine ⟨fun i m H2 => m = N - i ∧ i ≤ N ∧ But p H1 H2 ∧ PurseIs (n + i * c) H2 p ∧ ∃ acc ds, H2 Da = some (.lst acc) ∧ ds.length = i ∧ (∀ e ∈ ds, Re e) ∧ Dats K C (hid (addO O Da) H2) ds acc,
    ⟨N, by omega, Nat.zero_le _, But.of (same_new hD), by rw [Nat.zero_mul]; exact x1.purse.same (same_new hD), [], [], upd_same, rfl, fun e h => (by cases h), .nil⟩, ?_⟩
  rintro a m H2 ⟨rfl, hi2, s2, p2, acc, ds, ha, hln, hall, hacc⟩
  have o2 : OIn (addO O Da) H2 := (but_own x1.at_.own s2 p2).add ⟨_, ha, trivial⟩
  by_cases hlt : a < N
  · have hia : (rngD 0 (N : Int).toNat)[a]? = some (.int (0 + (a : Int))) := by
      unfold rngD
      rw [List.getElem?_map, List.getElem?_range (by omega)]
      rfl
    have hb : (a + 1) * c ≤ N * c := Nat.mul_le_mul_right _ (by omega)
    have hb2 : (a + 1) * c = a * c + c := Nat.succ_mul _ _
    refine .inr ⟨w.go _ a H2 (key H2 s2) o2 (by rw [wl]; exact hlt), fun H3 => a + 1 ≤ N ∧ But p H1 H3 ∧ PurseIs (n + (a + 1) * c) H3 p ∧ ∃ acc ds, H3 Da = some (.lst acc) ∧ ds.length = a + 1 ∧ (∀ e ∈ ds, Re e) ∧ Dats K C (hid (addO O Da) H3) ds acc,
      fun H' hN => ⟨_, by omega, rfl, hN⟩, fun y H3 hy => ?_⟩
    obtain ⟨s3, d3⟩ := w.yld _ a H2 y H3 _ (key H2 s2) o2 hia hy
    have s13 := s2.trans (But.of s3)
    have n3 : At K C (addO O Da) H3 (L2.wipe σ vs) (wipeD δ vs) := ⟨o2.same s3, (x1.at_.env.same (key H3 s13)).wipe vs⟩
    refine eg_name hi _ _ _ _ n3 d3 _ fun σ4 hw n4 => ⟨by rw [hw, wipe_wipe], ?_⟩
    have slot4 : σ4[j]? = some (some (.ref p)) := by
      have e1 := congrArg (fun s : L2.St => s[j]?) hw
      simp only [wipe_get] at e1
      rw [if_neg (fun q => h0 q.1), if_neg (fun q => h0 q.1), if_neg (fun q => h0 q.1)] at e1
      rw [e1]
      exact x.slot
    have x4 : AtJ K C j (addO O Da) H3 σ4 _ p (n + a * c) := ⟨n4, opx, p2.same s3, slot4⟩
    unfold tYes
    refine iteT (hE a hlt _ _ _ _ _ x4 (by omega) _ fun v H6 d6 s6 p6 r6 hd6 => ?_)
    have s26 : But p H2 H6 := (But.of s3).trans s6
    refine ⟨acc, s26 _ _ np ha, Nat.lt_of_le_of_lt (by rw [hacc.length, hln]; omega : acc.length ≤ 1000) (by decide), hlt, fun b u nb eb => ?_, (p6.mono (by omega)).upd np, _, ds ++ [d6], upd_same, by rw [List.length_append, hln]; rfl, fun e he => ?_, ?_⟩
    · rw [upd_ne (ne_of_none eb hD)]
      exact s2.trans s26 b u nb eb
    · rcases List.mem_append.mp he with he | he
      · exact hall e he
      · rw [List.mem_singleton.mp he]
        exact r6
    · rw [add_upd]
      exact (hacc.same (but_hid s26 opx)).append (.one hd6)
  · have e : a = N := by omega
    subst e
    refine .inl ⟨by rw [← wl]; exact w.stop _ H2 (key H2 s2) o2, ?_⟩
    refine q _ _ (.lst ds) ((But.of s1).trans s2) p2 ⟨ds, rfl, hln, hall⟩ (dat_lst_iff.mpr ⟨Da, acc, rfl, ?_, hacc.same add_le⟩)
    unfold hid
    rw [if_neg (fun z => x1.at_.own Da z hD)]
    exact ha
/-- a loop whose target is of the slots vs -/
theorem sj_forG {α : Type} {as : List α} {g0 : α → D} {δi : α → Dl} {wi : TI} {g : TG} {tb : TS} {vs : List Nat} (hr : j ∉ vs) (hI : EvI K C wi δ (as.map g0)) (h0 : LeD δ' δ) (hG : ∀ a ∈ as, EvG K C g vs δ' (g0 a) (δi a)) (hB : ∀ a ∈ as, StJ K C j tb (δi a) δ' c) : StJ K C j (tFor wi g tb) δ δ' (as.length * c) := fun O σ H p n x hn Z q => hI O σ H x.at_ _ fun J H1 s1 w => by
  have x1 := x.same s1
  have wl : (as.map g0).length = as.length := List.length_map _
  refine ⟨fun k m σ2 H2 => m = as.length - k ∧ k ≤ as.length ∧ But p H1 H2 ∧ AtJ K C j O H2 σ2 δ' p (n + k * c), ⟨as.length, by omega, Nat.zero_le _, But.refl p H1, by rw [Nat.zero_mul]; exact ⟨x1.at_.weak h0, x1.own, x1.purse, x1.slot⟩⟩, ?_⟩
  rintro k m σ2 H2 ⟨rfl, hk, s2, x2⟩
  by_cases hlt : k < as.length
  · have hia : as[k]? = some as[k] := by simp [hlt]
    have hmem : as[k] ∈ as := List.getElem_mem hlt
    have hb : (k + 1) * c ≤ as.length * c := Nat.mul_le_mul_right _ hlt
    have hb2 : (k + 1) * c = k * c + c := Nat.succ_mul _ _
    refine .inr ⟨w.go _ k H2 (but_hid s2 x.own) x2.at_.own (by rw [wl]; exact hlt), fun σ3 H3 => k + 1 ≤ as.length ∧ But p H1 H3 ∧ AtJ K C j O H3 σ3 δ' p (n + (k + 1) * c), fun σ3 H3 hN => ⟨_, by omega, rfl, hN⟩, fun y H3 hy => ?_⟩
    obtain ⟨s3, d3⟩ := w.yld _ k H2 y H3 (g0 as[k]) (but_hid s2 x.own) x2.at_.own (by rw [List.getElem?_map, hia]; rfl) hy
    have x3 := x2.same s3
    refine hG _ hmem _ _ _ _ x3.at_ d3 _ fun σ4 hw n4 => ?_
    have slot4 : σ4[j]? = some (some (.ref p)) := by
      have e1 := congrArg (fun s : L2.St => s[j]?) hw
      simp only [wipe_get] at e1
      rw [if_neg (fun q => hr q.1), if_neg (fun q => hr q.1)] at e1
      rw [e1]
      exact x2.slot
    refine hB as[k] hmem O σ4 H3 p _ ⟨n4, x3.own, x3.purse, slot4⟩ (by omega) _ fun σ5 H5 s5 x5 => ?_
    have e : n + k * c + c = n + (k + 1) * c := by omega
    exact ⟨hlt, (s2.trans (But.of s3)).trans s5, by rw [← e]; exact x5⟩
  · have e : k = as.length := by omega
    subst e
    exact .inl ⟨by rw [← wl]; exact w.stop _ H2 (but_hid s2 x.own) x2.at_.own, q σ2 H2 ((But.of s1).trans s2) x2⟩
end
end Zm


set_option Elab.async false
set_option linter.all false
set_option maxRecDepth 100000
set_option maxHeartbeats 4000000
set_option autoImplicit false
namespace Zm
open PySem PySem.Spec L2
/-! ### sorted(xs), xs a list of alike data -/
def rSortedD (K : PySem.W.Frag) : List V → Hp → VK → Prop := fun vs H Q => ∃ (a : Addr) (bs : List (V × PyData)), vs = [V.ref a] ∧ SqL K H a (bs.map (·.1)) ∧ (∀ b ∈ bs, Dp K H b.1 b.2) ∧ PySem.W.AllAlike (bs.map (·.2)) ∧ PySem.W.Sortable (bs.map (·.2)) ∧ bs.length ≤ 100000 ∧ (∀ b ∈ bs, b.2.depth ≤ 60) ∧
  ∀ p, H p = none → Q (.ref p) (upd H p (.lst ((bs.mergeSort (PySem.W.dataLe false (·.2))).map (·.1))))
theorem each_vals : ∀ {us : List Value} {bs : List (V × PyData)}, PySem.W.EachIs (fun u b => RelV b.1 u) us bs → Vals (bs.map (·.1)) us
  | _, _, .nil => .nil
  | _, _, .cons h t => .cons h (each_vals t)
theorem vals_each : ∀ {us : List Value} {bs : List (V × PyData)}, Vals (bs.map (·.1)) us → PySem.W.EachIs (fun u b => RelV b.1 u) us bs
  | us, [], h => by
    cases h
    exact .nil
  | us, b :: bs, h => by
    cases h with
    | cons r t => exact .cons r (vals_each t)
theorem cr_sortedD {X : Cx} (hu : X.A.units + 64 < cLine) : CallR X (.builtin "sorted") (rSortedD X.K) := by
  intro pins s σ H vs us Q I r h
  obtain ⟨a, bs, rfl, hs, hd, hal, hso, hl, hdp, q⟩ := h
  obtain ⟨its, rv, pl, hz⟩ := I.list hs
  obtain ⟨u, rfl, ru⟩ := vals1 r
  obtain rfl : u = Value.ref a := ru
  have e := vals_each rv
  have er : PySem.W.EachIs (fun v b => ∃ as, PySem.Reads s.heap v ((fun b : V × PyData => b.2) b) as) its bs := by
    have key : ∀ {us : List Value} {cs : List (V × PyData)}, (∀ b ∈ cs, Dp X.K H b.1 b.2) → PySem.W.EachIs (fun u b => RelV b.1 u) us cs → PySem.W.EachIs (fun v b => ∃ as, PySem.Reads s.heap v ((fun b : V × PyData => b.2) b) as) us cs := by
      intro us cs hc ec
      induction ec with
      | nil => exact .nil
      | cons h t ih => exact .cons (Dp.reads I _ _ _ (hc _ (List.mem_cons_self ..)) h) (ih fun b hb => hc b (List.mem_cons_of_mem _ hb))
    exact key hd e
  refine PySem.W.sorted_data (enc := fun b : V × PyData => b.2) (R := fun u b => RelV b.1 u) pl.isList e er hal hso (Nat.le_trans hl (by decide)) (fun b hb => by have := hdp b hb; omega) fun out ho eo => ?_
  have hn : H (s.heap.objs.size + 1) = none := I.hok.fresh (Nat.le_succ _)
  have hlen : out.length ≤ sizeLine := by
    rw [ho]
    exact Nat.le_trans hl (by decide)
  obtain ⟨n, hat⟩ := PyProof.Rows.sortedAll_at s.heap its out.toArray
  refine ⟨.ref (s.heap.objs.size + 1), upd H (s.heap.objs.size + 1) (.lst ((bs.mergeSort (PySem.W.dataLe false (·.2))).map (·.1))), I.laid (t' := s.toks) (fun b o e => PyProof.Rows.sortedAll_old e) (Nat.le_succ _) ⟨?_, out, n, each_vals eo, hat⟩, rfl, q _ hn⟩
  rw [List.length_map, List.length_mergeSort]
  exact Nat.le_trans hl (by decide)
/-! by data -/
def rowLe (p q : List Int) : Bool := decide (p ≤ q)
section
variable {K : PySem.W.Frag} {C : Addr}
theorem dats_zip {H : Hp} : ∀ {rows : List (List Int)} {xs : List V}, Dats K C H (rows.map fun r => D.lst (dI r)) xs → ∃ bs : List (V × List Int), bs.map (·.1) = xs ∧ bs.map (·.2) = rows ∧ ∀ b ∈ bs, Dat K C H (.lst (dI b.2)) b.1
  | [], xs, h => ⟨[], (dats_nil.mp h).symm, rfl, fun b hb => by cases hb⟩
  | r :: rows, xs, h => by
    obtain ⟨x, ys, rfl, h1, h2⟩ := dats_cons.mp h
    obtain ⟨bs, e1, e2, h3⟩ := dats_zip h2
    refine ⟨(x, r) :: bs, by rw [List.map_cons, e1], by rw [List.map_cons, e2], fun b hb => ?_⟩
    rcases List.mem_cons.mp hb with e | hb
    · rw [e]
      exact h1
    · exact h3 b hb
theorem zip_dats {H : Hp} : ∀ {bs : List (V × List Int)}, (∀ b ∈ bs, Dat K C H (.lst (dI b.2)) b.1) → Dats K C H ((bs.map (·.2)).map fun r => D.lst (dI r)) (bs.map (·.1))
  | [], _ => .nil
  | b :: bs, h => .cons (h b (List.mem_cons_self ..)) (zip_dats fun c hc => h c (List.mem_cons_of_mem _ hc))
theorem toPys_dI : ∀ ns : List Int, toPys (dI ns) = ns.map .int
  | [] => by
    unfold dI List.map toPys
    rfl
  | n :: ns => by
    show toPys (.int n :: dI ns) = .int n :: ns.map .int
    unfold toPys
    rw [toPys_dI ns]
    unfold toPy
    rfl
def rowPy (r : List Int) : PyData := .list (r.map .int)
theorem toPy_row (r : List Int) : toPy (.lst (dI r)) = rowPy r := by
  unfold toPy rowPy
  rw [toPys_dI]
/-- sorted(rows), rows of ints -/
theorem rn_sortedRows {rows : List (List Int)} (hl : rows.length ≤ 100000) : RCN K C (rSortedD K) [rowsL rows] (rowsL (rows.mergeSort rowLe)) := fun O H vs o h Q q => by
  obtain ⟨x, rfl, hx⟩ := dats_one.mp h
  obtain ⟨a, xs, rfl, h1, h2⟩ := dat_lst_iff.mp hx
  obtain ⟨bs, e1, e2, h3⟩ := dats_zip h2
  have em : bs.length = rows.length := by rw [← e2, List.length_map]
  refine ⟨a, bs.map fun b => (b.1, rowPy b.2), rfl, ?_, fun b hb => ?_, ?_, ?_, by rw [List.length_map, em]; exact hl, fun b hb => ?_, fun p hp => ?_⟩
  · rw [List.map_map]
    have : ((fun b : V × PyData => b.1) ∘ fun b : V × List Int => (b.1, rowPy b.2)) = fun b => b.1 := rfl
    rw [this, e1]
    exact sqL_of h1
  · obtain ⟨c, hc, rfl⟩ := List.mem_map.mp hb
    have := dp_of (K := K) (C := C) (O := O) (H := H) (.lst (dI c.2)) c.1 (shN_lst (n := 0) shN_dI).1 (h3 c hc)
    rwa [toPy_row] at this
  · rw [List.map_map]
    exact PySem.W.AllAlike.of (enc := fun b : V × List Int => rowPy b.2) fun b b' => by
      show PySem.W.alike (.list _) (.list _) = true
      unfold PySem.W.alike
      exact PySem.W.alike_ints _ _
  · rw [List.map_map]
    exact PySem.W.Sortable.others (enc := fun b : V × List Int => rowPy b.2) fun b => ⟨fun z => (by cases z), fun xs z => (by cases z)⟩
  · obtain ⟨c, hc, rfl⟩ := List.mem_map.mp hb
    show PyData.depth (.list (c.2.map .int)) ≤ 60
    unfold PyData.depth
    rw [PySem.W.depth_ints]
    decide
  · have es : ((bs.map fun b => (b.1, rowPy b.2)).mergeSort (PySem.W.dataLe false (·.2))) = (bs.mergeSort fun p q => rowLe p.2 q.2).map fun b => (b.1, rowPy b.2) := by
      refine (List.map_mergeSort fun a ha b hb => ?_).symm
      have := congrFun (congrFun (PySem.W.dataLe_rows (fun b : V × List Int => b.2)) a) b
      exact this.symm
    have er : (bs.mergeSort fun p q => rowLe p.2 q.2).map (·.2) = rows.mergeSort rowLe := by
      rw [← e2]
      exact List.map_mergeSort fun a ha b hb => rfl
    rw [es, List.map_map]
    refine q p _ (same_new hp) hp (dat_lst_iff.mpr ⟨p, _, rfl, hid_new o hp, ?_⟩)
    rw [← er]
    have := zip_dats (K := K) (C := C) (H := hid O H) (bs := bs.mergeSort fun p q => rowLe p.2 q.2) fun b hb => h3 b ((List.mergeSort_perm _ _).mem_iff.mp hb)
    exact this.same (same_hid (same_new hp))
end
section
variable {X : Cx} {e : Expr} {es : List Expr} {t : TA} {p pos : Pos}
theorem c_sortedD {K : PySem.W.Frag} (b : BFree X.mg) (hu : X.A.units + 64 < cLine) (ha : PA X (e :: es) t) (hg : Gl X "sorted" := by rfl) (hK : X.K = K := by rfl)
    (he : starEach (e :: es) X.env = (false, eval e X.env) :: starEach es X.env := by rfl) (hpl : (backTo pos (starEach es X.env)).any (·.1) = false := by rfl) :
    PE X (.Call (.Name "sorted" p) (e :: es) [] pos) (tCB (rSortedD K) t) := by
  subst hK
  exact pe_callB (cr_sortedD hu) hg (b _ (by decide)) (by decide +kernel) ha (he := he) (hpl := hpl)
end
end Zm


set_option Elab.async false
set_option linter.all false
set_option maxRecDepth 100000
set_option maxHeartbeats 4000000
set_option autoImplicit false
namespace Zm
open PySem PySem.Spec L2 PyProof.Rows
/-! ### laying small hashes -/
def Sm (h : Int) : Prop := 0 ≤ h ∧ h < 8
theorem bits_sm {h : Int} (s : Sm h) : SetTable.bits h = h.toNat := by
  obtain ⟨h0, h1⟩ := s
  unfold SetTable.bits
  rw [Int.emod_eq_of_lt h0 (by omega)]
/-- owner tells which of hs stands at j -/
def Owns (mask : Nat) (owner : Array (Option Nat)) (hs : List Int) : Prop := owner.size = mask + 1 ∧ ∀ j i : Nat, j ≤ mask → (owner.getD j none = some i ↔ ∃ h, hs[i]? = some h ∧ h.toNat = j)
theorem free_at {mask : Nat} {owner : Array (Option Nat)} {j p f : Nat} (hj : j < owner.size) (h : owner.getD j none = none) : SetTable.layClean.free mask owner (f + 1) j p = some j := by
  unfold SetTable.layClean.free
  have hr : j ≤ SetTable.runEnd mask j := by
    unfold SetTable.runEnd
    split <;> omega
  have e : (SetTable.runEnd mask j + 1 - j) = (SetTable.runEnd mask j - j) + 1 := by omega
  have h2 : (owner.getD (j + 0) (some 0)).isNone = true := by
    rw [Nat.add_zero]
    rw [Array.getD_eq_getD_getElem?, Array.getElem?_eq_getElem hj] at h ⊢
    dsimp only [Option.getD_some] at h ⊢
    rw [h]
    rfl
  have e2 : (List.range (SetTable.runEnd mask j + 1 - j)).find? (fun k => (owner.getD (j + k) (some 0)).isNone) = some 0 := by
    rw [e, List.range_succ_eq_map]
    exact List.find?_cons_of_pos (p := fun k => (owner.getD (j + k) (some 0)).isNone) h2
  rw [e2]
  rfl
theorem lay_fold {mask : Nat} (hm : 7 ≤ mask) : ∀ (hs pre : List Int) (owner : Array (Option Nat)), Owns mask owner pre → (pre ++ hs).Nodup → (∀ h ∈ pre ++ hs, Sm h) →
    ∃ owner', hs.foldl (init := some (owner, pre.length)) (fun acc h => do
      let (owner, k) ← acc
      let j ← SetTable.layClean.free mask owner (SetTable.turns mask) (SetTable.bits h % (mask + 1)) (SetTable.bits h)
      pure (owner.setIfInBounds j (some k), k + 1)) = some (owner', (pre ++ hs).length) ∧ Owns mask owner' (pre ++ hs)
  | [], pre, owner, ow, nd, sm => ⟨owner, by rw [List.append_nil]; rfl, by rw [List.append_nil]; exact ow⟩
  | h :: hs, pre, owner, ow, nd, sm => by
    have s := sm h (by simp)
    have eb : SetTable.bits h % (mask + 1) = h.toNat := by
      rw [bits_sm s]
      exact Nat.mod_eq_of_lt (by have := s.2; have := s.1; omega)
    have hj : h.toNat < owner.size := by rw [ow.1]; have := s.2; have := s.1; omega
    have hno : ∀ x ∈ pre, x ≠ h := fun x hx e => by
      rw [List.nodup_append] at nd
      exact nd.2.2 x hx h (List.mem_cons_self ..) e
    have hn : owner.getD h.toNat none = none := by
      cases e : owner.getD h.toNat none with
      | none => rfl
      | some i =>
        obtain ⟨x, hx, ex⟩ := (ow.2 h.toNat i (by rw [ow.1] at hj; omega)).mp e
        have mx := List.mem_of_getElem? hx
        have sx := sm x (List.mem_append_left _ mx)
        exact absurd (by have := sx.1; have := s.1; omega) (hno x mx)
    have ef : SetTable.layClean.free mask owner (SetTable.turns mask) (SetTable.bits h % (mask + 1)) (SetTable.bits h) = some h.toNat := by
      rw [eb]
      exact free_at hj hn
    have ow' : Owns mask (owner.setIfInBounds h.toNat (some pre.length)) (pre ++ [h]) := by
      refine ⟨by rw [Array.size_setIfInBounds]; exact ow.1, fun j i hj' => ?_⟩
      rw [Array.getD_eq_getD_getElem?, Array.getElem?_setIfInBounds]
      by_cases e : h.toNat = j
      · subst e
        rw [if_pos rfl, if_pos hj]
        dsimp only [Option.getD_some]
        constructor
        · intro z
          cases z
          exact ⟨h, by simp, rfl⟩
        · rintro ⟨x, hx, ex⟩
          by_cases hi : i < pre.length
          · rw [List.getElem?_append_left hi] at hx
            have mx := List.mem_of_getElem? hx
            have sx := sm x (List.mem_append_left _ mx)
            exact absurd (by have := sx.1; have := s.1; omega) (hno x mx)
          · rw [List.getElem?_append_right (by omega)] at hx
            have : i - pre.length = 0 := by
              have := (List.getElem?_eq_some_iff.mp hx).1
              simpa using this
            rw [show i = pre.length by omega]
      · rw [if_neg e, ← Array.getD_eq_getD_getElem?, ow.2 j i hj']
        constructor
        · rintro ⟨x, hx, ex⟩
          exact ⟨x, by rw [List.getElem?_append_left (List.getElem?_eq_some_iff.mp hx).1]; exact hx, ex⟩
        · rintro ⟨x, hx, ex⟩
          by_cases hi : i < pre.length
          · rw [List.getElem?_append_left hi] at hx
            exact ⟨x, hx, ex⟩
          · rw [List.getElem?_append_right (by omega)] at hx
            have h0 : i - pre.length = 0 := by
              have := (List.getElem?_eq_some_iff.mp hx).1
              simpa using this
            rw [h0] at hx
            cases hx
            exact absurd ex e
    have ea : pre ++ h :: hs = (pre ++ [h]) ++ hs := by simp
    obtain ⟨o', e1, e2⟩ := lay_fold hm hs (pre ++ [h]) _ ow' (by rw [← ea]; exact nd) (by rw [← ea]; exact sm)
    refine ⟨o', ?_, by rw [ea]; exact e2⟩
    rw [List.foldl_cons, ea]
    have e3 : (do
      let (owner, k) ← (some (owner, pre.length) : Option (Array (Option Nat) × Nat))
      let j ← SetTable.layClean.free mask owner (SetTable.turns mask) (SetTable.bits h % (mask + 1)) (SetTable.bits h)
      pure (owner.setIfInBounds j (some k), k + 1)) = some (owner.setIfInBounds h.toNat (some pre.length), (pre ++ [h]).length) := by
      show (SetTable.layClean.free mask owner (SetTable.turns mask) (SetTable.bits h % (mask + 1)) (SetTable.bits h)).bind _ = _
      rw [ef, List.length_append]
      rfl
    rw [e3]
    exact e1
theorem lay_clean {mask : Nat} (hm : 7 ≤ mask) {hs : Array Int} (nd : hs.toList.Nodup) (sm : ∀ h ∈ hs.toList, Sm h) : ∃ owner, SetTable.layClean mask hs = some owner ∧ Owns mask owner hs.toList := by
  have ow : Owns mask (Array.replicate (mask + 1) none) [] := ⟨Array.size_replicate, fun j i hj => by
    rw [Array.getD_eq_getD_getElem?, Array.getElem?_replicate]
    rw [if_pos (by omega)]
    simp⟩
  obtain ⟨o, e1, e2⟩ := lay_fold hm hs.toList [] _ ow (by simpa using nd) (by simpa using sm)
  refine ⟨o, ?_, by simpa using e2⟩
  unfold SetTable.layClean
  rw [← Array.foldl_toList]
  rw [List.length_nil] at e1
  rw [e1]
  rfl
theorem live_order (f : Nat → Option Nat) : ∀ l : List Nat, l.Nodup → (∀ j ∈ l, ∀ j' ∈ l, ∀ i, f j = some i → f j' = some i → j = j') →
    ((l.filterMap fun j => (f j).map (j, ·)).map (·.2)).Nodup ∧ ∀ i, i ∈ (l.filterMap fun j => (f j).map (j, ·)).map (·.2) ↔ ∃ j ∈ l, f j = some i
  | [], _, _ => ⟨List.nodup_nil, fun i => by simp⟩
  | j :: l, nd, inj => by
    rw [List.nodup_cons] at nd
    obtain ⟨i1, i2⟩ := live_order f l nd.2 fun a ha b hb => inj a (List.mem_cons_of_mem _ ha) b (List.mem_cons_of_mem _ hb)
    cases hf : f j with
    | none =>
      have e : ((j :: l).filterMap fun j => (f j).map (j, ·)) = l.filterMap fun j => (f j).map (j, ·) := List.filterMap_cons_none (by simp [hf])
      rw [e]
      refine ⟨i1, fun i => (i2 i).trans ?_⟩
      simp [hf]
    | some k =>
      have e : ((j :: l).filterMap fun j => (f j).map (j, ·)) = (j, k) :: l.filterMap fun j => (f j).map (j, ·) := List.filterMap_cons_some (by simp [hf])
      rw [e, List.map_cons]
      refine ⟨List.nodup_cons.mpr ⟨fun z => ?_, i1⟩, fun i => ?_⟩
      · obtain ⟨j', hj', e'⟩ := (i2 k).mp z
        have := inj j (List.mem_cons_self ..) j' (List.mem_cons_of_mem _ hj') k hf e'
        rw [this] at nd
        exact nd.1 hj'
      · rw [List.mem_cons, i2]
        constructor
        · rintro (z | ⟨j', h1, h2⟩)
          · exact ⟨j, List.mem_cons_self .., by rw [hf, z]⟩
          · exact ⟨j', List.mem_cons_of_mem _ h1, h2⟩
        · rintro ⟨j', h1, h2⟩
          rcases List.mem_cons.mp h1 with z | z
          · rw [z, hf] at h2
            cases h2
            exact .inl rfl
          · exact .inr ⟨j', z, h2⟩
theorem laid_sm {mask f m : Nat} {led plain : Bool} (hm : 7 ≤ mask) {hs : Array Int} (nd : hs.toList.Nodup) (sm : ∀ h ∈ hs.toList, Sm h) (hl : hs.size ≤ mask) :
    ∃ t order, SetTable.laid mask f m led plain hs = some (t, order) ∧ order.toList.Perm (List.range hs.size) ∧ t.fits hs.size = true ∧ Ris t.place.toList ∧ t.led = led ∧ t.mask = mask ∧ t.dummies = #[] := by
  obtain ⟨owner, e, ow⟩ := lay_clean hm nd sm
  have inj : ∀ j ∈ List.range (mask + 1), ∀ j' ∈ List.range (mask + 1), ∀ i, owner.getD j none = some i → owner.getD j' none = some i → j = j' := fun j hj j' hj' i h1 h2 => by
    obtain ⟨x, hx, ex⟩ := (ow.2 j i (by have := List.mem_range.mp hj; omega)).mp h1
    obtain ⟨y, hy, ey⟩ := (ow.2 j' i (by have := List.mem_range.mp hj'; omega)).mp h2
    rw [hx] at hy
    cases hy
    rw [← ex, ← ey]
  obtain ⟨n1, n2⟩ := live_order (fun j => owner.getD j none) (List.range (mask + 1)) List.nodup_range inj
  have pm : (((List.range (mask + 1)).filterMap fun j => (owner.getD j none).map (j, ·)).map (·.2)).Perm (List.range hs.size) := by
    refine (List.perm_ext_iff_of_nodup n1 List.nodup_range).mpr fun i => ?_
    rw [n2, List.mem_range]
    constructor
    · rintro ⟨j, hj, h1⟩
      obtain ⟨x, hx, ex⟩ := (ow.2 j i (by have := List.mem_range.mp hj; omega)).mp h1
      have := (List.getElem?_eq_some_iff.mp hx).1
      rwa [Array.length_toList] at this
    · intro hi
      have hi' : i < hs.toList.length := by rw [Array.length_toList]; exact hi
      have s := sm _ (List.getElem_mem hi')
      have s1 := s.1
      have s2 := s.2
      refine ⟨hs.toList[i].toNat, List.mem_range.mpr (by omega), (ow.2 _ i (by omega)).mpr ⟨_, List.getElem?_eq_getElem hi', rfl⟩⟩
  refine ⟨_, _, by unfold SetTable.laid; rw [e]; rfl, by simpa using pm, ?_, ?_, rfl, rfl, rfl⟩
  · have hz : ((List.range (mask + 1)).filterMap fun j => (owner.getD j none).map (j, ·)).length = hs.size := by
      have := pm.length_eq
      rwa [List.length_map, List.length_range] at this
    unfold SetTable.fits SetTable.fill
    simp only [List.size_toArray, List.length_map, hz]
    simp [hl]
  · have := (ris_live (fun j => owner.getD j none) (List.range (mask + 1)) (by unfold Ris; exact List.pairwise_lt_range)).1
    simpa using this
end Zm


set_option Elab.async false
set_option linter.all false
set_option maxRecDepth 100000
set_option maxHeartbeats 4000000
set_option autoImplicit false
namespace Zm
open PySem PySem.Spec L2 PyProof.Rows
theorem hash_sm {k : Int} (s : Sm k) : hashInt k = k := by
  obtain ⟨h0, h1⟩ := s
  have : k = 0 ∨ k = 1 ∨ k = 2 ∨ k = 3 ∨ k = 4 ∨ k = 5 ∨ k = 6 ∨ k = 7 := by omega
  rcases this with e | e | e | e | e | e | e | e <;> subst e <;> decide +kernel
/-- what stands at a set's place -/
structure Sst (w : World) (o : Obj) (es : Array (Int × Value)) (ep : Nat) (t : SetTable) : Prop where
  ex : o.ExactSet
  data : o.data = .set es ep t
  good : ∀ e ∈ es.toList, GoodE e
  nd : (es.toList.map keyOf).Nodup
  bd : es.size < scanBound
  fits : t.fits es.size = true
  ris : Ris t.place.toList
  led : w.params.followText "set-order" = true ∨ t.led = true
section
variable {P : Program} {w : World} {A : Around} {E : Value → Shared → Prop} {s : Shared} {a : Addr} {o : Obj} {es : Array (Int × Value)} {ep : Nat} {t : SetTable}
theorem sst_of {S : Int → Bool} {n : Nat} {h : Heap} (R : SetR w h a S n) : ∃ o es ep t, h.get? a = some o ∧ Sst w o es ep t ∧ (∀ k, S k = true ↔ k ∈ es.toList.map keyOf) ∧ es.size = n := by
  obtain ⟨o, es, ep, t, ho, hex, hd, g, nd, hm, hb, hf, hn, hr, hl⟩ := R
  exact ⟨o, es, ep, t, ho, ⟨hex, hd, g, nd, hb, hf, hr, hl⟩, hm, hn⟩
theorem sst_setR {S : Int → Bool} {n : Nat} {h : Heap} (ho : h.get? a = some o) (x : Sst w o es ep t) (hm : ∀ k, S k = true ↔ k ∈ es.toList.map keyOf) (hn : es.size = n) : SetR w h a S n :=
  ⟨o, es, ep, t, ho, x.ex, x.data, x.good, x.nd, hm, x.bd, x.fits, hn, x.ris, x.led⟩
theorem ent_at {Q : Array (Int × Value) → Shared → Prop} (ho : s.heap.get? a = some o) (x : Sst w o es ep t) (h : Q es s) : wpAny (model P w) A (setEntries a) Q E s := by
  unfold setEntries
  exact wpAny_bind (wpAny_setState_of ho x.data x.fits (wpAny_pure h))
theorem walk_at {Q : Array (Int × Value) → Shared → Prop} (ho : s.heap.get? a = some o) (x : Sst w o es ep t) (hQ : ∀ out d, out.toList.Perm es.toList → Q out { s with drawn := d }) : wpAny (model P w) A (setWalk a) Q E s := by
  unfold setWalk
  refine wpAny_bind (wpAny_setState_of ho x.data x.fits ?_)
  dsimp only
  refine wpAny_bind (wpAny_byText ?_)
  cases hb : w.params.followText "set-order" with
  | true =>
    refine wp_if_pos rfl ?_
    exact wpAny_bind (wpAny_askSetting (wpAny_pure (hQ _ s.drawn (pick_perm _ _))))
  | false =>
    refine wp_if_neg (by decide) ?_
    try refine wpAny_bind (wpAny_pure ?_)
    cases hd : (!t.plain && decide (es.size > 1)) with
    | true =>
      refine wp_if_pos hd ?_
      refine wpAny_bind (drawOrder_at es.size es.toList s _ (Nat.le_of_eq Array.length_toList) fun ys d p => wpAny_pure (hQ _ d (by simpa using p)))
    | false =>
      refine wp_if_neg (by show ¬ ((!t.plain && decide (es.size > 1)) = true); rw [hd]; exact Bool.false_ne_true) ?_
      try refine wpAny_bind (wpAny_pure ?_)
      have hl : t.led = true := x.led.resolve_left (by rw [hb]; decide)
      refine wpAny_bind (wpAny_of_eq (a := ()) ?_ ?_)
      · show (if (!t.led && decide (es.size > 1)) = true then unsupported "set:maker-not-led" else pure ()) = pure ()
        rw [hl] <;> rfl
      · exact wpAny_pure (hQ _ s.drawn (List.Perm.refl _))
theorem forq {Q : Option Bool × Unit → Shared → Prop} {f : Int × Value → Option Bool × Unit → Sem (ForInStep (Option Bool × Unit))} (hf : ∀ h k tk, f (h, .int k tk) (none, ()) = pure (.yield (none, ()))) :
    ∀ l : List (Int × Value), (∀ e ∈ l, GoodE e) → Q (none, ()) s → wpAny (model P w) A (forIn l (none, ()) f) Q E s
  | [], _, q => wpAny_pure q
  | e :: l, g, q => by
    obtain ⟨k, tk, h1, h2⟩ := g e (List.mem_cons_self ..)
    obtain ⟨h0, v⟩ := e
    dsimp only at h1
    subst h1
    rw [List.forIn_cons, hf]
    exact wpAny_bind (wpAny_pure (forq hf l (fun e he => g e (List.mem_cons_of_mem _ he)) q))
theorem quiet_at {Q : Bool → Shared → Prop} : ∀ (sets : List Addr), (∀ a ∈ sets, ∃ o es ep t, s.heap.get? a = some o ∧ Sst w o es ep t) → Q true s → wpAny (model P w) A (setsQuiet sets) Q E s := by
  intro sets h q
  unfold setsQuiet
  refine wpAny_bind ?_
  induction sets with
  | nil => exact wpAny_pure (wpAny_pure q)
  | cons b bs ih =>
    rw [List.forIn_cons]
    obtain ⟨o, es, ep, t, ho, x⟩ := h b (List.mem_cons_self ..)
    refine wpAny_bind (wpAny_bind (ent_at ho x ?_))
    refine wpAny_bind ?_
    rw [← Array.forIn_toList]
    refine forq (fun h k tk => rfl) es.toList x.good ?_
    exact wpAny_pure (ih fun a ha => h a (List.mem_cons_of_mem _ ha))
/-- the walk that nobody sees, into a set that is filled -/
theorem unseen_at {f : Addr} {others : List Addr} {S : Int → Bool} {n : Nat} {Q : Array (Int × Value) → Shared → Prop} (ho : s.heap.get? a = some o) (x : Sst w o es ep t)
    (hs : ∀ b ∈ others, ∃ o es ep t, s.heap.get? b = some o ∧ Sst w o es ep t) (R : SetR w s.heap f S n)
    (hQ : ∀ out h' d, out.toList.Perm es.toList → Heap.SameBut f s.heap h' → SetR w h' f S n → Q out { s with heap := h', drawn := d }) : wpAny (model P w) A (setWalkUnseen a others (some f)) Q E s := by
  have hw : wpAny (model P w) A (setWalk a) Q E s := walk_at ho x fun out d p => hQ out s.heap d p (Heap.SameBut.refl _ _) R
  unfold setWalkUnseen
  refine wpAny_bind (wpAny_setState_of ho x.data x.fits ?_)
  dsimp only
  refine wpAny_bind (wpAny_byText ?_)
  cases hc : (w.params.followText "set-order" || (t.led && t.plain) || decide (es.size ≤ 1)) with
  | true => exact wp_if_pos rfl hw
  | false =>
    refine wp_if_neg (by decide) ?_
    try refine wpAny_bind (wpAny_pure ?_)
    refine wpAny_bind (quiet_at (a :: others) (fun b hb => ?_) ?_)
    · rcases List.mem_cons.mp hb with e | hb
      · rw [e]
        exact ⟨o, es, ep, t, ho, x⟩
      · exact hs b hb
    refine wp_if_neg (by decide) ?_
    try refine wpAny_bind (wpAny_pure ?_)
    refine wpAny_bind (wpAny_rule ?_)
    obtain ⟨of, ef, epf, tf, hof, xf, hm, hn⟩ := sst_of R
    refine wpAny_bind (wpAny_setState_of hof xf.data xf.fits ?_)
    dsimp only
    have hb : w.params.followText "set-order" = false := by
      cases e : w.params.followText "set-order" with
      | false => rfl
      | true => rw [e] at hc; cases hc
    have hl : t.led = true := x.led.resolve_left (by rw [hb]; decide)
    split
    · refine wpAny_bind (wpAny_storeSet_of hof xf.data ?_ (fits_of_scanBound xf.bd))
      refine wpAny_pure (hQ es _ s.drawn (List.Perm.refl _) (Heap.SameBut.update _ f _) ⟨_, ef, _, _, store_at hof xf.data, xf.ex, rfl, xf.good, xf.nd, hm, xf.bd, xf.fits, hn, xf.ris, xf.led.imp id fun z => ?_⟩)
      show (tf.led && t.led) = true
      rw [z, hl] <;> rfl
    · exact wpAny_pure (hQ es s.heap s.drawn (List.Perm.refl _) (Heap.SameBut.refl _ _) R)
/-! ### merging -/
def SmS (S : Int → Bool) : Prop := ∀ k, S k = true → Sm k
theorem nd_small : ∀ {l : List Int}, l.Nodup → (∀ k ∈ l, Sm k) → l.length ≤ 8 := fun {l} nd h => by
  have := nd_len l [0, 1, 2, 3, 4, 5, 6, 7] nd fun x hx => by
    obtain ⟨h0, h1⟩ := h x hx
    have : x = 0 ∨ x = 1 ∨ x = 2 ∨ x = 3 ∨ x = 4 ∨ x = 5 ∨ x = 6 ∨ x = 7 := by omega
    simp [this]
  exact this
theorem sst_small {S : Int → Bool} (x : Sst w o es ep t) (hm : ∀ k, S k = true ↔ k ∈ es.toList.map keyOf) (sm : SmS S) : es.size ≤ 8 := by
  have := nd_small x.nd fun k hk => sm k ((hm k).mpr hk)
  rwa [List.length_map, Array.length_toList] at this
theorem fst_key {S : Int → Bool} (x : Sst w o es ep t) (hm : ∀ k, S k = true ↔ k ∈ es.toList.map keyOf) (sm : SmS S) : (es.map (·.1)).toList = es.toList.map keyOf := by
  rw [Array.toList_map]
  refine List.map_congr_left fun e he => ?_
  obtain ⟨k, tk, h1, h2⟩ := x.good e he
  have hk : keyOf e = k := by unfold keyOf; rw [h1]
  have := sm k ((hm k).mpr (by rw [← hk]; exact List.mem_map_of_mem he))
  rw [h2, hash_sm this, hk]
theorem put_order {order : Array Nat} (hp : order.toList.Perm (List.range es.size)) : (order.filterMap (es[·]?)).toList.Perm es.toList := by
  rw [Array.toList_filterMap]
  exact (hp.filterMap _).trans (by rw [filterMap_getElem?_range])
theorem above_ok {n : Nat} (h : n ≤ 32) : 7 ≤ SetTable.sizeAbove n - 1 ∧ n ≤ SetTable.sizeAbove n - 1 ∧ SetTable.sizeAbove n ≤ 64 := by
  have key : ∀ m : Fin 33, 7 ≤ SetTable.sizeAbove m.val - 1 ∧ m.val ≤ SetTable.sizeAbove m.val - 1 ∧ SetTable.sizeAbove m.val ≤ 64 := by decide +kernel
  exact key ⟨n, by omega⟩
/-- laying anew what a set of small ints has -/
theorem relay_at {S : Int → Bool} {wanted : Nat} {Q : Unit → Shared → Prop} (ho : s.heap.get? a = some o) (x : Sst w o es ep t) (hm : ∀ k, S k = true ↔ k ∈ es.toList.map keyOf) (sm : SmS S) (hw : wanted ≤ 32) (he : es.size ≤ wanted)
    (hQ : ∀ o' es' t', Sst w o' es' (ep + 1) t' → es'.toList.Perm es.toList → t'.mask = SetTable.sizeAbove wanted - 1 → t'.dummies = #[] → (s.heap.update a (Obj.putSet es' t')).get? a = some o' → Q () { s with heap := s.heap.update a (Obj.putSet es' t') }) : wpAny (model P w) A (setRelay a wanted) Q E s := by
  obtain ⟨a1, a2, a3⟩ := above_ok hw
  have hk := fst_key x hm sm
  obtain ⟨t', order, e1, e2, e3, e4, e5, e6, e7⟩ := laid_sm (mask := SetTable.sizeAbove wanted - 1) (f := t.finger) (m := t.movedTo (SetTable.sizeAbove wanted - 1)) (led := t.led) (plain := t.plain) a1 (hs := es.map (·.1)) (by rw [hk]; exact x.nd)
    (by rw [hk]; exact fun k hk => sm k ((hm k).mpr hk)) (by rw [Array.size_map]; omega)
  rw [Array.size_map] at e2 e3
  have pm := put_order e2
  have hz : (order.filterMap (es[·]?)).size = es.size := by rw [← Array.length_toList, pm.length_eq, Array.length_toList]
  unfold setRelay
  refine wpAny_bind (wpAny_setState_of ho x.data x.fits ?_)
  dsimp only
  refine wp_if_neg (by rw [show sizeLine = 16777216 from rfl]; omega) ?_
  try refine wpAny_bind (wpAny_pure ?_)
  have er : t.relaid (es.map (·.1)) wanted = some (t', order) := e1
  rw [er]
  refine wpAny_bind (wpAny_of_eq (a := (order.filterMap (es[·]?), t')) ?_ ?_)
  · show (if ((order.filterMap (es[·]?)).size != es.size) = true then unsupported "internal:set-table-lost-an-element" else pure (order.filterMap (es[·]?), t')) = pure (order.filterMap (es[·]?), t')
    rw [hz, bne_self_eq_false] <;> rfl
  · refine wpAny_storeSet_of ho x.data ?_ (fits_of_scanBound (by rw [hz]; exact x.bd))
    refine hQ { o with data := .set (order.filterMap (es[·]?)) (ep + 1) t' } _ _ ⟨x.ex, rfl, fun e he => x.good e (pm.mem_iff.mp he), (pm.map keyOf).nodup_iff.mpr x.nd, by rw [hz]; exact x.bd, by rw [hz]; exact e3, e4, x.led.imp id fun z => by rw [e5]; exact z⟩ pm e6 e7 (store_at ho x.data)
abbrev frO (w : World) : Obj := { cls := .type "set", dict := none, data := .set #[] 0 (.fresh 0 0 (!w.params.followText "set-order")) }
theorem fr_sst (w : World) : Sst w (frO w) #[] 0 (.fresh 0 0 (!w.params.followText "set-order")) :=
  ⟨⟨rfl, rfl, rfl⟩, rfl, (fun e he => by simp at he), (by simp), (by decide), (by rfl), List.Pairwise.nil, by
    show _ ∨ (!w.params.followText "set-order") = true
    cases w.params.followText "set-order"
    · exact .inr rfl
    · exact .inl rfl⟩
/-- into a new set: all at once -/
theorem merge_new {f : Addr} {S : Int → Bool} {n : Nat} {each : Sem Unit} {Q : Unit → Shared → Prop} (R : SetR w s.heap a S n) (hf : s.heap.get? f = some (frO w)) (ne : f ≠ a) (sm : SmS S)
    (hQ : ∀ h', Heap.SameBut f s.heap h' → SetR w h' f S n → (n = 0 → h' = s.heap) → Q () { s with heap := h' }) : wpAny (model P w) A (setMerge f a each) Q E s := by
  obtain ⟨o, es, ep, t, ho, x, hm, hn⟩ := sst_of R
  have h8 := sst_small x hm sm
  have fr := fr_sst w
  unfold setMerge
  refine wp_if_neg (by simpa using ne) ?_
  try refine wpAny_bind (wpAny_pure ?_)
  refine wpAny_bind (wpAny_setState_of ho x.data x.fits ?_)
  dsimp only
  by_cases he : es.isEmpty = true
  · refine wp_if_pos he ?_
    have e0 : es = #[] := Array.isEmpty_iff.mp he
    subst e0
    exact wpAny_pure (hQ s.heap (Heap.SameBut.refl _ _) (sst_setR hf fr hm hn) fun _ => rfl)
  refine wp_if_neg he ?_
  try refine wpAny_bind (wpAny_pure ?_)
  have hn0 : n ≠ 0 := fun z => he (by rw [Array.isEmpty_iff_size_eq_zero, hn, z])
  have hk := fst_key x hm sm
  refine wpAny_bind (wpAny_mono (Q := fun _ s' => ∃ h1 of epf tf, s' = { s with heap := h1 } ∧ Heap.SameBut f s.heap h1 ∧ h1.get? f = some of ∧ Sst w of #[] epf tf ∧ 7 ≤ tf.mask ∧ es.size ≤ tf.mask ∧ tf.fill = 0) (E := E) ?_ ?_ fun _ _ e => e)
  · unfold setRoomFor
    refine wpAny_bind (wpAny_setState_of hf fr.data fr.fits ?_)
    dsimp only
    have er : (SetTable.fresh 0 0 (!w.params.followText "set-order")).roomFor es.size = if (0 + es.size) * 5 ≥ 7 * 3 then some ((0 + es.size) * 2) else none := rfl
    rw [er]
    by_cases h5 : (0 + es.size) * 5 ≥ 7 * 3
    · rw [if_pos h5]
      dsimp only
      refine relay_at hf fr (S := fun _ => false) (fun k => by simp) (fun k z => by cases z) (by omega) (Nat.zero_le _) fun o' es' t' x' p' e' d' g' => ?_
      have e0 : es' = #[] := by
        have := p'.length_eq
        apply Array.eq_empty_of_size_eq_zero
        simpa using this
      subst e0
      have := (above_ok (n := (0 + es.size) * 2) (by omega))
      refine ⟨_, o', _, t', rfl, Heap.SameBut.update _ f _, g', x', by rw [e']; exact this.1, by rw [e']; omega, ?_⟩
      have ff := x'.fits
      unfold SetTable.fits at ff
      rw [Bool.and_eq_true, beq_iff_eq] at ff
      unfold SetTable.fill
      rw [d', ff.1]
      rfl
    · rw [if_neg h5]
      dsimp only
      exact wpAny_pure ⟨s.heap, _, _, _, rfl, Heap.SameBut.refl _ _, hf, fr, Nat.le_refl 7, by show es.size ≤ 7; omega, rfl⟩
  · rintro _ s' ⟨h1, of, epf, tf, rfl, sb, ho1, xf, m1, m2, f0⟩
    refine wpAny_bind (wpAny_setState_of ho1 xf.data xf.fits ?_)
    dsimp only
    have nb : ∀ {h2 : Heap} {z : Obj → Obj}, h2 = h1.update f z → Heap.SameBut f s.heap h2 := fun e => by
      rw [e]
      exact sb.trans (Heap.SameBut.update _ f _)
    by_cases hr : (tf.mask == t.mask && t.dummies.isEmpty) = true
    · have er : tf.road t = .slotForSlot := by
        unfold SetTable.road
        rw [f0, if_neg (by decide), if_pos hr]
      rw [er]
      dsimp only
      refine wpAny_storeSet_of ho1 xf.data ?_ (fits_of_scanBound x.bd)
      exact hQ _ (nb rfl) ⟨_, es, _, _, store_at ho1 xf.data, xf.ex, rfl, x.good, x.nd, hm, x.bd, x.fits, hn, x.ris, by
        rcases xf.led with z | z
        · exact .inl z
        rcases x.led with z2 | z2
        · exact .inl z2
        refine .inr ?_
        show (tf.led && t.led) = true
        rw [z, z2] <;> rfl⟩ fun z => absurd z hn0
    · have er : tf.road t = .clean := by
        unfold SetTable.road
        rw [f0, if_neg (by decide), if_neg hr]
      rw [er]
      dsimp only
      obtain ⟨t', order, e1, e2, e3, e4, e5, e6, e7⟩ := laid_sm (mask := tf.mask) (f := tf.finger) (m := tf.moves) (led := tf.led && t.led) (plain := tf.plain && t.plain) m1 (hs := es.map (·.1)) (by rw [hk]; exact x.nd)
        (by rw [hk]; exact fun k hk => sm k ((hm k).mpr hk)) (by rw [Array.size_map]; exact m2)
      rw [Array.size_map] at e2 e3
      have pm := put_order e2
      have hz : (order.filterMap (es[·]?)).size = es.size := by rw [← Array.length_toList, pm.length_eq, Array.length_toList]
      rw [e1]
      refine wpAny_bind (wpAny_of_eq (a := (order.filterMap (es[·]?), t')) ?_ ?_)
      · show (if ((order.filterMap (es[·]?)).size != es.size) = true then unsupported "internal:set-table-lost-an-element" else pure (order.filterMap (es[·]?), t')) = pure (order.filterMap (es[·]?), t')
        rw [hz, bne_self_eq_false] <;> rfl
      · refine wpAny_storeSet_of ho1 xf.data ?_ (fits_of_scanBound (by rw [hz]; exact x.bd))
        refine hQ _ (nb rfl) ⟨_, _, _, _, store_at ho1 xf.data, xf.ex, rfl, fun e he => x.good e (pm.mem_iff.mp he), (pm.map keyOf).nodup_iff.mpr x.nd, fun k => (hm k).trans (pm.map keyOf).mem_iff.symm, by rw [hz]; exact x.bd, by rw [hz]; exact e3, by rw [hz]; exact hn, e4, ?_⟩ fun z => absurd z hn0
        rcases xf.led with z | z
        · exact .inl z
        rcases x.led with z2 | z2
        · exact .inl z2
        refine .inr ?_
        rw [e5, z, z2] <;> rfl
/-- one by one -/
theorem into_loop {f : Addr} {each : Sem Unit} {ho0 : Heap} {Q : PUnit → Shared → Prop} (hg : ho0.get? a = some o) (x : Sst w o es ep t) (ne : a ≠ f)
    (hEach : ∀ (s' : Shared) (Q' : Unit → Shared → Prop), s'.heap.get? a = some o → Q' () s' → wpAny (model P w) A each Q' E s') :
    ∀ (l : List (Int × Value)), (∀ e ∈ l, GoodE e) → ∀ (s1 : Shared) (S1 : Int → Bool) (n1 : Nat), Heap.SameBut f ho0 s1.heap → SetR w s1.heap f S1 n1 → n1 + l.length < scanBound →
      (∀ h' S' n', Heap.SameBut f ho0 h' → SetR w h' f S' n' → (∀ k, S' k = true ↔ S1 k = true ∨ k ∈ l.map keyOf) → Q ⟨⟩ { s1 with heap := h' }) →
      wpAny (model P w) A (forIn l PUnit.unit fun (e : Int × Value) _ => holding [e.2] (setAddHashed f e.2 e.1) >>= fun _ => each >>= fun _ => setState a >>= fun z =>
        if (z.2.1 != ep) = true then (unsupported "set.changed-during-merge" : Sem Unit) >>= fun _ => pure (ForInStep.yield PUnit.unit) else pure (ForInStep.yield PUnit.unit)) Q E s1
  | [], _, s1, S1, n1, sb, R, hb, q => wpAny_pure (q s1.heap S1 n1 sb R fun k => by simp)
  | e :: l, g, s1, S1, n1, sb, R, hb, q => by
    obtain ⟨k, tk, h1, h2⟩ := g e (List.mem_cons_self ..)
    obtain ⟨h0, v⟩ := e
    dsimp only at h1 h2
    subst h1
    subst h2
    rw [List.length_cons] at hb
    rw [List.forIn_cons]
    refine wpAny_bind (wpAny_bind (wpAny_holding ?_))
    refine setR_add_hashed (P := P) (k := k) (tk := tk) R (by omega) fun h' sb' R' => ?_
    have sb2 := sb.trans sb'
    have hga : h'.get? a = some o := (sb2.2 a ne).trans hg
    refine wpAny_bind (hEach _ _ hga ?_)
    refine wpAny_bind (wpAny_setState_of hga x.data x.fits ?_)
    dsimp only
    rw [bne_self_eq_false]
    refine wp_if_neg (by decide) ?_
    try refine wpAny_bind (wpAny_pure ?_)
    refine wpAny_pure ?_
    refine into_loop hg x ne hEach l (fun e he => g e (List.mem_cons_of_mem _ he)) _ _ _ sb2 R' ?_ fun h3 S' n' sb3 R3 h4 => ?_
    · split <;> omega
    · refine q h3 S' n' sb3 R3 fun j => (h4 j).trans ?_
      rw [List.map_cons, List.mem_cons, Bool.or_eq_true, decide_eq_true_eq]
      show _ ↔ _ ∨ j = k ∨ _
      exact or_assoc
theorem merge_into {f : Addr} {S T : Int → Bool} {n m : Nat} {each : Sem Unit} {Q : Unit → Shared → Prop} (R : SetR w s.heap a T m) (Rf : SetR w s.heap f S n) (ne : f ≠ a) (sm : SmS S) (smT : SmS T) (hn0 : n ≠ 0)
    (hEach : ∀ (s' : Shared) (Q' : Unit → Shared → Prop), s'.heap.get? a = s.heap.get? a → Q' () s' → wpAny (model P w) A each Q' E s')
    (hQ : ∀ h' d S' n', Heap.SameBut f s.heap h' → SetR w h' f S' n' → (∀ k, S' k = true ↔ S k = true ∨ T k = true) → Q () { s with heap := h', drawn := d }) : wpAny (model P w) A (setMerge f a each) Q E s := by
  obtain ⟨o, es, ep, t, ho, x, hm, hn⟩ := sst_of R
  obtain ⟨of, ef, epf, tf, hf, fr, hmf, hnf⟩ := sst_of Rf
  have h8 := sst_small x hm smT
  have f8 := sst_small fr hmf sm
  unfold setMerge
  refine wp_if_neg (by simpa using ne) ?_
  try refine wpAny_bind (wpAny_pure ?_)
  refine wpAny_bind (wpAny_setState_of ho x.data x.fits ?_)
  dsimp only
  by_cases he : es.isEmpty = true
  · refine wp_if_pos he ?_
    have e0 : es = #[] := Array.isEmpty_iff.mp he
    subst e0
    exact wpAny_pure (hQ s.heap s.drawn S n (Heap.SameBut.refl _ _) Rf fun k => by rw [hm k]; simp)
  refine wp_if_neg he ?_
  try refine wpAny_bind (wpAny_pure ?_)
  refine wpAny_bind (wpAny_mono (Q := fun _ s' => ∃ h1, s' = { s with heap := h1 } ∧ Heap.SameBut f s.heap h1 ∧ SetR w h1 f S n) (E := E) ?_ ?_ fun _ _ e => e)
  · unfold setRoomFor
    refine wpAny_bind (wpAny_setState_of hf fr.data fr.fits ?_)
    dsimp only
    have hpl : tf.place.size = ef.size := by
      have ff := fr.fits
      unfold SetTable.fits at ff
      rw [Bool.and_eq_true, beq_iff_eq] at ff
      exact ff.1
    unfold SetTable.roomFor
    rw [hpl]
    by_cases h5 : (tf.fill + es.size) * 5 ≥ tf.mask * 3
    · rw [if_pos h5]
      dsimp only
      refine relay_at hf fr hmf sm (by omega) (by omega) fun o' es' t' x' p' e' d' g' => ?_
      exact ⟨_, rfl, Heap.SameBut.update _ f _, sst_setR g' x' (fun k => (hmf k).trans (p'.map keyOf).mem_iff.symm) (by rw [← Array.length_toList, p'.length_eq, Array.length_toList]; exact hnf)⟩
    · rw [if_neg h5]
      dsimp only
      exact wpAny_pure ⟨s.heap, rfl, Heap.SameBut.refl _ _, Rf⟩
  · rintro _ s' ⟨h1, rfl, sb, R1⟩
    obtain ⟨of1, ef1, epf1, tf1, ho1, xf, hm1, hn1⟩ := sst_of R1
    refine wpAny_bind (wpAny_setState_of ho1 xf.data xf.fits ?_)
    dsimp only
    have er : tf1.road t = .oneByOne := by
      unfold SetTable.road
      rw [if_pos]
      have ff := xf.fits
      unfold SetTable.fits at ff
      rw [Bool.and_eq_true, beq_iff_eq] at ff
      show ((tf1.place.size + tf1.dummies.size) != 0) = true
      rw [bne_iff_ne]
      have := ff.1
      omega
    rw [er]
    dsimp only
    have hga1 : h1.get? a = some o := (sb.2 a (Ne.symm ne)).trans ho
    refine wpAny_bind (unseen_at (s := { s with heap := h1 }) hga1 x (fun b hb => ?_) R1 fun out h2 d pm sb2 R2 => ?_)
    · rw [List.mem_singleton.mp hb]
      exact ⟨_, _, _, _, ho1, xf⟩
    rw [← Array.forIn_toList]
    have hga2 : h2.get? a = some o := (sb2.2 a (Ne.symm ne)).trans hga1
    refine wpAny_bind ?_
    refine into_loop (ho0 := h2) hga2 x (Ne.symm ne) (fun s' Q' h q => hEach s' Q' (by rw [h, ho]) q) out.toList (fun e he => x.good e (pm.mem_iff.mp he)) { s with heap := h2, drawn := d } S n (Heap.SameBut.refl _ _) R2 ?_ fun h3 S' n' sb3 R3 h4 => ?_
    · rw [pm.length_eq, Array.length_toList]
      show _ < 4096
      omega
    · refine wpAny_pure ?_
      refine hQ h3 d S' n' ((sb.trans sb2).trans sb3) R3 fun k => (h4 k).trans ?_
      rw [(pm.map keyOf).mem_iff, hm]
end
end Zm


set_option Elab.async false
set_option linter.all false
set_option maxRecDepth 100000
set_option maxHeartbeats 4000000
set_option autoImplicit false
namespace Zm
open PySem PySem.Spec L2 PyProof.Rows
theorem entry_set_or : entryFor table "set.__or__" = some Builtin.«frozenset.__or__» :=
  entryFor_alias (id' := "frozenset.__or__") (by kernel_rfl) rfl (by decide +kernel) (by kernel_rfl)
theorem entry_set_and : entryFor table "set.__and__" = some Builtin.«frozenset.__and__» :=
  entryFor_alias (id' := "frozenset.__and__") (by kernel_rfl) rfl (by decide +kernel) (by kernel_rfl)
end Zm


set_option Elab.async false
set_option linter.all false
set_option maxRecDepth 100000
set_option maxHeartbeats 4000000
set_option autoImplicit false
namespace Zm
open PySem PySem.Spec L2 PyProof.Rows
section
variable {P : Program} {w : World} {A : Around} {E : Value → Shared → Prop} {s : Shared} {a b : Addr} {o : Obj} {es : Array (Int × Value)} {ep : Nat} {t : SetTable}
theorem setR_type {S : Int → Bool} {n : Nat} (R : SetR w s.heap a S n) : s.TypeIs (.ref a) "set" := by
  obtain ⟨o, es, ep, t, ho, x, _⟩ := sst_of R
  exact ⟨o, ho, x.ex.1⟩
/-- a copy -/
theorem copy_at {S : Int → Bool} {n : Nat} {Q : Value → Shared → Prop} (R : SetR w s.heap a S n) (sm : SmS S)
    (hQ : ∀ h', (∀ c u, s.heap.get? c = some u → h'.get? c = some u) → SetR w h' s.heap.objs.size S n → (n = 0 → h'.get? s.heap.objs.size = some (frO w)) → Q (.ref s.heap.objs.size) { s with heap := h' }) :
    wpAny (model P w) A (Builtin.Frozenset.copyOf a) Q E s := by
  unfold Builtin.Frozenset.copyOf Builtin.Frozenset.baseOf
  refine wpAny_bind (wpAny_bind (wpAny_isInstance (setR_type R) sub_set_self (wpAny_pure ?_)))
  rw [if_pos rfl]
  unfold newSet
  refine wpAny_bind (wpAny_bind (wpAny_byText ?_))
  dsimp only
  refine wpAny_newObj_type ?_
  have hlt := R.lt
  have hg : (s.heap.push (frO w)).get? s.heap.objs.size = some (frO w) := Heap.get?_push_size _ rfl
  refine wpAny_bind (m := Builtin.Frozenset.addrOf _) (wpAny_pure ?_)
  refine wpAny_bind (merge_new (s := { s with heap := s.heap.push (frO w) }) (R.at fun u e => Heap.get?_push_of_some _ e) hg (Nat.ne_of_gt hlt) sm fun h' sb R' z => ?_)
  refine wpAny_pure (hQ h' (fun c u e => ?_) R' fun e => by rw [z e]; exact hg)
  rw [sb.2 c (Nat.ne_of_lt (Heap.lt_size e))]
  exact Heap.get?_push_of_some _ e
theorem isAny_at {S : Int → Bool} {n : Nat} {Q : Bool → Shared → Prop} (R : SetR w s.heap a S n) (h : Q true s) : wpAny (model P w) A (Builtin.Frozenset.isAnySet (.ref a)) Q E s := by
  unfold Builtin.Frozenset.isAnySet orM
  refine wpAny_bind (wpAny_isInstance (setR_type R) sub_set_self ?_)
  exact wpAny_pure h
theorem or_at {S T : Int → Bool} {n m : Nat} {Q : Value → Shared → Prop} (R : SetR w s.heap a S n) (R2 : SetR w s.heap b T m) (ne : a ≠ b) (sm : SmS S) (smT : SmS T)
    (hQ : ∀ h' d S' n', (∀ c u, s.heap.get? c = some u → h'.get? c = some u) → SetR w h' s.heap.objs.size S' n' → (∀ k, S' k = true ↔ S k = true ∨ T k = true) → Q (.ref s.heap.objs.size) { s with heap := h', drawn := d }) :
    wpAny (model P w) A (binaryOp .BitOr (.ref a) (.ref b)) Q E s := by
  refine wpAny_binaryOp_same (op := .BitOr) (setR_type R) (setR_type R2) F.fills_set_or F.slot_set_or ?_
  refine wpAny_call_entry F.slot_set_or (setR_type R) entry_set_or ?_ (F.args_set_or_2 _ _)
  unfold Builtin.«frozenset.__or__»
  wp_delta
  unfold Builtin.Frozenset.slot1 slotArgs
  simp only [List.isEmpty_nil, Bool.not_true, Bool.false_eq_true, ↓reduceIte, bind_assoc, List.length_cons, List.length_nil, bne_self_eq_false, pure_bind]
  unfold andM
  refine wpAny_bind (wpAny_bind (isAny_at R ?_))
  refine isAny_at R2 ?_
  refine wp_if_neg (by decide) ?_
  try refine wpAny_bind (wpAny_pure ?_)
  refine wpAny_bind ?_
  wp_delta
  refine wpAny_bind (copy_at R sm fun h1 k1 R1 z1 => ?_)
  have neb : b ≠ a := fun e => ne e.symm
  refine wp_if_pos (by simpa using neb) ?_
  refine wpAny_bind (m := Builtin.Frozenset.addrOf _) (wpAny_pure ?_)
  refine wpAny_bind (wpAny_holding ?_)
  have R2' : SetR w h1 b T m := R2.at (k1 b)
  have lt2 := R2.lt
  have neb2 : s.heap.objs.size ≠ b := Nat.ne_of_gt lt2
  have back : ∀ h' d S' n', Heap.SameBut s.heap.objs.size h1 h' → SetR w h' s.heap.objs.size S' n' → (∀ k, S' k = true ↔ S k = true ∨ T k = true) →
      wpAny (model P w) A.in1 (pure (Value.ref s.heap.objs.size)) (fun a s' => wpAny (model P w) A.in1 (ret a) (fun fin s' => ∃ v, fin = Fin.done (Flow.ret v) ∧ v ≠ Value.notImplemented ∧ Q v s') E s') E { s with heap := h', drawn := d } := fun h' d S' n' sb R' e => by
    refine wpAny_pure (wpAny_pure ⟨_, rfl, by simp, hQ h' d S' n' (fun c u e => ?_) R' e⟩)
    rw [sb.2 c (Nat.ne_of_lt (Heap.lt_size e))]
    exact k1 c u e
  unfold Builtin.Frozenset.updateFrom
  refine wpAny_bind (isAny_at (s := { s with heap := h1 }) R2' ?_)
  refine wp_if_pos rfl ?_
  refine wpAny_bind (m := Builtin.Frozenset.addrOf _) (wpAny_pure ?_)
  unfold Builtin.Frozenset.merge
  obtain ⟨o2, es2, ep2, t2, ho2, x2, hm2, hn2⟩ := sst_of R2'
  refine wpAny_bind (wpAny_setEpoch_of (s := { s with heap := h1 }) ho2 x2.data x2.fits ?_)
  by_cases hn0 : n = 0
  · subst hn0
    refine merge_new (s := { s with heap := h1 }) R2' (z1 rfl) neb2 smT fun h' sb R' z => ?_
    refine back h' s.drawn T m sb R' fun k => ⟨.inr, fun h => h.elim (fun h => ?_) id⟩
    obtain ⟨o, es, ep, t, ho, x, hm, hn⟩ := sst_of R
    have e0 : es = #[] := Array.eq_empty_of_size_eq_zero hn
    rw [hm, e0] at h
    simp at h
  · refine merge_into (s := { s with heap := h1 }) R2' R1 neb2 sm smT hn0 (fun s' Q' hg q => ?_) fun h' d S' n' sb R' e => back h' d S' n' sb R' e
    unfold Builtin.Frozenset.unchanged
    refine wpAny_bind (wpAny_setEpoch_of (hg.trans ho2) x2.data x2.fits ?_)
    rw [bne_self_eq_false]
    refine wp_if_neg (by decide) ?_
    exact wpAny_pure q
/-! ### what both have -/
theorem and_loop {f c : Addr} {ho0 : Heap} {T : Int → Bool} {m : Nat} {id : String} {Q : PUnit → Shared → Prop} (hg : ho0.get? a = some o) (x : Sst w o es ep t) (ne : a ≠ f) (Rc : SetR w ho0 c T m) (nc : c ≠ f) :
    ∀ (l : List (Int × Value)), (∀ e ∈ l, GoodE e) → ∀ (s1 : Shared) (S1 : Int → Bool) (n1 : Nat), Heap.SameBut f ho0 s1.heap → SetR w s1.heap f S1 n1 → n1 + l.length < scanBound →
      (∀ h' S' n', Heap.SameBut f ho0 h' → SetR w h' f S' n' → (∀ k, S' k = true ↔ S1 k = true ∨ (k ∈ l.map keyOf ∧ T k = true)) → Q ⟨⟩ { s1 with heap := h' }) →
      wpAny (model P w) A (forIn l PUnit.unit fun (e : Int × Value) _ => holding [e.2] (do if (← setFind c e.2 e.1).isSome then let _ ← setAddHashed f e.2 e.1) >>= fun _ => Builtin.Frozenset.unchanged id a ep >>= fun _ => pure (ForInStep.yield PUnit.unit)) Q E s1
  | [], _, s1, S1, n1, sb, R, hb, q => wpAny_pure (q s1.heap S1 n1 sb R fun k => by simp)
  | e :: l, g, s1, S1, n1, sb, R, hb, q => by
    obtain ⟨k, tk, h1, h2⟩ := g e (List.mem_cons_self ..)
    obtain ⟨h0, v⟩ := e
    dsimp only at h1 h2
    subst h1
    subst h2
    rw [List.length_cons] at hb
    rw [List.forIn_cons]
    have Rc1 : SetR w s1.heap c T m := Rc.at fun u e => (sb.2 c nc).trans e
    have go : ∀ (h2 : Heap) (S2 : Int → Bool) (n2 : Nat), Heap.SameBut f ho0 h2 → SetR w h2 f S2 n2 → n2 + l.length < scanBound → (∀ j, S2 j = true ↔ S1 j = true ∨ (j = k ∧ T j = true)) → ∀ (G : ForInStep PUnit → Sem PUnit),
        G (.yield ⟨⟩) = (forIn l PUnit.unit fun (e : Int × Value) _ => holding [e.2] (do if (← setFind c e.2 e.1).isSome then let _ ← setAddHashed f e.2 e.1) >>= fun _ => Builtin.Frozenset.unchanged id a ep >>= fun _ => pure (ForInStep.yield PUnit.unit)) →
        wpAny (model P w) A (Builtin.Frozenset.unchanged id a ep >>= fun _ => pure (ForInStep.yield PUnit.unit)) (fun r s' => wpAny (model P w) A (G r) Q E s') E { s1 with heap := h2 } := fun h2 S2 n2 sb2 R2 hb2 m2 G hG => by
      unfold Builtin.Frozenset.unchanged
      refine wpAny_bind (wpAny_bind (wpAny_setEpoch_of (s := { s1 with heap := h2 }) ((sb2.2 a ne).trans hg) x.data x.fits ?_))
      rw [bne_self_eq_false]
      refine wp_if_neg (by decide) ?_
      refine wpAny_pure (wpAny_pure ?_)
      rw [hG]
      refine and_loop hg x ne Rc nc l (fun e he => g e (List.mem_cons_of_mem _ he)) _ _ _ sb2 R2 hb2 fun h3 S' n' sb3 R3 h4 => ?_
      refine q h3 S' n' sb3 R3 fun j => (h4 j).trans ?_
      rw [m2, List.map_cons, List.mem_cons]
      show (_ ∨ _) ∨ _ ↔ _ ∨ (j = k ∨ _) ∧ _
      constructor
      · rintro ((z | ⟨z1, z2⟩) | ⟨z1, z2⟩)
        · exact .inl z
        · exact .inr ⟨.inl z1, z2⟩
        · exact .inr ⟨.inr z1, z2⟩
      · rintro (z | ⟨z1 | z1, z2⟩)
        · exact .inl (.inl z)
        · exact .inl (.inr ⟨z1, z2⟩)
        · exact .inr ⟨z1, z2⟩
    refine wpAny_bind (wpAny_bind (wpAny_holding ?_))
    refine wpAny_bind (wpAny_setFind_of (knd := intKind P w) (k := k) (intKind_is P w k tk) rfl Rc1.setOf fun r hr => ?_)
    rw [hr]
    cases hT : T k with
    | true =>
      refine wp_if_pos rfl ?_
      refine wpAny_bind (setR_add_hashed (P := P) (k := k) (tk := tk) R (by omega) fun h' sb' R' => ?_)
      refine wpAny_pure (go h' _ _ (sb.trans sb') R' (by split <;> omega) (fun j => ?_) _ rfl)
      rw [Bool.or_eq_true, decide_eq_true_eq]
      exact ⟨fun h => h.elim .inl fun e => .inr ⟨e, by rw [e]; exact hT⟩, fun h => h.elim .inl fun h => .inr h.1⟩
    | false =>
      refine wp_if_neg (by decide) ?_
      refine wpAny_pure (go s1.heap S1 n1 sb R (by omega) (fun j => ⟨.inl, fun h => h.elim _root_.id fun h => ?_⟩) _ rfl)
      rw [h.1, hT] at h
      cases h.2
theorem and_at {S T : Int → Bool} {n m : Nat} {Q : Value → Shared → Prop} (R : SetR w s.heap a S n) (R2 : SetR w s.heap b T m) (ne : a ≠ b)
    (hQ : ∀ h' d S' n', (∀ c u, s.heap.get? c = some u → h'.get? c = some u) → SetR w h' s.heap.objs.size S' n' → (∀ k, S' k = true ↔ S k = true ∧ T k = true) → Q (.ref s.heap.objs.size) { s with heap := h', drawn := d }) (hb0 : n < 2000) (hb1 : m < 2000) :
    wpAny (model P w) A (binaryOp .BitAnd (.ref a) (.ref b)) Q E s := by
  refine wpAny_binaryOp_same (op := .BitAnd) (setR_type R) (setR_type R2) F.fills_set_and F.slot_set_and ?_
  refine wpAny_call_entry F.slot_set_and (setR_type R) entry_set_and ?_ (F.args_set_and_2 _ _)
  unfold Builtin.«frozenset.__and__»
  wp_delta
  unfold Builtin.Frozenset.slot1 slotArgs
  simp only [List.isEmpty_nil, Bool.not_true, Bool.false_eq_true, ↓reduceIte, bind_assoc, List.length_cons, List.length_nil, bne_self_eq_false, pure_bind]
  unfold andM
  refine wpAny_bind (wpAny_bind (isAny_at R ?_))
  refine isAny_at R2 ?_
  refine wp_if_neg (by decide) ?_
  try refine wpAny_bind (wpAny_pure ?_)
  refine wpAny_bind ?_
  unfold Builtin.Frozenset.intersection
  have neb : b ≠ a := fun e => ne e.symm
  refine wp_if_neg (by simpa using neb) ?_
  try refine wpAny_bind (wpAny_pure ?_)
  unfold Builtin.Frozenset.baseOf
  refine wpAny_bind (wpAny_bind (wpAny_isInstance (setR_type R) sub_set_self (wpAny_pure ?_)))
  rw [if_pos rfl]
  unfold newSet
  refine wpAny_bind (wpAny_bind (wpAny_byText ?_))
  dsimp only
  refine wpAny_newObj_type ?_
  have hg : (s.heap.push (frO w)).get? s.heap.objs.size = some (frO w) := Heap.get?_push_size _ rfl
  have kp : ∀ c u, s.heap.get? c = some u → (s.heap.push (frO w)).get? c = some u := fun c u e => Heap.get?_push_of_some _ e
  have R' := R.at (kp a)
  have R2' := R2.at (kp b)
  have na : a ≠ s.heap.objs.size := Nat.ne_of_lt R.lt
  have nb : b ≠ s.heap.objs.size := Nat.ne_of_lt R2.lt
  have Rn : SetR w (s.heap.push (frO w)) s.heap.objs.size (fun _ => false) 0 := sst_setR hg (fr_sst w) (fun k => by simp) rfl
  refine wpAny_bind (m := Builtin.Frozenset.addrOf _) (wpAny_pure ?_)
  refine wpAny_bind (wpAny_holding ?_)
  refine wpAny_bind (isAny_at (s := { s with heap := s.heap.push (frO w) }) R2' ?_)
  refine wp_if_pos rfl ?_
  refine wpAny_bind (m := Builtin.Frozenset.addrOf _) (wpAny_pure ?_)
  obtain ⟨o1, es1, ep1, t1, ho1, x1, hm1, hn1⟩ := sst_of R'
  obtain ⟨o2, es2, ep2, t2, ho2, x2, hm2, hn2⟩ := sst_of R2'
  unfold Builtin.Frozenset.sizeOf
  refine wpAny_bind (wpAny_bind (ent_at (s := { s with heap := s.heap.push (frO w) }) ho2 x2 (wpAny_pure ?_)))
  refine wpAny_bind (wpAny_bind (ent_at (s := { s with heap := s.heap.push (frO w) }) ho1 x1 (wpAny_pure ?_)))
  have back : ∀ h' d S' n', Heap.SameBut s.heap.objs.size (s.heap.push (frO w)) h' → SetR w h' s.heap.objs.size S' n' → (∀ k, S' k = true ↔ S k = true ∧ T k = true) →
      wpAny (model P w) A.in1 (pure (Value.ref s.heap.objs.size)) (fun a s' => wpAny (model P w) A.in1 (ret a) (fun fin s' => ∃ v, fin = Fin.done (Flow.ret v) ∧ v ≠ Value.notImplemented ∧ Q v s') E s') E { s with heap := h', drawn := d } := fun h' d S' n' sb R' e => by
    refine wpAny_pure (wpAny_pure ⟨_, rfl, by simp, hQ h' d S' n' (fun c u e => ?_) R' e⟩)
    rw [sb.2 c (Nat.ne_of_lt (Heap.lt_size e))]
    exact kp c u e
  by_cases hgt : es2.size > es1.size
  · rw [if_pos hgt]
    dsimp only
    refine wpAny_bind (wpAny_setEpoch_of (s := { s with heap := s.heap.push (frO w) }) ho1 x1.data x1.fits ?_)
    refine wpAny_bind (unseen_at (s := { s with heap := s.heap.push (frO w) }) ho1 x1 (fun c hc => ?_) Rn fun out h2 d pm sb R3 => ?_)
    · rcases List.mem_cons.mp hc with z | z
      · rw [z]
        exact ⟨_, _, _, _, ho2, x2⟩
      · rw [List.mem_singleton.mp z]
        exact ⟨_, _, _, _, hg, fr_sst w⟩
    rw [← Array.forIn_toList]
    refine wpAny_bind ?_
    refine and_loop (ho0 := h2) ((sb.2 a na).trans ho1) x1 na (R2'.at fun u e => (sb.2 b nb).trans e) nb out.toList (fun e he => x1.good e (pm.mem_iff.mp he)) { s with heap := h2, drawn := d } _ 0 (Heap.SameBut.refl _ _) R3 ?_ fun h3 S' n' sb3 R4 h4 => ?_
    · rw [pm.length_eq, Array.length_toList]
      show _ < 4096
      omega
    · refine wpAny_pure (back h3 d S' n' (sb.trans sb3) R4 fun k => (h4 k).trans ?_)
      rw [(pm.map keyOf).mem_iff, ← hm1]
      simp
  · rw [if_neg hgt]
    dsimp only
    refine wpAny_bind (wpAny_setEpoch_of (s := { s with heap := s.heap.push (frO w) }) ho2 x2.data x2.fits ?_)
    refine wpAny_bind (unseen_at (s := { s with heap := s.heap.push (frO w) }) ho2 x2 (fun c hc => ?_) Rn fun out h2 d pm sb R3 => ?_)
    · rcases List.mem_cons.mp hc with z | z
      · rw [z]
        exact ⟨_, _, _, _, ho1, x1⟩
      · rw [List.mem_singleton.mp z]
        exact ⟨_, _, _, _, hg, fr_sst w⟩
    rw [← Array.forIn_toList]
    refine wpAny_bind ?_
    refine and_loop (ho0 := h2) ((sb.2 b nb).trans ho2) x2 nb (R'.at fun u e => (sb.2 a na).trans e) na out.toList (fun e he => x2.good e (pm.mem_iff.mp he)) { s with heap := h2, drawn := d } _ 0 (Heap.SameBut.refl _ _) R3 ?_ fun h3 S' n' sb3 R4 h4 => ?_
    · rw [pm.length_eq, Array.length_toList]
      show _ < 4096
      omega
    · refine wpAny_pure (back h3 d S' n' (sb.trans sb3) R4 fun k => (h4 k).trans ?_)
      rw [(pm.map keyOf).mem_iff, ← hm2]
      simp
      exact And.comm
end
/-! ### in the layer of the heap by data -/
def rSetOr (w : World) : V → V → Hp → VK → Prop := fun x y H Q => ∃ (a b : Addr) (S T : Int → Bool) (n m : Nat), x = V.ref a ∧ y = V.ref b ∧ a ≠ b ∧ H a = some (SetO w a S n) ∧ H b = some (SetO w b T m) ∧ SmS S ∧ SmS T ∧
  ∀ p S' n', H p = none → n' ≤ 8 → (∀ k, S' k = true ↔ S k = true ∨ T k = true) → Q (.ref p) (upd H p (SetO w p S' n'))
def rSetAnd (w : World) : V → V → Hp → VK → Prop := fun x y H Q => ∃ (a b : Addr) (S T : Int → Bool) (n m : Nat), x = V.ref a ∧ y = V.ref b ∧ a ≠ b ∧ H a = some (SetO w a S n) ∧ H b = some (SetO w b T m) ∧ n < 2000 ∧ m < 2000 ∧ SmS S ∧
  ∀ p S' n', H p = none → n' ≤ 8 → (∀ k, S' k = true ↔ S k = true ∧ T k = true) → Q (.ref p) (upd H p (SetO w p S' n'))
section
variable {X : Cx}
theorem setR_le8 {w : World} {h : Heap} {p : Addr} {S : Int → Bool} {n : Nat} (R : SetR w h p S n) (sm : SmS S) : n ≤ 8 := by
  obtain ⟨o, es, ep, t, ho, x, hm, hn⟩ := sst_of R
  rw [← hn]
  exact sst_small x hm sm
theorem or_setOr : OpR X (binaryOp .BitOr) (rSetOr X.w) := by
  intro pins s σ H x y v u Q I rx ry h
  obtain ⟨a, b, S, T, n, m, rfl, rfl, ne, ha, hb, sm, smT, q⟩ := h
  cases rx
  cases ry
  refine or_at (setO_get I ha) (setO_get I hb) ne sm smT fun h' d S' n' kp R e => ?_
  have hn := I.hok.fresh (Nat.le_refl s.heap.objs.size)
  have J : Inv X pins σ (upd H s.heap.objs.size (SetO X.w s.heap.objs.size S' n')) { s with heap := h', drawn := d } :=
    I.call (ch := []) (Un.laid kp (Nat.le_refl _) hn) (I.hok.laid kp (Nat.le_refl _) (setO_new R)) I.bare (fun _ z => nomatch z)
  refine ⟨.ref _, _, J, rfl, q _ S' n' hn (setR_le8 R fun k hk => ?_) e⟩
  exact ((e k).mp hk).elim (sm k) (smT k)
theorem or_setAnd : OpR X (binaryOp .BitAnd) (rSetAnd X.w) := by
  intro pins s σ H x y v u Q I rx ry h
  obtain ⟨a, b, S, T, n, m, rfl, rfl, ne, ha, hb, h1, h2, sm, q⟩ := h
  cases rx
  cases ry
  refine and_at (setO_get I ha) (setO_get I hb) ne (fun h' d S' n' kp R e => ?_) h1 h2
  have hn := I.hok.fresh (Nat.le_refl s.heap.objs.size)
  have J : Inv X pins σ (upd H s.heap.objs.size (SetO X.w s.heap.objs.size S' n')) { s with heap := h', drawn := d } :=
    I.call (ch := []) (Un.laid kp (Nat.le_refl _) hn) (I.hok.laid kp (Nat.le_refl _) (setO_new R)) I.bare (fun _ z => nomatch z)
  refine ⟨.ref _, _, J, rfl, q _ S' n' hn (setR_le8 R fun k hk => ?_) e⟩
  exact sm k ((e k).mp hk).1
end
end Zm


set_option Elab.async false
set_option linter.all false
set_option maxRecDepth 100000
set_option maxHeartbeats 4000000
set_option autoImplicit false
namespace Zm
open PySem PySem.Spec L2 PyProof.Rows
/-! ### set(ns), ns a list of ints -/
section
variable {P : Program} {w : World} {A : Around} {E : Value → Shared → Prop} {s : Shared}
/-- filling a new set from a list -/
theorem fill_list {l : Addr} {items : Array Value} {ns : List Int} {h1 : Heap} {p : Addr} {id : String} {Q : Unit → Shared → Prop} (hh : A.handled = none) (hp : h1.get? p = some (frO w)) (ne : l ≠ p) (hl : h1.IsList l items) (hi : IntsAre items.toList ns) (hb : ns.length + 1 < scanBound)
    (hs : s.heap = h1) (h : ∀ (h' : Heap) (tk c : Nat), SetR w h' p (fun j => decide (j ∈ ns)) c → c ≤ ns.length → (∀ b o, b ≠ p → h1.get? b = some o → h'.get? b = some o) → Q () { s with heap := h', toks := tk }) :
    wpAny (model P w) A (Builtin.Frozenset.updateFrom id p (.ref l)) Q E s := by
  subst hs
  have hz : items.size = ns.length := by
    have q := IntsAre.length hi
    rwa [Array.length_toList] at q
  have hl0 := hl
  obtain ⟨o, ho, hc, n, hd⟩ := hl
  have hT : s.TypeIs (.ref l) "list" := ⟨o, ho, hc⟩
  have lts := Heap.lt_size ho
  have ltp := Heap.lt_size hp
  unfold Builtin.Frozenset.updateFrom Builtin.Frozenset.isAnySet orM
  refine wpAny_bind (wpAny_bind (wpAny_isInstance hT F.sub_list_set ?_))
  refine wpAny_isInstance hT F.sub_list_frozenset ?_
  refine wp_if_neg (by decide) ?_
  try refine wpAny_bind (wpAny_pure ?_)
  refine wpAny_bind (wpAny_typeOf hT ?_)
  refine wp_if_neg (by decide) ?_
  try refine wpAny_bind (wpAny_pure ?_)
  refine wpAny_bind (wpAny_pyIter_list hl0 ?_)
  refine wpAny_bind (wpAny_runValue ?_)
  have hI : l ≠ s.heap.objs.size := Nat.ne_of_lt lts
  have hpI : p ≠ s.heap.objs.size := Nat.ne_of_lt ltp
  refine set_update_ints ((Walks.list (A := A.in1) (by simp [hh]) _ l hI items).toS) p (by simp [hpI, Ne.symm ne]) ns hz hb (fun i v hv => ?_) (items.size - 0) 0 _ (by omega) (Nat.zero_le _)
    ?_ ⟨0, Nat.le_refl 0, ?_⟩ fun s' c hm hc hS => ?_
  · have hin : i < ns.length := by rw [← hz]; exact (Array.getElem?_eq_some_iff.mp hv).1
    obtain ⟨t, e⟩ := IntsAre.int_at hi i v (by rw [Array.getElem?_toList]; exact hv)
    refine ⟨ns[i], t, List.getElem?_eq_getElem hin, ?_⟩
    rw [e, List.getD_eq_getElem?_getD, List.getElem?_eq_getElem hin] <;> rfl
  · exact ⟨⟨_, Heap.get?_push_size _ rfl, rfl, rfl⟩, hl0.push _⟩
  · exact setR_new_at (Heap.get?_push_of_some _ hp)
  · obtain ⟨h', g2, d', tk', os'⟩ := s'
    obtain rfl : g2 = s.gens := hm.gens
    obtain rfl : d' = s.drawn := hm.drawn
    obtain rfl : os' = s.os := hm.os
    refine wpAny_pure ?_
    refine h h' tk' c hS (by omega) fun b u nb e => ?_
    exact hm.heap b u (by simp [nb, Nat.ne_of_lt (Heap.lt_size e)]) (Heap.get?_push_of_some _ e)
theorem setR_list {l : Addr} {items : Array Value} {ns : List Int} {Q : Value → Shared → Prop} (hh : A.handled = none) (hl : s.heap.IsList l items) (hi : IntsAre items.toList ns) (hb : ns.length + 1 < scanBound)
    (h : ∀ (h' : Heap) (tk c : Nat), SetR w h' s.heap.objs.size (fun j => decide (j ∈ ns)) c → c ≤ ns.length → (∀ b o, s.heap.get? b = some o → h'.get? b = some o) → Q (.ref s.heap.objs.size) { s with heap := h', toks := tk }) :
    wpAny (model P w) A (call (.type "set") [.ref l]) Q E s := by
  have lts : l < s.heap.objs.size := by
    obtain ⟨o, ho, _⟩ := hl
    exact Heap.lt_size ho
  have hg : (s.heap.push (frO w)).get? s.heap.objs.size = some (frO w) := Heap.get?_push_size _ rfl
  have hT : Shared.TypeIs { s with heap := s.heap.push (frO w) } (.ref s.heap.objs.size) "set" := ⟨_, hg, rfl⟩
  have hl2 : (s.heap.push (frO w)).IsList l items := hl.push _
  have C := F.called_set
  obtain ⟨c, tl, hmro⟩ := C.mro
  have m1 := C.made
  have m2 := C.sub
  have m3 := C.notType
  have m4 := C.canCreate
  have m5 := F.typeCall_set_1 (.ref l)
  have m6 := C.init.lookup
  have m7 := C.init.bind (.ref s.heap.objs.size)
  refine wpAny_call (codeAny_of_tree (wpAny_pure ⟨Code.quiet_builtin _ (by decide +kernel), codeAny_builtin F.entry_type_call ?_⟩))
  rw [Around.under_plain (weight_type_call_type "set" [.ref l] []) rfl]
  repeat (any_goals (first | assumption | wp_step))
  refine codeAny_mono (code_set_led1 (.ref l) (E := E) (Q₁ := fun v s1 => v = .ref s.heap.objs.size ∧ s1 = { s with heap := s.heap.push (frO w) }) ⟨rfl, rfl⟩) ?_
  rintro (e | f) s1 hr
  · exact hr
  cases f with
  | ret v =>
    obtain ⟨rfl, rfl⟩ := hr
    repeat (any_goals (first | assumption | wp_step))
    refine codeAny_mono (codeAny_call_builtin (R := wants (fun v s2 => v = .none ∧ ∃ h' tk c, s2 = { s with heap := h', toks := tk } ∧ SetR w h' s.heap.objs.size (fun j => decide (j ∈ ns)) c ∧ c ≤ ns.length ∧ (∀ b o, s.heap.get? b = some o → h'.get? b = some o)) E)
      C.init.plain F.entry_set_init (check_set_init_1 hT ?_)) ?_
    · unfold Builtin.«set.__init__» noKeywords
      generalize hU : Builtin.Frozenset.updateFrom = U
      wp_walk
      subst hU
      refine fill_list (by simp [hh]) hg (Nat.ne_of_lt lts) hl2 hi hb rfl fun h' tk c hS hc hk => ?_
      exact wpAny_pure ⟨rfl, h', tk, c, rfl, hS, hc, fun b o e => hk b o (Nat.ne_of_lt (Heap.lt_size e)) (Heap.get?_push_of_some _ e)⟩
    · rintro (e | f) s2 hr
      · exact hr
      cases f with
      | ret v =>
        obtain ⟨rfl, h', tk, c, rfl, hS, hc, hk⟩ := hr
        refine wpAny_pure ?_
        refine wp_if_neg (by decide) ?_
        exact wpAny_pure (h h' tk c hS hc hk)
      | _ => exact hr.elim
  | _ => exact hr.elim
end
end Zm


set_option Elab.async false
set_option linter.all false
set_option maxRecDepth 100000
set_option maxHeartbeats 4000000
set_option autoImplicit false
namespace Zm
open PySem PySem.Spec L2 PyProof.Rows
/-! in the layers -/
def rSetL (K : PySem.W.Frag) (w : World) : List V → Hp → VK → Prop := fun vs H Q => ∃ (a : Addr) (ns : List Int), vs = [V.ref a] ∧ SqL K H a (ns.map V.int) ∧ ns.length < 2000 ∧
  ∀ p c, H p = none → c ≤ ns.length → Q (.ref p) (upd H p (SetO w p (fun j => decide (j ∈ ns)) c))
theorem cr_setL {X : Cx} (hc : X.calm = true := by rfl) : CallR X (.type "set") (rSetL X.K X.w) := by
  intro pins s σ H vs us Q I r h
  obtain ⟨a, ns, rfl, hs, hl, q⟩ := h
  obtain ⟨its, rv, pl, hz⟩ := I.list hs
  rw [Vals.ref1 r]
  refine setR_list (I.ok.hd hc) pl.isList (by simpa using ints_of_vals rv) (by show _ < 4096; omega) fun h' tk c R hc kp => ?_
  have hn := I.hok.fresh (Nat.le_refl s.heap.objs.size)
  exact ⟨.ref _, upd H s.heap.objs.size (SetO X.w s.heap.objs.size (fun j => decide (j ∈ ns)) c), I.laid (t' := tk) kp (Nat.le_refl _) (setO_new R), rfl, q _ c hn hc⟩
section
variable {X : Cx} {e : Expr} {es : List Expr} {t : TA} {p pos : Pos}
theorem c_setL {K : PySem.W.Frag} (b : BFree X.mg) (ha : PA X (e :: es) t) (hg : Gl X "set" := by rfl) (hc : X.calm = true := by rfl) (hK : X.K = K := by rfl)
    (he : starEach (e :: es) X.env = (false, eval e X.env) :: starEach es X.env := by rfl) (hpl : (backTo pos (starEach es X.env)).any (·.1) = false := by rfl) :
    PE X (.Call (.Name "set" p) (e :: es) [] pos) (tCB (rSetL K X.w) t) := by
  subst hK
  exact pe_callTy (cr_setL hc) hg (b _ (by decide)) (by decide +kernel) ha (he := he) (hpl := hpl)
end
/-! sorted(set(ns) | set(ms)) -/
section
variable {K : PySem.W.Frag} {C : Addr} {w : World} {δ : Dl} {t1 t2 : TE} {ns ms ks : List Int}
theorem smS_mem (h : ∀ x ∈ ns, Sm x) : SmS (fun j => decide (j ∈ ns)) := fun k hk => h k (of_decide_eq_true hk)
/-- two sets of lists -/
theorem two_sets (h1 : EvD K C t1 δ (.lst (dI ns))) (h2 : EvD K C t2 δ (.lst (dI ms))) (l1 : ns.length < 2000) (l2 : ms.length < 2000) {O : Addr → Bool} {σ : L2.St} {H : Hp} (n : At K C O H σ δ) {r : V → V → Hp → VK → Prop} {Q : VK}
    (q : ∀ p1 p2 c1 c2 H', Same H H' → p1 ≠ p2 → c1 ≤ ns.length → c2 ≤ ms.length → H' p1 = some (SetO w p1 (fun j => decide (j ∈ ns)) c1) → H' p2 = some (SetO w p2 (fun j => decide (j ∈ ms)) c2) → r (.ref p1) (.ref p2) H' Q) :
    tOp r (tCB (rSetL K w) (tCons t1 tNil)) (tCB (rSetL K w) (tCons t2 tNil)) σ H Q := by
  refine h1 O σ H n _ fun v1 H1 s1 d1 => ?_
  obtain ⟨a, xs, rfl, e1, e2⟩ := dat_lst_iff.mp d1
  rw [dats_ints.mp e2] at e1
  refine ⟨a, ns, rfl, sqL_of e1, l1, fun p1 c1 f1 k1 => ?_⟩
  refine h2 O σ _ (n.same (s1.trans (same_new f1))) _ fun v2 H2 s2 d2 => ?_
  obtain ⟨b, ys, rfl, e3, e4⟩ := dat_lst_iff.mp d2
  rw [dats_ints.mp e4] at e3
  refine ⟨b, ms, rfl, sqL_of e3, l2, fun p2 c2 f2 k2 => ?_⟩
  have g1 := s2 _ _ (upd_same (H := H1) (a := p1))
  have ne : p1 ≠ p2 := ne_of_none g1 f2
  exact q p1 p2 c1 c2 _ (((s1.trans (same_new f1)).trans s2).trans (same_new f2)) ne k1 k2 (by rw [upd_ne ne]; exact g1) upd_same
theorem sort_set {O : Addr → Bool} {σ : L2.St} {H H' : Hp} (n : At K C O H σ δ) (s : Same H H') {p : Addr} {S : Int → Bool} {m : Nat} (hp : H' p = some (SetO w p S m)) (hm : m ≤ 8) (ha : ks.Pairwise (· < ·)) (hk : ∀ x, x ∈ ks ↔ S x = true) {Q : VK}
    (q : ∀ p H', Same H H' → H p = none → Dat K C (hid O H') (.lst (dI ks)) (.ref p) → Q (.ref p) H') : rSortedSet w [.ref p] H' Q := by
  refine ⟨p, S, m, rfl, hp, by omega, fun ns' l k1 k2 k3 fr => ?_⟩
  obtain rfl : ns' = ks := lt_eq k1 ha fun x => by rw [k2, hk]
  exact q l _ (s.trans (same_new fr)) (back_none s fr) (new_lst (n.own.same s) fr (dats_ints.mpr rfl))
theorem en_setOr (h1 : EvD K C t1 δ (.lst (dI ns))) (h2 : EvD K C t2 δ (.lst (dI ms))) (s1 : ∀ x ∈ ns, Sm x) (s2 : ∀ x ∈ ms, Sm x) (l1 : ns.length < 2000) (l2 : ms.length < 2000) (ha : ks.Pairwise (· < ·)) (hk : ∀ x, x ∈ ks ↔ x ∈ ns ∨ x ∈ ms) :
    EvN K C (tCB (rSortedSet w) (tCons (tOp (rSetOr w) (tCB (rSetL K w) (tCons t1 tNil)) (tCB (rSetL K w) (tCons t2 tNil))) tNil)) δ (.lst (dI ks)) := fun O σ H n Q q =>
  two_sets h1 h2 l1 l2 n fun p1 p2 c1 c2 H' s ne k1 k2 g1 g2 => ⟨p1, p2, _, _, c1, c2, rfl, rfl, ne, g1, g2, smS_mem s1, smS_mem s2, fun p S' n' f b e =>
    sort_set n (s.trans (same_new f)) upd_same b ha (fun x => by rw [hk, e, decide_eq_true_eq, decide_eq_true_eq]) q⟩
theorem en_setAnd (h1 : EvD K C t1 δ (.lst (dI ns))) (h2 : EvD K C t2 δ (.lst (dI ms))) (s1 : ∀ x ∈ ns, Sm x) (l1 : ns.length < 2000) (l2 : ms.length < 2000) (ha : ks.Pairwise (· < ·)) (hk : ∀ x, x ∈ ks ↔ x ∈ ns ∧ x ∈ ms) :
    EvN K C (tCB (rSortedSet w) (tCons (tOp (rSetAnd w) (tCB (rSetL K w) (tCons t1 tNil)) (tCB (rSetL K w) (tCons t2 tNil))) tNil)) δ (.lst (dI ks)) := fun O σ H n Q q =>
  two_sets h1 h2 l1 l2 n fun p1 p2 c1 c2 H' s ne k1 k2 g1 g2 => ⟨p1, p2, _, _, c1, c2, rfl, rfl, ne, g1, g2, by omega, by omega, smS_mem s1, fun p S' n' f b e =>
    sort_set n (s.trans (same_new f)) upd_same b ha (fun x => by rw [hk, e, decide_eq_true_eq, decide_eq_true_eq]) q⟩
end
end Zm


set_option maxRecDepth 100000
namespace Zm
open PySem
def top (i : Nat) : Stmt := PySem.Challenge.pw_sparecells_k06_whole_lots_and_what_they.main.body.getD i (.Pass ⟨0, 0, 0, 0⟩)
end Zm


set_option Elab.async false
set_option linter.all false
set_option maxRecDepth 100000
set_option maxHeartbeats 4000000
set_option autoImplicit false
namespace Zm
open PySem PySem.Spec L2
local macro_rules | `(tactic| walk_at "ev") => `(tactic| first
  | exact ev_var rfl
  | exact ev_int
  | exact ev_bl
  | exact ev_non
  | exact ev_str
  | exact ev_raw
  | exact ea_nil
  | exact eo_none
  | exact et_yes
  | ((with_reducible refine' ea_cons ?_ ?_) <;> walk_at "ev")
  | ((with_reducible refine' eo_some ?_) <;> walk_at "ev")
  | ((with_reducible refine' ev_op ?_ ?_ ?_) <;> walk_at "ev")
  | ((with_reducible refine' ev_un ?_ ?_) <;> walk_at "ev")
  | ((with_reducible refine' ev_cb ?_ ?_) <;> walk_at "ev")
  | ((with_reducible refine' ev_notV ?_) <;> walk_at "ev")
  | ((with_reducible refine' et_not ?_) <;> walk_at "ev")
  | ((with_reducible refine' et_test ?_) <;> walk_at "ev")
  | ((with_reducible refine' et_B ?_) <;> walk_at "ev")
  | ((with_reducible refine' en_lst ?_ ?_) <;> walk_at "ev")
  | ((with_reducible refine' en_tup ?_ ?_) <;> walk_at "ev")
  | ((with_reducible refine' (en_lst ?_ ?_).toD) <;> walk_at "ev")
  | ((with_reducible refine' (en_tup ?_ ?_).toD) <;> walk_at "ev")
  | exact r2_Ii
  | exact r2_Ib
  | exact r1_U
  | exact r2_in
  | exact r2_notIn
  | exact rc_lenL
  | exact rc_lenT
  | exact rc_sum
  | exact rc_max2
  | exact rc_min2
  | exact rc_int
  | exact rc_all
  | exact rc_any
  | exact rn_listL
  | exact rn_listT
  | exact rn_tupL
  | exact rn_sorted
  | exact rn_dictP
  | (with_reducible refine' r2_Ci ?_)
  | skip)
section
variable {P : Program} {w : World} {K : PySem.W.Frag} {mg : Str → Option Value} {base : Heap} {f C : Addr} {fd : FuncData}
theorem sc_law_purse : FnScope ["_law_script", "_law_at", "_law_seed"] ["_law_script", "_law_at"] (defScope (top 23)) := ⟨rfl, rfl, rfl, by decide +kernel, rfl, by decide +kernel, by decide +kernel⟩
theorem cut_first (ns : List Int) : ∃ ms : List Int, cutV (ns.map V.int) (some 0) (some (0 + 1)) = ms.map V.int := by
  refine ⟨cutD ns (some 0) (some (0 + 1)), ?_⟩
  unfold cutV cutD
  rw [List.length_map, List.map_take, List.map_drop]
theorem ok_law_purse (B : BFree mg) (F : DefAt K mg "_law_purse" ["_law_script", "_law_at"] (top 23) f fd) : DefOk P w K mg base "_law_purse" 1 ["_law_script", "_law_at"] (spPurse K) := by
  refine F.ok sc_law_purse (fun vs H Q E h => ?_) (fun cdv A outer s H vs Q E hr h => ?_)
  · obtain ⟨a, ns, rfl, _⟩ := h
    rfl
  · obtain ⟨a, ns, rfl, hS, hQ⟩ := h
    obtain ⟨ms, hms⟩ := cut_first ns
    refine ⟨_, (pss_cons (ps_set (i := 2) sc_law_purse.nd rfl (.inl rfl) (c_sum (K := K) B (pa_cons (pe_slice (x_sl (K := K)) (pv 0) (po_some (pv 1)) (po_some (pe_op op_add (pv 1) pe_int))) pa_nil))) (pss_one (ps_ret (pe_lst (pa_cons (pe_op op_modN (c_int (K := K) B (pa_cons (c_max2 (K := K) B (pa_cons (pe_op op_sub (pv 2) (pe_op op_pow pe_int pe_int)) (pa_cons pe_int pa_nil))) pa_nil)) (pe_op op_powW (pe_op op_pow pe_int pe_int) pe_int)) (pa_cons (pe_op op_modN (c_int (K := K) B (pa_cons (pv 2) pa_nil)) pe_int) (pa_cons pe_int (pa_cons (pv 1) pa_nil)))))))), ?_⟩
    refine ⟨_, rfl, _, rfl, 0, rfl, _, rfl, _, _, rfl, rfl, _, rfl, _, _, rfl, hS, fun p1 h1 => ?_⟩
    refine ⟨p1, ms, rfl, SqL.of (by rw [upd_same, hms]), ?_⟩
    have at1 : At K 0 (fun _ => false) (upd H p1 (.lst (cutV (ns.map V.int) (some 0) (some (0 + 1))))) [some (.ref a), some (.int 0), some (.int ms.sum)] [none, some (.int 0), some (.int ms.sum)] := ⟨⟨fun b e => (by cases e), fun b u e => (by cases e)⟩, rfl, fun i d e => match i, e with
      | 0, e => (by cases e)
      | 1, e => ⟨.int 0, rfl, (by have q : D.int 0 = d := (by simpa using e); rw [← q]; exact dat_int.mpr rfl)⟩
      | 2, e => ⟨.int ms.sum, rfl, (by have q : D.int ms.sum = d := (by simpa using e); rw [← q]; exact dat_int.mpr rfl)⟩
      | i + 3, e => (by simp at e)⟩
    dsimp only [gName]
    refine (sn_ret (K := K) (C := 0) (δ := [none, some (.int 0), some (.int ms.sum)]) (d := .lst [.int ((if 0 > ms.sum - 10 ^ (18 : Int).toNat then 0 else ms.sum - 10 ^ (18 : Int).toNat : Int).fmod ((10 ^ (60 : Int).toNat) ^ (8 : Int).toNat)), .int (ms.sum.fmod 2147483629), .int 0, .int 0]) ?ev) (fun _ => false) _ _ at1 _ ?k
    case ev =>
      refine en_lst (ea_cons ?_ (ea_cons ?_ (ea_cons ev_int (ea_cons (ev_var rfl) ea_nil)))) ?_
      · walk_at "ev"
        · exact ⟨by decide, by decide, by decide⟩
        · exact ⟨by decide, by decide, by decide⟩
        · exact ⟨by decide, by decide +kernel⟩
        · show ((10 ^ (60 : Int).toNat) ^ (8 : Int).toNat : Int) ≠ 0
          decide +kernel
      · walk_at "ev"
        exact (by decide : (2147483629 : Int) ≠ 0)
      · show 4 ≤ 100000
        decide
    case k =>
      intro p H' s' hp hd
      obtain ⟨b, xs, e, h2, h3⟩ := dat_lst_iff.mp hd
      cases e
      have h4 : Dats K 0 (hid (fun _ => false) H') (dI [(if 0 > ms.sum - 10 ^ (18 : Int).toNat then 0 else ms.sum - 10 ^ (18 : Int).toNat : Int).fmod ((10 ^ (60 : Int).toNat) ^ (8 : Int).toNat), ms.sum.fmod 2147483629, 0, 0]) xs := h3
      rw [dats_ints.mp h4] at h2
      have n1 : H p = none := (same_new h1).free hp
      refine hQ p H' ((same_new h1).trans s') n1 ⟨_, _, _, _, hid_same _ _ h2, ?_, ?_, ?_, ?_, Int.le_refl _, Int.le_refl _, rfl⟩
      · exact Int.fmod_nonneg_of_pos _ (by decide +kernel)
      · have e10 : ((10 ^ (60 : Int).toNat) ^ (8 : Int).toNat : Int) = 10 ^ 480 := by decide +kernel
        rw [← e10]
        exact Int.fmod_lt_of_pos _ (by decide +kernel)
      · exact Int.fmod_nonneg_of_pos _ (by decide)
      · exact Int.fmod_lt_of_pos _ (by decide)
theorem sc_law_mixed : FnScope ["_law_seed", "_law_spin", "_law_at", "_law_mixed_here"] ["_law_seed", "_law_spin", "_law_at"] (defScope (top 24)) := ⟨rfl, rfl, rfl, by decide +kernel, rfl, by decide +kernel, by decide +kernel⟩
def mixI (a b : Int) : Int := ((((a * 69069 + 104729 * b * b + 7919 * 0 + b).fmod 2147483647 * (a * 69069 + 104729 * b * b + 7919 * 0 + b).fmod 2147483647 + 40503).fmod 2147483629) * 48271).fmod 2147483587
def f_mixed (ds : List D) : D := match ds with
  | [.int a, .int b, .int _] => .int (mixI a b)
  | _ => .non
abbrev sp_mixed (K : PySem.W.Frag) (C : Addr) : Sp := SpD K C (fun ds => ∃ a b, ds = [.int a, .int b, .int 0] ∧ (0 ≤ a ∧ a < 2 ^ 40) ∧ 0 ≤ b ∧ b < 2 ^ 60) f_mixed 3
theorem ok_law_mixed (B : BFree mg) (F : DefAt K mg "_law_mixed" ["_law_seed", "_law_spin", "_law_at"] (top 24) f fd) : DefOk P w K mg base "_law_mixed" 1 ["_law_seed", "_law_spin", "_law_at"] (sp_mixed K C) := by
  refine okD F sc_law_mixed fun cdv A outer s H E hr => ⟨_, (pss_cons (ps_set (i := 3) sc_law_mixed.nd rfl (.inl rfl) (pe_op op_add (pe_op op_mul (pv 0) pe_int) (pe_op op_mul (pe_op op_mul pe_int (pv 1)) (pv 1)))) (pss_cons (ps_set (i := 3) sc_law_mixed.nd rfl (.inl rfl) (pe_op op_modN (c_int (K := K) B (pa_cons (pe_op op_add (pe_op op_add (pv 3) (pe_op op_mul pe_int (pv 2))) (pv 1)) pa_nil)) pe_int)) (pss_cons (ps_set (i := 3) sc_law_mixed.nd rfl (.inl rfl) (pe_op op_modN (c_int (K := K) B (pa_cons (pe_op op_add (pe_op op_mul (pv 3) (pv 3)) pe_int) pa_nil)) pe_int)) (pss_one (ps_ret (pe_op op_modN (c_int (K := K) B (pa_cons (pe_op op_mul (pv 3) pe_int) pa_nil)) pe_int)))))), ?_⟩
  rintro ds ⟨a, b, rfl, ⟨a0, a1⟩, b0, b1⟩
  have m0 : ∀ i : Int, 0 ≤ i.fmod 2147483647 ∧ i.fmod 2147483647 < 2147483647 := fun i => ⟨Int.fmod_nonneg_of_pos _ (by decide), Int.fmod_lt_of_pos _ (by decide)⟩
  have m1 : ∀ i : Int, 0 ≤ i.fmod 2147483629 ∧ i.fmod 2147483629 < 2147483629 := fun i => ⟨Int.fmod_nonneg_of_pos _ (by decide), Int.fmod_lt_of_pos _ (by decide)⟩
  refine sr_seq (sx_set (ev_is (z := .int (a * 69069 + 104729 * b * b)) (by
    walk_at "ev"
    · exact .inr ⟨by decide, by decide⟩
    · exact .inl ⟨by decide, by decide⟩
    · exact .inr ⟨by omega, by omega⟩) rfl)) ?_
  refine sr_seq (sx_set (ev_is (z := .int ((a * 69069 + 104729 * b * b + 7919 * 0 + b).fmod 2147483647)) (by
    walk_at "ev"
    · exact .inl ⟨by decide, by decide⟩
    · exact (by decide : (2147483647 : Int) ≠ 0)) rfl)) ?_
  obtain ⟨q1, q2⟩ := m0 (a * 69069 + 104729 * b * b + 7919 * 0 + b)
  refine sr_seq (sx_set (ev_is (z := .int (((a * 69069 + 104729 * b * b + 7919 * 0 + b).fmod 2147483647 * (a * 69069 + 104729 * b * b + 7919 * 0 + b).fmod 2147483647 + 40503).fmod 2147483629)) (by
    walk_at "ev"
    · exact .inl ⟨by omega, by omega⟩
    · exact (by decide : (2147483629 : Int) ≠ 0)) rfl)) ?_
  refine sr_ret (ev_is (z := .int (mixI a b)) (by
    walk_at "ev"
    · exact .inr ⟨by decide, by decide⟩
    · exact r2_Ci (by decide : (2147483587 : Int) ≠ 0)) rfl)
theorem mixI_lt (a b : Int) : 0 ≤ mixI a b ∧ mixI a b < 2147483587 := ⟨Int.fmod_nonneg_of_pos _ (by decide), Int.fmod_lt_of_pos _ (by decide)⟩
theorem bits_le {m : Int} (h0 : 0 < m) (h1 : m < 1000000) : Builtin.Int.intBits m ≤ 20 := by
  unfold Builtin.Int.intBits
  split
  · omega
  · have h : m.natAbs.log2 < 20 := (Nat.log2_lt (by omega)).mpr (by have : (2 : Nat) ^ 20 = 1048576 := by decide
                                                                    omega)
    omega
theorem sc_law_draw : FnScope ["_law_purse_here", "_law_many", "_law_found", "_law_piece", "_law_drawn"] ["_law_purse_here", "_law_many"] (defScope (top 25)) := ⟨rfl, rfl, rfl, by decide +kernel, rfl, by decide +kernel, by decide +kernel⟩
theorem ok_law_draw (B : BFree mg) (D_law_mixed : DefOk P w K mg base "_law_mixed" 1 ["_law_seed", "_law_spin", "_law_at"] (sp_mixed K C)) (F : DefAt K mg "_law_draw" ["_law_purse_here", "_law_many"] (top 25) f fd) : DefOk P w K mg base "_law_draw" 2 ["_law_purse_here", "_law_many"] spDraw := by
  refine F.ok sc_law_draw (fun vs H Q E h => ?_) (fun cdv A outer s H vs Q E hr h => ?_)
  · obtain ⟨p, n, m, rfl, _⟩ := h
    rfl
  · obtain ⟨p, n, m, rfl, ⟨a, b, c, d, hp, a0, a1, b0, b1, c0, c1, rfl⟩, hn, m0, m1, hQ⟩ := h
    refine ⟨_, (pss_cons (ps_if (pt_cmpR op_gt (pe_ix (x_list (K := K)) (pv 0) pe_int (fun _ _ => rfl)) pe_int (nomark _)) (pss_cons (ps_set (i := 4) sc_law_draw.nd rfl (.inl rfl) (pe_op op_modN (c_int (K := K) B (pa_cons (pe_ix (x_list (K := K)) (pv 0) pe_int (fun _ _ => rfl)) pa_nil)) (pv 1))) (pss_cons (ps_asg (pe_op op_fdivN (pe_ix (x_list (K := K)) (pv 0) pe_int (fun _ _ => rfl)) (pv 1)) (pg_sub (pv 0) pe_int set_list)) (pss_one (ps_ret (pv 4))))) pss_nil) (pss_cons (ps_set (i := 2) sc_law_draw.nd rfl (.inl rfl) pe_int) (pss_cons (ps_for PassesOwn.never rfl (i_rng1 B (pa_cons (pe_op op_add pe_int (pe_op op_fdivN (pe_bits (pv 1)) pe_int)) pa_nil)) (pg_name (i := 3) sc_law_draw.nd rfl (.inl rfl)) (pss_cons (ps_asg (pe_op op_add (pe_ix (x_list (K := K)) (pv 0) pe_int (fun _ _ => rfl)) pe_int) (pg_sub (pv 0) pe_int set_list)) (pss_one (ps_set (i := 2) sc_law_draw.nd rfl (.inl rfl) (pe_op op_add (pe_op op_mul (pv 2) pe_int) (pe_def D_law_mixed (hr.mono (by first | decide | omega)) (pa_cons (pe_ix (x_list (K := K)) (pv 0) pe_int (fun _ _ => rfl)) (pa_cons (pe_ix (x_list (K := K)) (pv 0) pe_int (fun _ _ => rfl)) (pa_cons (pe_ix (x_list (K := K)) (pv 0) pe_int (fun _ _ => rfl)) pa_nil))))))))) (pss_one (ps_ret (pe_op op_modN (c_int (K := K) B (pa_cons (pv 2) pa_nil)) (pv 1))))))), ?_⟩
    refine ⟨_, rfl, p, _, 0, .int a, rfl, rfl, SqL.of hp, rfl, _, _, rfl, rfl, _, rfl, ?_⟩
    refine ite2 (fun ha => ?_) (fun ha => ?_)
    · have ha' : 0 < a := of_decide_eq_true ha
      have mne : m ≠ 0 := by omega
      refine ⟨_, rfl, p, _, 0, .int a, rfl, rfl, SqL.of hp, rfl, .inl ⟨_, rfl, _, rfl, _, _, rfl, rfl, mne, ?_⟩⟩
      refine ⟨_, rfl, p, _, 0, .int a, rfl, rfl, SqL.of hp, rfl, _, rfl, _, _, rfl, rfl, ⟨mne, by omega⟩, _, rfl, p, _, 0, 0, rfl, rfl, hp, rfl, _, rfl, ?_⟩
      refine hQ _ _ (Int.fmod_nonneg_of_pos _ m0) (Int.fmod_lt_of_pos _ m0) (fun b o hb e => by rw [upd_ne hb]; exact e) ⟨a.fdiv m, b, c, 0, upd_same, ?_, ?_, b0, b1, c0, by omega, rfl⟩
      · rw [Int.fdiv_eq_ediv_of_nonneg _ (Int.le_of_lt m0)]
        exact Int.ediv_nonneg a0 (Int.le_of_lt m0)
      · rw [Int.fdiv_eq_ediv_of_nonneg _ (Int.le_of_lt m0)]
        exact Int.lt_of_le_of_lt (Int.ediv_le_self _ a0) a1
    · have hb0 : ((Builtin.Int.intBits m : Nat) : Int).fdiv 28 = 0 := by
        have q := bits_le m0 m1
        rw [Int.fdiv_eq_ediv_of_nonneg _ (by decide)]
        omega
      refine ⟨_, rfl, _, rfl, _, _, rfl, rfl, ⟨by decide, by decide⟩, _, _, rfl, rfl, 1 + ((Builtin.Int.intBits m : Nat) : Int).fdiv 28, rfl, by rw [hb0]; decide, by rw [hb0]; decide, ?_⟩
      rw [hb0]
      refine for_range (lo := 0) (n := 1) (fun i σ' H' => (i = 0 ∧ H' = H ∧ ∃ x4, σ' = [some (.ref p), some (.int m), some (.int 0), none, x4]) ∨ (i = 1 ∧ ∃ z u x4, σ' = [some (.ref p), some (.int m), some (.int z), u, x4] ∧ Same (upd H p (.lst [.int a, .int b, .int (c + 1), .int 0])) H')) (.inl ⟨rfl, rfl, none, rfl⟩) ?_ ?_
      · rintro i σ' H' hi (⟨rfl, rfl, x4, rfl⟩ | ⟨rfl, _⟩)
        · refine ⟨_, rfl, p, _, 2, .int c, rfl, rfl, SqL.of hp, rfl, _, _, rfl, rfl, _, rfl, p, _, 2, 2, rfl, rfl, hp, rfl, ?_⟩
          have hp2 : (upd H' p (.lst ([.int a, .int b, .int c, .int 0].set 2 (.int (c + 1))))) p = some (.lst [.int a, .int b, .int (c + 1), .int 0]) := upd_same
          refine ⟨_, rfl, _, _, rfl, rfl, .inl ⟨by decide, by decide⟩, _, rfl, p, _, 1, .int b, rfl, rfl, SqL.of hp2, rfl, _, rfl, p, _, 2, .int (c + 1), rfl, rfl, SqL.of hp2, rfl, _, rfl, p, _, 3, .int 0, rfl, rfl, SqL.of hp2, rfl, ?_⟩
          refine ⟨rfl, fun _ => false, dI [b, c + 1, 0], ⟨fun _ e => (by cases e), fun _ _ e => (by cases e)⟩, dats_ints.mpr rfl, ⟨b, c + 1, rfl, ⟨b0, by omega⟩, by omega, by omega⟩, fun v H2 s2 hd => ?_⟩
          rw [dat_int.mp hd]
          exact ⟨_, _, rfl, rfl, .inr ⟨rfl, _, _, _, rfl, s2⟩⟩
        · exact absurd hi (by decide)
      · rintro σ' H' (⟨q, _⟩ | ⟨_, z, u, x4, rfl, s2⟩)
        · exact absurd q (by decide)
        · refine ⟨_, rfl, .inl ⟨_, rfl, _, rfl, _, _, rfl, rfl, by omega, ?_⟩⟩
          refine hQ _ _ (Int.fmod_nonneg_of_pos _ m0) (Int.fmod_lt_of_pos _ m0) (fun x o hx e => s2 _ _ (by rw [upd_ne hx]; exact e)) ⟨a, b, c + 1, 0, s2 _ _ upd_same, a0, a1, b0, b1, by omega, by omega, rfl⟩
abbrev R_row (ds : List D) (d : D) : Prop := match ds with
  | [.int old, .int _] => ∃ ns, d = .lst (dI ns) ∧ RowOk old ns
  | _ => False
abbrev sp_row (K : PySem.W.Frag) (C : Addr) : Sp := SpP K C (fun ds => ∃ old way : Int, ds = [.int old, .int way] ∧ 0 ≤ old ∧ old ≤ 8) 30 R_row 2
theorem sc_law_row : FnScope ["_law_purse_here", "_law_old", "_law_way", "_law_first", "_law_block", "_law_spin"] ["_law_purse_here", "_law_old", "_law_way"] (defScope (top 30)) := ⟨rfl, rfl, rfl, by decide +kernel, rfl, by decide +kernel, by decide +kernel⟩
-- slots: _law_purse_here=0 _law_old=1 _law_way=2 _law_first=3 _law_block=4 _law_spin=5
theorem ok_law_row (B : BFree mg) (D_law_draw : DefOk P w K mg base "_law_draw" 2 ["_law_purse_here", "_law_many"] spDraw) (F : DefAt K mg "_law_row" ["_law_purse_here", "_law_old", "_law_way"] (top 30) f fd) : DefOk P w K mg base "_law_row" 3 ["_law_purse_here", "_law_old", "_law_way"] (sp_row K C) := by
  refine okP F sc_law_row rfl fun cdv A outer s H E hr => ⟨_, (pss_cons (ps_if (pt_cmpR (o_eq (K := K) (by exact hr.units)) (pv 2) pe_int (nomark _)) (pss_one (ps_ret (pe_lc (own := [("_law_block", 4)]) rfl sc_law_row.nd (i_rng1 B (pa_cons (pv 1) pa_nil)) (blkOk_by (own := [("_law_block", 4)]) (N := ["_law_purse_here", "_law_old", "_law_way", "_law_first", "_law_block", "_law_spin"]) (sc := (defScope (top 30))) (by decide +kernel)) (fun _ _ _ _ _ => pg_name (i := 4) sc_law_row.nd rfl (.inl rfl)) (fun _ _ _ _ _ => pts_one (pt_cmpR (o_eq (K := K) (by exact hr.units)) (pe_def D_law_draw (hr.mono (by first | decide | omega)) (pa_cons (pv 0) (pa_cons pe_int pa_nil))) pe_int (nomark _))) (fun _ _ _ _ _ => (pv 4))))) pss_nil) (pss_cons (ps_if (pt_cmpR (o_eq (K := K) (by exact hr.units)) (pv 2) pe_int (nomark _)) (pss_cons (ps_set (i := 3) sc_law_row.nd rfl (.inl rfl) (pe_def D_law_draw (hr.mono (by first | decide | omega)) (pa_cons (pv 0) (pa_cons (pe_op op_add (pv 1) pe_int) pa_nil)))) (pss_one (ps_ret (c_listRg2 B (pv 3) (c_min2 (K := K) B (pa_cons (pv 1) (pa_cons (pe_op op_add (pe_op op_add (pv 3) pe_int) (pe_def D_law_draw (hr.mono (by first | decide | omega)) (pa_cons (pv 0) (pa_cons pe_int pa_nil)))) pa_nil))))))) pss_nil) (pss_cons (ps_if (pt_cmpR (o_eq (K := K) (by exact hr.units)) (pv 2) pe_int (nomark _)) (pss_one (ps_ret (pe_ifExp (pt_cmpR op_gt (pv 1) pe_int (nomark _)) (c_sortedDI (K := K) B (pa_cons (c_dictP (K := K) B (pa_cons (pe_lc (own := [("_law_spin", 5)]) rfl sc_law_row.nd (i_rng1 B (pa_cons (pe_op op_add pe_int (pe_def D_law_draw (hr.mono (by first | decide | omega)) (pa_cons (pv 0) (pa_cons pe_int pa_nil)))) pa_nil)) (blkOk_by (own := [("_law_spin", 5)]) (N := ["_law_purse_here", "_law_old", "_law_way", "_law_first", "_law_block", "_law_spin"]) (sc := (defScope (top 30))) (by decide +kernel)) (fun _ _ _ _ _ => pg_name (i := 5) sc_law_row.nd rfl (.inl rfl)) (fun _ _ _ _ _ => pts_nil) (fun _ _ _ _ _ => (pe_tup (pa_cons (pe_def D_law_draw (hr.mono (by first | decide | omega)) (pa_cons (pv 0) (pa_cons (pv 1) pa_nil))) (pa_cons pe_bl pa_nil))))) pa_nil)) pa_nil)) (pe_lst pa_nil)))) pss_nil) (pss_one (ps_ret (pe_lc (own := [("_law_block", 4)]) rfl sc_law_row.nd (i_rng1 B (pa_cons (pv 1) pa_nil)) (blkOk_by (own := [("_law_block", 4)]) (N := ["_law_purse_here", "_law_old", "_law_way", "_law_first", "_law_block", "_law_spin"]) (sc := (defScope (top 30))) (by decide +kernel)) (fun _ _ _ _ _ => pg_name (i := 4) sc_law_row.nd rfl (.inl rfl)) (fun _ _ _ _ _ => pts_one (pt_cmpR op_gt (pe_def D_law_draw (hr.mono (by first | decide | omega)) (pa_cons (pv 0) (pa_cons pe_int pa_nil))) pe_int (nomark _))) (fun _ _ _ _ _ => (pv 4)))))))), ?_⟩
  rintro ds ⟨old, way, rfl, h0, h8⟩ _
  have hn : ((old.toNat : Nat) : Int) = old := by omega
  have hnN : old.toNat ≤ 8 := by omega
  have fin : ∀ d, (∃ ds, d = D.lst ds ∧ Picks (fun _ => True) (fun (k : Nat) d => d = D.int (0 + (k : Int))) (List.range old.toNat) ds) → R_row [.int old, .int way] d := fun d h => by
    obtain ⟨ds, rfl, hp⟩ := h
    obtain ⟨ns, rfl, hs⟩ := picks_sub hp
    exact ⟨ns, rfl, rowOk_sub hn hs⟩
  refine sp_guard (et_test (ev_op (ev_var rfl) ev_int (r2_eq shp_int shp_int))) (fun _ => ?_) (fun _ => ?_)
  · exact sp_ret (ep_imp (ep_lcR (N := 8) (ct := 1) (ce := 0) (ev_var rfl) (by decide) (by decide) hnN (by decide) h0 (fun k hk => ept_drEq (by decide) (by decide)) (fun k hk => ep_d (ev_var rfl))) fin (by decide))
  refine sp_guard (et_test (ev_op (ev_var rfl) ev_int (r2_eq shp_int shp_int))) (fun _ => ?_) (fun _ => ?_)
  · refine sp_imp (sp_set (by decide) (ep_draw (ev_is (z := .int (old + 1)) (ev_op (ev_var rfl) ev_int r2_Ii) rfl) (by omega) (by omega)) fun d r => ?_) (fun d h => h) (by decide : 1 + 1 ≤ 30)
    obtain ⟨i, rfl, i0, i1⟩ := r
    refine sp_ret (ep_imp (ep_listRg2 (R1 := fun d => d = .int i) (R2 := fun d => ∃ j, d = .int j ∧ j ≤ old ∧ 0 ≤ j) (ep_imp (ep_d (ev_var rfl)) (fun d h => ⟨i, h, rfl⟩) (Nat.le_refl _)) (ep_cb (c := 1) (Rs := fun ds => ∃ j : Int, ds = [.int old, .int j] ∧ 0 ≤ j)
      (epa_imp (epa_cons (ep_d (ev_var rfl)) (epa_cons (ep_op (R := fun d => ∃ j, d = .int j ∧ 0 ≤ j) (ep_d (ev_is (z := .int (i + 1)) (ev_op (ev_var rfl) ev_int r2_Ii) rfl)) (ep_dr (by decide) (by decide)) fun d e r1 r2 => by
          subst r1
          obtain ⟨j, rfl, j0, j1⟩ := r2
          exact ⟨_, r2_Ii, _, rfl, by omega⟩) epa_nil)) (fun ds h => by
          obtain ⟨d, es, rfl, rfl, e, es', rfl, ⟨j, rfl, j0⟩, rfl⟩ := h
          exact ⟨j, rfl, j0⟩) (by decide)) (fun ds h => by
        obtain ⟨j, rfl, j0⟩ := h
        exact ⟨_, rc_min2, _, rfl, _, rfl, by split <;> omega, by split <;> omega⟩)) (fun a b h1 h2 => by
        cases h1
        obtain ⟨j, e, j1, j0⟩ := h2
        cases e
        exact RgOk.of_le i0 (by omega) (by omega) (by omega))) (fun d h => by
        obtain ⟨a, b, rfl, h1, h2⟩ := h
        cases h1
        obtain ⟨j, e, j1, j0⟩ := h2
        cases e
        exact ⟨_, rfl, rowOk_rg i0 j1⟩) (by decide))
  refine sp_guard (et_test (ev_op (ev_var rfl) ev_int (r2_eq shp_int shp_int))) (fun _ => ?_) (fun _ => ?_)
  · refine sp_ret (ep_ifB (et_test (ev_op (ev_var rfl) ev_int r2_Ib)) (fun hb => ?_) (fun hb => ?_))
    · have hp : 0 < old := of_decide_eq_true hb
      refine ep_imp (ep_cb (c := 1 + 2 * (0 + 1)) (Rs := fun ds => ∃ ns : List Int, ds = [.dic (mergeD [] (trues ns))] ∧ ns.length ≤ 2 ∧ ∀ i ∈ ns, 0 ≤ i ∧ i < old)
        (epa_imp (epa_cons (c2 := 0) (ep_cb (c := 1 + 2 * (0 + 1)) (R := fun d => ∃ ns : List Int, d = .dic (mergeD [] (trues ns)) ∧ ns.length ≤ 2 ∧ ∀ i ∈ ns, 0 ≤ i ∧ i < old) (Rs := fun ds => ∃ ns : List Int, ds = [.lst ((trues ns).map pairD)] ∧ ns.length ≤ 2 ∧ ∀ i ∈ ns, 0 ≤ i ∧ i < old)
          (epa_imp (epa_cons (c2 := 0) (ep_lc (c1 := 1) (N := 2) (ct := 0) (ce := 1) (Re := fun (_ : Nat) d => ∃ i, d = pairD (Sum.inl i, .bl true) ∧ (0 ≤ i ∧ i < old)) (g0 := fun (k : Nat) => D.int (0 + (k : Int))) (Rs := fun as => as.length ≤ 2) (fun O σ H p n x hn2 Z q =>
              epi_rng1 (R1 := fun d => ∃ i, d = .int i ∧ 0 ≤ i ∧ i ≤ 2) (ep_op (c1 := 0) (c2 := 1) (R := fun d => ∃ i, d = .int i ∧ ∃ j, D.int i = .int j ∧ 0 ≤ j ∧ j ≤ 2) (ep_d ev_int) (ep_dr (m := 2) (by decide) (by decide)) (fun d e r1 r2 => by
                subst r1
                obtain ⟨j, rfl, j0, j1⟩ := r2
                exact ⟨_, r2_Ii, _, rfl, _, rfl, by omega, by omega⟩)) (fun i h => by
                obtain ⟨j, e, j0, j1⟩ := h
                cases e
                omega) O σ H p n x hn2 Z fun J H' ds' b pu e w => q J H' ds' b pu (by
                  obtain ⟨i, e1, j, e2, j0, j1⟩ := e
                  cases e2
                  exact ⟨_, e1, by rw [List.length_range]; omega⟩) w)
            (by decide) (fun as h => h) (by decide) (fun as h a ha => eg_name (by decide)) (fun as h a ha => ept_d et_yes) (fun as h a ha => ep_imp (ep_tup (epa_cons (ep_draw (ev_var rfl) hp (by omega)) (epa_cons (ep_d ev_bl) epa_nil)) (fun ds h => by
              obtain ⟨d, es, rfl, _, e, es', rfl, _, rfl⟩ := h
              show 2 ≤ 100000
              decide)) (fun d h => by
              obtain ⟨ds, rfl, d, es, rfl, ⟨i, rfl, i0, i1⟩, e, es', rfl, rfl, rfl⟩ := h
              exact ⟨i, rfl, i0, i1⟩) (by decide))) epa_nil) (fun ds h => by
            obtain ⟨d, es, rfl, ⟨as, ds', rfl, hl, hp⟩, rfl⟩ := h
            obtain ⟨ns, rfl, h1, h2⟩ := picks_trues hp
            exact ⟨ns, rfl, by omega, h2⟩) (by decide)) (fun ds h => by
          obtain ⟨ns, rfl, h1, h2⟩ := h
          exact ⟨_, rn_dictP.toD, ns, rfl, h1, h2⟩)) epa_nil) (fun ds h => by
          obtain ⟨d, es, rfl, ⟨ns, rfl, h1, h2⟩, rfl⟩ := h
          exact ⟨ns, rfl, h1, h2⟩) (by decide)) (fun ds h => by
        obtain ⟨ns, rfl, h1, h2⟩ := h
        obtain ⟨is, k1, k2, k3, k4⟩ := trues_keys ns
        exact ⟨_, (rn_sortedDI k1 (by omega)).toD, srt is, rfl, srt_lt k2, fun x hx => h2 x ((k4 x).mp ((srt_perm is).mem_iff.mp hx))⟩)) (fun d h => h) (by decide)
    · refine ep_imp (ep_d (en_lst ea_nil (by decide)).toD) (fun d h => ?_) (by decide)
      subst h
      exact ⟨[], rfl, List.Pairwise.nil, fun x hx => by cases hx⟩
  · exact sp_ret (ep_imp (ep_lcR (N := 8) (ct := 1) (ce := 0) (ev_var rfl) (by decide) (by decide) hnN (by decide) h0 (fun k hk => ept_drGt (by decide) (by decide)) (fun k hk => ep_d (ev_var rfl))) fin (by decide))
abbrev R_recipe (ds : List D) (d : D) : Prop := match ds with
  | [.int mn, .int mo] => ∃ old rows, d = recD old rows ∧ RecOk mn mo old rows
  | _ => False
abbrev sp_recipe (K : PySem.W.Frag) (C : Addr) : Sp := SpP K C (fun ds => ∃ mn mo : Int, ds = [.int mn, .int mo] ∧ 1 ≤ mn ∧ mn ≤ 8 ∧ 0 ≤ mo ∧ mo ≤ 8) 400 R_recipe 2
abbrev R_one (ds : List D) (d : D) : Prop := match ds with
  | [.lst xs] => d ∈ xs
  | _ => False
abbrev sp_one (K : PySem.W.Frag) (C : Addr) : Sp := SpP K C (fun ds => ∃ xs : List D, ds = [.lst xs] ∧ xs ≠ [] ∧ xs.length < 100000) 1 R_one 1
theorem atI_mem {xs : List D} {i : Int} (h0 : 0 ≤ i) (h1 : i < xs.length) : ∃ d, atI xs i = some d ∧ d ∈ xs := by
  refine ⟨xs[i.toNat]'(by omega), ?_, List.getElem_mem _⟩
  unfold atI ixN
  rw [if_pos h0, if_pos h1]
  simp
theorem sc_law_one_of : FnScope ["_law_purse_here", "_law_some"] ["_law_purse_here", "_law_some"] (defScope (top 27)) := ⟨rfl, rfl, rfl, by decide +kernel, rfl, by decide +kernel, by decide +kernel⟩
theorem ok_law_one_of (B : BFree mg) (D_law_draw : DefOk P w K mg base "_law_draw" 2 ["_law_purse_here", "_law_many"] spDraw) (F : DefAt K mg "_law_one_of" ["_law_purse_here", "_law_some"] (top 27) f fd) : DefOk P w K mg base "_law_one_of" 3 ["_law_purse_here", "_law_some"] (sp_one K C) := by
  refine okP F sc_law_one_of rfl fun cdv A outer s H E hr => ⟨_, (pss_one (ps_ret (pe_ix (x_list (K := K)) (pv 1) (pe_def D_law_draw (hr.mono (by first | decide | omega)) (pa_cons (pv 0) (pa_cons (c_len (K := K) B (pa_cons (pv 1) pa_nil)) pa_nil))) (fun _ _ => rfl)))), ?_⟩
  rintro ds ⟨xs, rfl, h0, h1⟩ _
  have hl : 0 < xs.length := List.length_pos_iff.mpr h0
  refine sp_ret (ep_imp (ep_op (c1 := 0) (c2 := 1) (R := fun d => d ∈ xs) (ep_d (ev_var rfl)) (ep_draw (m := xs.length) (ev_cb (ea_cons (ev_var rfl) ea_nil) rc_lenL) (by omega) (by omega)) (fun d e r1 r2 => ?_)) (fun d h => h) (by decide))
  subst r1
  obtain ⟨i, rfl, i0, i1⟩ := r2
  obtain ⟨d, q1, q2⟩ := atI_mem i0 i1
  exact ⟨d, r2_ixL q1, q2⟩
theorem sc_law_recipe : FnScope ["_law_purse_here", "_law_most_new", "_law_most_old", "_law_parts", "_law_new", "_law_old", "_law_way", "_law_block"] ["_law_purse_here", "_law_most_new", "_law_most_old"] (defScope (top 31)) := ⟨rfl, rfl, rfl, by decide +kernel, rfl, by decide +kernel, by decide +kernel⟩
-- slots: _law_purse_here=0 _law_most_new=1 _law_most_old=2 _law_parts=3 _law_new=4 _law_old=5 _law_way=6 _law_block=7
theorem ok_law_recipe (B : BFree mg) (D_law_draw : DefOk P w K mg base "_law_draw" 2 ["_law_purse_here", "_law_many"] spDraw) (D_law_one_of : DefOk P w K mg base "_law_one_of" 3 ["_law_purse_here", "_law_some"] (sp_one K C)) (D_law_row : DefOk P w K mg base "_law_row" 3 ["_law_purse_here", "_law_old", "_law_way"] (sp_row K C))
    (F : DefAt K mg "_law_recipe" ["_law_purse_here", "_law_most_new", "_law_most_old"] (top 31) f fd) : DefOk P w K mg base "_law_recipe" 4 ["_law_purse_here", "_law_most_new", "_law_most_old"] (sp_recipe K C) := by
  refine okP F sc_law_recipe rfl fun cdv A outer s H E hr => ⟨_, (pss_cons (ps_asg (pe_tup (pa_cons (pe_op op_add pe_int (pe_def D_law_draw (hr.mono (by first | decide | omega)) (pa_cons (pv 0) (pa_cons (pv 1) pa_nil)))) (pa_cons (pe_def D_law_draw (hr.mono (by first | decide | omega)) (pa_cons (pv 0) (pa_cons (pe_op op_add (pv 2) pe_int) pa_nil))) (pa_cons (pe_def D_law_draw (hr.mono (by first | decide | omega)) (pa_cons (pv 0) (pa_cons pe_int pa_nil))) pa_nil)))) (g_tup (K := K) (n := 3) (pgs_cons (pg_name (i := 4) sc_law_recipe.nd rfl (.inl rfl)) (pgs_cons (pg_name (i := 5) sc_law_recipe.nd rfl (.inr rfl)) (pgs_cons (pg_name (i := 6) sc_law_recipe.nd rfl (.inr rfl)) pgs_nil))))) (pss_cons (ps_if (pt_cmpR op_lt (pv 6) pe_int (nomark _)) (pss_one (ps_ret (pe_lst (pa_cons (pv 5) (pa_cons (pe_lc (own := [("_law_block", 7)]) rfl sc_law_recipe.nd (i_rng1 B (pa_cons (pv 4) pa_nil)) (blkOk_by (own := [("_law_block", 7)]) (N := ["_law_purse_here", "_law_most_new", "_law_most_old", "_law_parts", "_law_new", "_law_old", "_law_way", "_law_block"]) (sc := (defScope (top 31))) (by decide +kernel)) (fun _ _ _ _ _ => pg_name (i := 7) sc_law_recipe.nd rfl (.inl rfl)) (fun _ _ _ _ _ => pts_nil) (fun _ _ _ _ _ => (pe_def D_law_row (hr.mono (by first | decide | omega)) (pa_cons (pv 0) (pa_cons (pv 5) (pa_cons (pv 6) pa_nil)))))) pa_nil))))) pss_nil) (pss_cons (ps_set (i := 3) sc_law_recipe.nd rfl (.inr rfl) (pe_lst (pa_cons (pe_def D_law_row (hr.mono (by first | decide | omega)) (pa_cons (pv 0) (pa_cons (pv 5) (pa_cons pe_int pa_nil)))) (pa_cons (pe_def D_law_row (hr.mono (by first | decide | omega)) (pa_cons (pv 0) (pa_cons (pv 5) (pa_cons pe_int pa_nil)))) pa_nil)))) (pss_cons (ps_if (pt_cmpR (o_eq (K := K) (by exact hr.units)) (pv 6) pe_int (nomark _)) (pss_one (ps_ret (pe_lst (pa_cons (pv 5) (pa_cons (pe_lc (own := [("_law_block", 7)]) rfl sc_law_recipe.nd (i_rng1 B (pa_cons (pv 4) pa_nil)) (blkOk_by (own := [("_law_block", 7)]) (N := ["_law_purse_here", "_law_most_new", "_law_most_old", "_law_parts", "_law_new", "_law_old", "_law_way", "_law_block"]) (sc := (defScope (top 31))) (by decide +kernel)) (fun _ _ _ _ _ => pg_name (i := 7) sc_law_recipe.nd rfl (.inl rfl)) (fun _ _ _ _ _ => pts_nil) (fun _ _ _ _ _ => (c_list (K := K) B (pa_cons (pe_def D_law_one_of (hr.mono (by first | decide | omega)) (pa_cons (pv 0) (pa_cons (pv 3) pa_nil))) pa_nil)))) pa_nil))))) pss_nil) (pss_one (ps_ret (pe_lst (pa_cons (pv 5) (pa_cons (pe_lc (own := [("_law_block", 7)]) rfl sc_law_recipe.nd (i_rng1 B (pa_cons (pv 4) pa_nil)) (blkOk_by (own := [("_law_block", 7)]) (N := ["_law_purse_here", "_law_most_new", "_law_most_old", "_law_parts", "_law_new", "_law_old", "_law_way", "_law_block"]) (sc := (defScope (top 31))) (by decide +kernel)) (fun _ _ _ _ _ => pg_name (i := 7) sc_law_recipe.nd rfl (.inl rfl)) (fun _ _ _ _ _ => pts_nil) (fun _ _ _ _ _ => (pe_ifExp (pt_cmpR (o_eq (K := K) (by exact hr.units)) (pe_def D_law_draw (hr.mono (by first | decide | omega)) (pa_cons (pv 0) (pa_cons pe_int pa_nil))) pe_int (nomark _)) (pe_def D_law_row (hr.mono (by first | decide | omega)) (pa_cons (pv 0) (pa_cons (pv 5) (pa_cons (pe_def D_law_draw (hr.mono (by first | decide | omega)) (pa_cons (pv 0) (pa_cons pe_int pa_nil))) pa_nil)))) (c_list (K := K) B (pa_cons (pe_ix (x_list (K := K)) (pv 3) pe_int (fun _ _ => rfl)) pa_nil))))) pa_nil))))))))), ?_⟩
  rintro ds ⟨mn, mo, rfl, n1, n8, o0, o8⟩ _
  refine sp_imp (c := 3 + 390) (R := R_recipe [.int mn, .int mo]) (sp_tup3 (R1 := fun d => ∃ i, d = .int i ∧ 1 ≤ i ∧ i ≤ mn) (R2 := fun d => ∃ i, d = .int i ∧ 0 ≤ i ∧ i ≤ mo) (R3 := fun d => ∃ i, d = .int i ∧ 0 ≤ i ∧ i < 6) (by decide) (by decide) (by decide) ?_ ?_) (fun d h => h) (by decide)
  · refine epa_imp (c := 0 + 1 + (1 + (1 + 0))) (epa_cons (ep_op (R := fun d => ∃ i, d = .int i ∧ 1 ≤ i ∧ i ≤ mn) (ep_d ev_int) (ep_draw (ev_var rfl) (by omega) (by omega)) (fun d e r1 r2 => ?_)) (epa_cons (ep_draw (ev_is (z := .int (mo + 1)) (ev_op (ev_var rfl) ev_int r2_Ii) rfl) (by omega) (by omega)) (epa_cons (ep_dr (by decide) (by decide)) epa_nil))) (fun ds h => ?_) (by decide)
    · subst r1
      obtain ⟨i, rfl, i0, i1⟩ := r2
      exact ⟨_, r2_Ii, _, rfl, by omega, by omega⟩
    · obtain ⟨a, es, rfl, ra, b, es, rfl, ⟨i, rfl, i0, i1⟩, c, es, rfl, rc, rfl⟩ := h
      exact ⟨a, .int i, c, rfl, ra, ⟨i, rfl, i0, by omega⟩, rc⟩
  · rintro _ _ _ ⟨new, rfl, a1, a2⟩ ⟨old, rfl, b1, b2⟩ ⟨way, rfl, c1, c2⟩
    have hnN : new.toNat ≤ 8 := by omega
    -- what a list of rows is worth
    have fin : ∀ d, (∃ ds, d = D.lst ds ∧ Picks (fun x => x = true) (fun (_ : Nat) d => ∃ ns, d = D.lst (dI ns) ∧ RowOk old ns) (List.range new.toNat) ds) → ∃ rows, d = rowsL rows ∧ RecOk mn mo old rows := fun d h => by
      obtain ⟨ds, rfl, hp⟩ := h
      have hl := picks_all hp
      obtain ⟨rows, rfl, hr⟩ := picks_rows hp
      rw [List.length_map, List.length_range] at hl
      exact ⟨rows, rfl, b1, b2, by omega, by omega, hr⟩
    have ret : ∀ {δ : Dl} {te : TE} {c : Nat}, δ[5]? = some (some (.int old)) → c ≤ 320 → EvP K C te δ c (fun d => ∃ ds, d = D.lst ds ∧ Picks (fun x => x = true) (fun (_ : Nat) d => ∃ ns, d = D.lst (dI ns) ∧ RowOk old ns) (List.range new.toNat) ds) →
        StP K C (tRet (tLst (tCons (tVar 5) (tCons te tNil)))) δ 320 (R_recipe [.int mn, .int mo]) := fun h5 hc he => sp_ret (ep_imp (ep_lst (epa_cons (ep_d (ev_var h5)) (epa_cons (ep_imp he fin (Nat.le_refl _)) epa_nil)) (fun ds h => by
          obtain ⟨d, es, rfl, _, e, es', rfl, _, rfl⟩ := h
          show 2 ≤ 100000
          decide)) (fun d h => by
          obtain ⟨ds, rfl, d, es, rfl, rfl, e, es', rfl, ⟨rows, rfl, h⟩, rfl⟩ := h
          exact ⟨old, rows, rfl, h⟩) (by omega))
    have row : ∀ {δ : Dl} {E : XK} {way : Int} {te : TE}, δ[5]? = some (some (.int old)) → EvD K C te δ (.int way) → EvP K C (tCall (sp_row K C) [] E (tCons (tVar 0) (tCons (tVar 5) (tCons te tNil)))) δ 30 (fun d => ∃ ns, d = D.lst (dI ns) ∧ RowOk old ns) := fun {δ E way te} h5 h =>
      ep_call (ds := [.int old, .int way]) (ea_cons (ev_var h5) (ea_cons h ea_nil)) rfl ⟨old, way, rfl, b1, by omega⟩
    refine sp_guard (et_test (ev_op (ev_var rfl) ev_int r2_Ib)) (fun _ => ?_) (fun _ => ?_)
    · exact sp_imp (ret rfl (by decide) (ep_lcR (N := 8) (ct := 0) (ce := 30) (ev_var rfl) (by decide) (by decide) hnN (by decide) (by omega) (fun k hk => ept_d et_yes) (fun k hk => row rfl (ev_var rfl)))) (fun d h => h) (by decide)
    refine sp_imp (c := 60 + 320) (sp_set (R1 := fun d => ∃ r1 r2, d = .lst [.lst (dI r1), .lst (dI r2)] ∧ RowOk old r1 ∧ RowOk old r2) (by decide) (ep_imp (c := 30 + (30 + 0)) (ep_lst (epa_cons (row rfl ev_int) (epa_cons (row rfl ev_int) epa_nil)) (fun ds h => by
        obtain ⟨d, es, rfl, _, e, es', rfl, _, rfl⟩ := h
        show 2 ≤ 100000
        decide)) (fun d h => by
        obtain ⟨ds, rfl, d, es, rfl, ⟨r1, rfl, h1⟩, e, es', rfl, ⟨r2, rfl, h2⟩, rfl⟩ := h
        exact ⟨r1, r2, rfl, h1, h2⟩) (by decide)) (fun d h => ?_)) (fun d h => h) (by decide)
    obtain ⟨r1, r2, rfl, h1, h2⟩ := h
    refine sp_guard (et_test (ev_op (ev_var rfl) ev_int (r2_eq shp_int shp_int))) (fun _ => ?_) (fun _ => ?_)
    · refine ret rfl (by decide) (ep_lcR (N := 8) (ct := 0) (ce := 1) (ev_var rfl) (by decide) (by decide) hnN (by decide) (by omega) (fun k hk => ept_d et_yes) (fun k hk => ?_))
      refine ep_cb (c := 1) (Rs := fun ds => ∃ d, ds = [d] ∧ ∃ ns, d = D.lst (dI ns) ∧ RowOk old ns) (epa_imp (epa_cons (c2 := 0) (ep_call (ds := [.lst [.lst (dI r1), .lst (dI r2)]]) (ea_cons (ev_var rfl) ea_nil) rfl ⟨_, rfl, List.cons_ne_nil _ _, by show 2 < 100000; decide⟩) epa_nil) (fun ds h => ?_) (by decide)) (fun ds h => ?_)
      · obtain ⟨d, es, rfl, hd, rfl⟩ := h
        have hd : d ∈ [D.lst (dI r1), D.lst (dI r2)] := hd
        refine ⟨d, rfl, ?_⟩
        rcases List.mem_cons.mp hd with q | q
        · exact ⟨r1, q, h1⟩
        · exact ⟨r2, List.mem_singleton.mp q, h2⟩
      · obtain ⟨d, rfl, ns, rfl, hn⟩ := h
        exact ⟨_, rn_listL.toD, ns, rfl, hn⟩
    · refine ret rfl (by decide) (ep_lcR (N := 8) (ct := 0) (ce := 1 + 31) (ev_var rfl) (by decide) (by decide) hnN (by decide) (by omega) (fun k hk => ept_d et_yes) (fun k hk => ep_if (ept_drEq (by decide) (by decide)) ?_ ?_))
      · refine ep_imp (ep_callP (c1 := 1) (Rs := fun ds => ∃ w, ds = [.int old, .int w]) (epa_imp (epa_cons (ep_d (ev_var rfl)) (epa_cons (ep_dr (by decide) (by decide)) epa_nil)) (fun ds h => ?_) (by decide)) (fun ds h => ?_)) (fun d h => ?_) (by decide)
        · obtain ⟨d, es, rfl, rfl, e, es', rfl, ⟨i, rfl, _⟩, rfl⟩ := h
          exact ⟨i, rfl⟩
        · obtain ⟨w, rfl⟩ := h
          exact ⟨rfl, old, w, rfl, b1, by omega⟩
        · obtain ⟨ds, ⟨w, rfl⟩, h⟩ := h
          exact h
      · exact ep_imp (ep_d (ev_cb (ea_cons (ev_op (ev_var rfl) ev_int (r2_ixL (d := .lst (dI r1)) rfl)) ea_nil) rn_listL.toD)) (fun d h => ⟨r1, h, h1⟩) (by decide)
end
end Zm


set_option Elab.async false
set_option linter.all false
set_option maxRecDepth 100000
set_option maxHeartbeats 4000000
set_option autoImplicit false
namespace Zm
open PySem PySem.Spec L2

/-! ### a dict that grows -/
def rUpd : V → List V → Hp → VK → Prop := fun x vs H Q => ∃ a b kvs more, x = V.ref a ∧ vs = [V.ref b] ∧ a ≠ b ∧ H a = some (.dK kvs) ∧ H b = some (.dK more) ∧ kvs.length + more.length ≤ sizeLine ∧ Q .non (upd H a (.dK (mergeK kvs more)))
theorem mt_upd {X : Cx} : MtR X "dict.update" rUpd := by
  intro pins s σ H x vs v us Q I rx rv h
  obtain ⟨a, b, kvs, more, rfl, rfl, ne, ha, hb, hz, q⟩ := h
  cases rx
  obtain ⟨u, rfl, ru⟩ := rv.one
  cases ru
  obtain ⟨z1, m1, ps, r1, d1⟩ := I.hok a _ ha
  obtain ⟨z2, m2, qs, r2, d2⟩ := I.hok b _ hb
  refine call_meetsIn F.slot_dict_update d1.typeIs F.entry_dict_update (F.args_dict_update_2 _ _) (PySem.meets_dict_update (mixKind X.prog X.w) a b ne m2) ⟨ps, qs, d1, d2, by rw [← r1.length, ← r2.length]; exact hz, fun h' hd ho sb => ?_⟩
  have he : ∃ u, h'.get? a = some u := by
    obtain ⟨o, es, ep, ho, _⟩ := hd
    exact ⟨o, ho⟩
  exact ⟨.non, upd H a (.dK (mergeK kvs more)), I.write (e := a) (t' := s.toks) (by rw [ha]; trivial) (.inl rfl) (fun c u hc hu => (sb.2 c hc).trans hu) he ⟨Nat.le_trans (length_mergeK more kvs) hz, m1, _, KV.merge r2 r1, hd⟩, rfl, q⟩
section
variable (K : PySem.W.Frag) (C : Addr)
/-- a new dict that P tells -/
def WD (P : List (Key × D) → Prop) : WP := fun O H0 H v => ∃ a kws kvs, v = .ref a ∧ O a = true ∧ H0 a = none ∧ H a = some (.dK kws) ∧ DatK K C (hid O H) kvs kws ∧ P kvs
end
section
variable {K : PySem.W.Frag} {C : Addr} {E : EndP} {ts : TS} {δ : Dl} {i : Nat} {te : TE} {P P' : List (Key × D) → Prop} {more : List (Key × D)} {ns : List Int}
theorem ef_dic0 : EvF K C tDNewK δ (.dic []) := fun O σ H n Q q p hp => q (.ref p) _ (same_new hp) (dat_dic_iff.mpr ⟨p, [], rfl, by unfold hid dom; rw [hp]; exact upd_same, datK_nil.mpr rfl⟩)
theorem WD.of (hP : P []) {O : Addr → Bool} {H0 H : Hp} {v : V} (old : Old O H0 H) (h : Dat K C (hid (dom H0) H) (.dic []) v) : WD K C P O H0 H v := by
  obtain ⟨a, kws, rfl, h1, h2⟩ := dat_dic_iff.mp h
  obtain ⟨k1, k2⟩ := dom_none old.same h1 trivial
  rw [datK_nil.mp h2] at k2
  exact ⟨a, [], [], rfl, old.own a _ k1 k2 trivial, k1, k2, datK_nil.mpr rfl, hP⟩
theorem WD.same {O : Addr → Bool} {H0 H H' : Hp} {v : V} (s : Same H H') (h : WD K C P O H0 H v) : WD K C P O H0 H' v := by
  obtain ⟨a, kws, kvs, h1, h2, h3, h4, h5, h6⟩ := h
  exact ⟨a, kws, kvs, h1, h2, h3, s _ _ h4, DatK.same (same_hid s) _ _ h5, h6⟩
theorem WD.imp (hP : ∀ kvs, P kvs → P' kvs) {O : Addr → Bool} {H0 H : Hp} {v : V} (h : WD K C P O H0 H v) : WD K C P' O H0 H v := by
  obtain ⟨a, kws, kvs, h1, h2, h3, h4, h5, h6⟩ := h
  exact ⟨a, kws, kvs, h1, h2, h3, h4, h5, hP _ h6⟩
theorem DatK.len {H : Hp} {kvs : List (Key × D)} {kws : List (Key × V)} (h : DatK K C H kvs kws) : kws.length = kvs.length := by
  have := congrArg List.length h.keys
  rwa [List.length_map, List.length_map] at this
/-- d.update(e) -/
theorem swb_upd (h : EvD K C te δ (.dic more)) (hP : ∀ kvs, P kvs → P' (mergeD kvs more) ∧ kvs.length + more.length ≤ 100000) : StWB K C (tDrop (tBM K "dict" rUpd (tVar i) (tCons te tNil))) δ δ i (WD K C P) (WD K C P') := fun H0 O σ H s n1 hv Z q => by
  obtain ⟨v, hv, a, kws, kvs, rfl, k1, k2, k3, k4, k5⟩ := hv
  refine ⟨.ref a, hv, .inr (.inr (.inl ⟨rfl, .inl ⟨kws, k3⟩⟩)), h O σ H n1 _ fun w H1 s1 d1 => ?_⟩
  obtain ⟨b, ms, rfl, m1, m2⟩ := dat_dic_iff.mp d1
  have ne : a ≠ b := fun z => by
    subst z
    unfold hid at m1
    rw [if_pos k1] at m1
    cases m1
  obtain ⟨p1, p2⟩ := hP kvs k5
  have g4 := DatK.same (same_hid (O := O) s1) _ _ k4
  refine ⟨a, b, kws, ms, rfl, rfl, ne, s1 _ _ k3, hid_same _ _ m1, by rw [k4.len, m2.len]; exact Nat.le_trans p2 (by decide), ?_⟩
  have e1 : hid O (upd H1 a (.dK (mergeK kws ms))) = hid O H1 := hid_upd k1
  exact q _ _ (same_mut (s.trans s1) k2) (by rw [e1]; exact same_hid s1) ((n1.same s1).grow k1) ⟨.ref a, hv, a, _, mergeD kvs more, rfl, k1, k2, upd_same, by rw [e1]; exact DatK.merge m2 g4, p1⟩
/-- return sorted(d) -/
theorem sw_retSorted (hP : ∀ kvs, P kvs → ∃ ks : List Int, kvs.map (·.1) = ks.map Sum.inl ∧ ks.length < 64 ∧ srt ks = ns) : StW K C (EndR K C (.lst (dI ns))) (tRet (tCB (fun xs H Q => ∃ (a : Addr) (kvs : List (Key × V)) (ks : List Int), xs = [V.ref a] ∧ Rd H a (.dK kvs) ∧ kvs.map (·.1) = ks.map Sum.inl ∧ ks.length < 64 ∧
    ∀ (ys : List Int) (p : Addr), ys.Perm ks → ys.Pairwise (· ≤ ·) → H p = none → Q (.ref p) (upd H p (.lst (ys.map V.int)))) (tCons (tVar i) tNil))) δ i (WD K C P) := fun O0 H0 O σ H so o s n1 hv Z q => by
  obtain ⟨v, hv, a, kws, kvs, rfl, k1, k2, k3, k4, k5⟩ := hv
  obtain ⟨ks, e1, e2, e3⟩ := hP kvs k5
  refine ⟨.ref a, hv, a, kws, ks, rfl, .inl k3, by rw [k4.keys, e1], e2, fun ys p hp hs hn => ?_⟩
  have e : ys = ns := by
    rw [← e3]
    exact perm_le_eq (hp.trans (srt_perm ks).symm) hs (srt_le ks)
  subst e
  exact q _ _ (s.trans (same_new hn)) (new_lst (o.same s) hn (dats_ints.mpr rfl))
end
end Zm


set_option Elab.async false
set_option linter.all false
set_option maxRecDepth 100000
set_option maxHeartbeats 4000000
set_option autoImplicit false
namespace Zm
open PySem PySem.Spec L2
/-! ### comprehensions over a dict, which is locked meanwhile -/
section
variable {K : PySem.W.Frag} {C : Addr} {δ : Dl}
theorem lc_lock {O : Addr → Bool} {σ : L2.St} {H : Hp} (n : At K C O H σ δ) {i k : Nat} {a : Addr} {kws : List (Key × V)} (hσ : σ[i]? = some (some (.ref a))) (ha : H a = some (.dK kws)) (hl : kws.length ≤ 100000) {te : TE} {f : Nat → D} {Q : VK}
    (hE : ∀ (j : Nat) (kv : Key × V), kws[j]? = some kv → ∀ od O' H', Same (upd H a (.frz od (.dK kws))) H' → OIn O' H' → (∀ b, O b = true → O' b = true) → O' a = true →
      ∀ Q' : VK, (∀ v H'', Same H' H'' → Dat K C (hid O' H'') (f j) v → Q' v H'') → te ((L2.wipe σ [k]).set k (some (kV kv.1))) H' Q')
    (q : ∀ p H', Same H H' → H p = none → Dat K C (hid O H') (.lst ((List.range kws.length).map f)) (.ref p) → Q (.ref p) H') : tLockE (tLc (iKeys (tVar i)) (gName k) tYes te [k]) σ H Q := by
  refine ⟨a, .dK kws, ha, trivial, fun od => ?_⟩
  refine ⟨.ref a, hσ, a, od, rfl, .inl ⟨kws, upd_same, fun D hD => ?_⟩⟩
  have aD : a ≠ D := ne_of_none upd_same hD
  have hDn : H D = none := by rw [upd_ne (Ne.symm aD)] at hD; exact hD
  have oO' : ∀ {b}, (addO (addO O a) D) b = true ↔ O b = true ∨ b = a ∨ b = D := fun {b} => by
    unfold addO
    rw [Bool.or_eq_true, Bool.or_eq_true, decide_eq_true_eq, decide_eq_true_eq, or_assoc]
  have ow : ∀ (H2 : Hp) (acc : List V), Same (upd H a (.frz od (.dK kws))) H2 → H2 D = some (.lst acc) → OIn (addO (addO O a) D) H2 := by
    intro H2 acc s hd
    have fa := s _ _ (upd_same (H := H) (a := a) (o := .frz od (.dK kws)))
    refine ⟨fun b hb => ?_, fun b u hb hu => ?_⟩
    · rcases oO'.mp hb with h | h | h
      · by_cases e : b = a
        · rw [e, fa]
          exact fun z => by cases z
        · intro z
          have := n.own b h
          cases hb2 : H b with
          | none => exact this hb2
          | some u =>
            have := s b u (by rw [upd_ne e]; exact hb2)
            rw [z] at this
            cases this
      · rw [h, fa]
        exact fun z => by cases z
      · rw [h, hd]
        exact fun z => by cases z
    · rcases oO'.mp hb with h | h | h
      · by_cases e : b = a
        · rw [e, fa] at hu
          rw [← Option.some.inj hu]
          trivial
        · have := n.own b h
          cases hb2 : H b with
          | none => exact absurd hb2 this
          | some u2 =>
            have e2 := s b u2 (by rw [upd_ne e]; exact hb2)
            rw [hu] at e2
            rw [Option.some.inj e2]
            exact n.own.nt b u2 h hb2
      · rw [h, fa] at hu
        rw [← Option.some.inj hu]
        trivial
      · rw [h, hd] at hu
        rw [← Option.some.inj hu]
        trivial
  refine ⟨fun j m H2 => m = kws.length - j ∧ j ≤ kws.length ∧ Same (upd H a (.frz od (.dK kws))) H2 ∧ ∃ acc, H2 D = some (.lst acc) ∧ Dats K C (hid (addO (addO O a) D) H2) ((List.range j).map f) acc, ⟨kws.length, by omega, Nat.zero_le _, same_new hD, [], upd_same, .nil⟩, ?_⟩
  rintro j m H2 ⟨rfl, hj, s2, acc, hacc, dacc⟩
  have fa2 := s2 _ _ (upd_same (H := H) (a := a) (o := .frz od (.dK kws)))
  have o2 := ow H2 _ s2 hacc
  by_cases hlt : j < kws.length
  · have hkv : kws[j]? = some kws[j] := List.getElem?_eq_getElem hlt
    refine .inr ⟨⟨fa2, hlt⟩, fun H3 => j + 1 ≤ kws.length ∧ Same (upd H a (.frz od (.dK kws))) H3 ∧ ∃ acc, H3 D = some (.lst acc) ∧ Dats K C (hid (addO (addO O a) D) H3) ((List.range (j + 1)).map f) acc, fun H' hN => ⟨_, by omega, rfl, hN⟩, ?_⟩
    rintro x H3 ⟨rfl, ky, v, e1, rfl⟩
    rw [hkv] at e1
    refine ⟨?_, ?_⟩
    · show ((σ.set k none).set k (some (kV ky))).set k none = σ.set k none
      rw [List.set_set, List.set_set]
    · unfold tYes
      refine iteT ?_
      have ek : ky = (kws[j]).1 := by rw [Option.some.inj e1]
      rw [ek]
      refine hE j _ hkv od _ _ s2 o2 (fun b hb => oO'.mpr (.inl hb)) (oO'.mpr (.inr (.inl rfl))) _ fun y H4 s4 d4 => ?_
      have l1 : acc.length = j := by rw [dacc.length, List.length_map, List.length_range]
      refine ⟨acc, s4 _ _ hacc, Nat.lt_of_lt_of_le (by omega : acc.length < 100001) (by decide), hlt, same_mut (s2.trans s4) hD, _, upd_same, ?_⟩
      rw [add_upd, List.range_succ, List.map_append]
      exact (dacc.same (same_hid s4)).append (.one d4)
  · have e : j = kws.length := by omega
    subst e
    refine .inl ⟨⟨fa2, Nat.le_refl _⟩, fa2, ?_⟩
    refine q D _ (fun b u hb => ?_) hDn ?_
    · by_cases e : b = a
      · subst e
        rw [upd_same, ← ha]
        exact hb
      · rw [upd_ne e]
        exact s2 b u (by rw [upd_ne e]; exact hb)
    · refine dat_lst_iff.mpr ⟨D, acc, rfl, ?_, dacc.same fun b u hb => ?_⟩
      · unfold hid
        rw [if_neg (fun z => n.own D z hDn), upd_ne (Ne.symm aD)]
        exact hacc
      · unfold hid at hb ⊢
        by_cases hO : addO (addO O a) D b = true
        · rw [if_pos hO] at hb
          cases hb
        · rw [if_neg hO] at hb
          have h1 : ¬ O b = true := fun z => hO (oO'.mpr (.inl z))
          have h2 : b ≠ a := fun z => hO (oO'.mpr (.inr (.inl z)))
          rw [if_neg h1, upd_ne h2]
          exact hb
/-- list(d) -/
theorem rn_listK {kvs : List (Key × D)} : RCN K C rListD [.dic kvs] (.lst (kvs.map fun kv => keyV kv.1)) := fun O H vs o h Q q => by
  obtain ⟨x, rfl, hx⟩ := dats_one.mp h
  obtain ⟨a, kws, rfl, h1, h2⟩ := dat_dic_iff.mp hx
  refine ⟨a, kws, rfl, hid_same _ _ h1, fun p hp => q p _ (same_new hp) hp (new_lst o hp ?_)⟩
  have e : ∀ {kvs : List (Key × D)} {kws : List (Key × V)}, kws.map (·.1) = kvs.map (·.1) → Dats K C (hid O H) (kvs.map fun kv => keyV kv.1) (kws.map fun kv => kV kv.1) := by
    intro kvs
    induction kvs with
    | nil =>
      intro kws e
      rw [List.map_eq_nil_iff.mp e]
      exact .nil
    | cons kv kvs ih =>
      intro kws e
      cases kws with
      | nil => cases e
      | cons kw kws =>
        have e1 : kw.1 = kv.1 := (List.cons.inj e).1
        exact .cons (dat_key.mpr (by show kV kw.1 = kV kv.1; rw [e1])) (ih (List.cons.inj e).2)
  exact e h2.keys
def OneI (kvs : List (Key × D)) : Prop := kvs = [] ∨ ∃ i j : Int, kvs = [(Sum.inl i, .int j)]
theorem one_get {H : Hp} {kvs : List (Key × D)} {kws : List (Key × V)} (h : DatK K C H kvs kws) (o : OneI kvs) : (kvs = [] ∧ kws = []) ∨ ∃ i v : Int, kws = [(Sum.inl i, V.int v)] ∧ kvs = [(Sum.inl i, .int v)] ∧ valV kws (Sum.inl i) = some (.int v) := by
  rcases o with rfl | ⟨i, j, rfl⟩
  · exact .inl ⟨rfl, datK_nil.mp h⟩
  · obtain ⟨x, ys, rfl, h1, h2⟩ := datK_cons.mp h
    rw [datK_nil.mp h2, dat_int.mp h1]
    refine .inr ⟨i, j, rfl, rfl, ?_⟩
    unfold valV
    rw [List.find?_cons_of_pos (by simp)]
    rfl
theorem merge_one {kvs : List (Key × D)} (o : OneI kvs) : D.dic (mergeD [] kvs) = .dic kvs := by
  rcases o with rfl | ⟨i, j, rfl⟩ <;> rfl
theorem ef_dicI {te : TE} {kvs : List (Key × D)} (o : OneI kvs) (h : EvN K C te δ (.dic kvs)) : EvF K C te δ (.dic kvs) := fun O σ H n Q q => h O σ H n Q fun p H' s hp hd => by
  obtain ⟨a, kws, e, h1, dk⟩ := dat_dic_iff.mp hd
  cases e
  refine q _ _ s (dat_dic_iff.mpr ⟨p, kws, rfl, ?_, ?_⟩)
  · unfold hid dom
    rw [hp]
    exact hid_same _ _ h1
  · rcases one_get dk o with ⟨e, z⟩ | ⟨i, v, z, e, _⟩
    · rw [e, z]
      exact datK_nil.mpr rfl
    · rw [e, z]
      exact datK_cons.mpr ⟨_, _, rfl, dat_int.mpr rfl, datK_nil.mpr rfl⟩
end
section
variable {X : Cx} {e : Expr} {es : List Expr} {t : TA} {p pos : Pos}
theorem c_listK {K : PySem.W.Frag} (b : BFree X.mg) (ha : PA X (e :: es) t) (hg : Gl X "list" := by rfl) (hc : X.calm = true := by rfl) (hK : X.K = K := by rfl)
    (he : starEach (e :: es) X.env = (false, eval e X.env) :: starEach es X.env := by rfl) (hpl : (backTo pos (starEach es X.env)).any (·.1) = false := by rfl) :
    PE X (.Call (.Name "list" p) (e :: es) [] pos) (tCB rListD t) := by
  subst hK
  exact pe_callTy (call_list_dK hc) hg (b _ (by decide)) (by decide +kernel) ha (he := he) (hpl := hpl)
end
end Zm


set_option Elab.async false
set_option linter.all false
set_option maxRecDepth 100000
set_option maxHeartbeats 4000000
set_option autoImplicit false
namespace Zm
open PySem PySem.Spec L2
/-- plain data, less than n deep -/
def Plain : Nat → D → Prop
  | 0, _ => False
  | n + 1, d => match d with
    | .non => True
    | .bl _ => True
    | .int _ => True
    | .str x => shp (.str x) = true
    | .dic kvs => 2 ≤ n ∧ (kvs = [] ∨ ∃ i j : Int, kvs = [(Sum.inl i, .int j)])
    | .lst ds => ds.length ≤ 100000 ∧ ∀ e ∈ ds, Plain n e
    | .tup ds => ds.length ≤ 100000 ∧ ∀ e ∈ ds, Plain n e
    | _ => False
theorem Plain.ty {n : Nat} {d : D} (h : Plain n d) : ∃ s, tyD d = some s := by
  cases n with
  | zero => exact h.elim
  | succ n => cases d <;> first | exact ⟨_, rfl⟩ | exact h.elim
abbrev sp_exact (K : PySem.W.Frag) (C : Addr) (n : Nat) : Sp := SpD K C (fun ds => ∃ d, ds = [d, d] ∧ Plain n d) (fun _ => .bl true) 2
abbrev f_same (ds : List D) : D := ds.headD .non
abbrev sp_same (K : PySem.W.Frag) (C : Addr) (n : Nat) : Sp := SpF K C (fun ds => ∃ d, ds = [d] ∧ Plain n d) f_same 1
section
variable {P : Program} {w : World} {K : PySem.W.Frag} {mg : Str → Option Value} {base : Heap} {f C : Addr} {fd : FuncData}
theorem sc_law_exact : FnScope ["_law_mine", "_law_theirs", "_law_alike", "_law_key", "_law_a", "_law_b"] ["_law_mine", "_law_theirs"] (defScope (top 29)) := ⟨rfl, rfl, rfl, by decide +kernel, rfl, by decide +kernel, by decide +kernel⟩
-- slots: _law_mine=0 _law_theirs=1 _law_alike=2 _law_key=3 _law_a=4 _law_b=5
theorem zip_self (ds : List D) : zipD ds ds = ds.map fun d => D.tup [d, d] := by
  unfold zipD
  induction ds with
  | nil => rfl
  | cons d ds ih =>
    rw [List.zip_cons_cons, List.map_cons, List.map_cons, ih]
theorem ok_law_exact (B : BFree mg) (F : DefAt K mg "_law_exact" ["_law_mine", "_law_theirs"] (top 29) f fd) : ∀ n, DefOk P w K mg base "_law_exact" n ["_law_mine", "_law_theirs"] (sp_exact K C n)
  | 0 => ok_void F _ fun vs H Q E h => by
    obtain ⟨_, O, ds, _, _, ⟨d, _, h⟩, _⟩ := h
    exact h
  | n + 1 => by
    have D_law_exact := ok_law_exact B F n
    refine okD F sc_law_exact fun cdv A outer s H E hr => ⟨_, (pss_cons (ps_if (pt_val (c_isi2 (K := K) B (pa_cons (pv 0) (pa_cons (pe_tup (pa_cons (n_ty (n := "list") B) (pa_cons (n_ty (n := "tuple") B) pa_nil))) pa_nil)))) (pss_cons (ps_set (i := 2) sc_law_exact.nd rfl (.inl rfl) (pe_and (pe_cmpR (o_eq (K := K) (by exact hr.units)) (c_isi (K := K) B (pa_cons (pv 1) (pa_cons (n_ty (n := "list") B) pa_nil))) (c_isi (K := K) B (pa_cons (pv 0) (pa_cons (n_ty (n := "list") B) pa_nil))) (nomark _)) (pe_one (pe_cmpR (o_eq (K := K) (by exact hr.units)) (c_isi (K := K) B (pa_cons (pv 1) (pa_cons (n_ty (n := "tuple") B) pa_nil))) (c_isi (K := K) B (pa_cons (pv 0) (pa_cons (n_ty (n := "tuple") B) pa_nil))) (nomark _))))) (pss_one (ps_ret (pe_and (pv 2) (pe_and (pe_cmpR (o_eq (K := K) (by exact hr.units)) (c_len (K := K) B (pa_cons (pv 0) pa_nil)) (c_len (K := K) B (pa_cons (pv 1) pa_nil)) (nomark _)) (pe_one (c_all (K := K) B (pa_cons (pe_lc (own := [("_law_a", 4), ("_law_b", 5)]) rfl sc_law_exact.nd (i_zip B (pa_cons (pv 0) (pa_cons (pv 1) pa_nil))) (blkOk_by (own := [("_law_a", 4), ("_law_b", 5)]) (N := ["_law_mine", "_law_theirs", "_law_alike", "_law_key", "_law_a", "_law_b"]) (sc := (defScope (top 29))) (by decide +kernel)) (fun _ _ _ _ _ => g_tup (K := K) (n := 2) (pgs_cons (pg_name (i := 4) sc_law_exact.nd rfl (.inl rfl)) (pgs_cons (pg_name (i := 5) sc_law_exact.nd rfl (.inl rfl)) pgs_nil))) (fun _ _ _ _ _ => pts_nil) (fun _ _ _ _ _ => (pe_def D_law_exact (hr.mono (by first | decide | omega)) (pa_cons (pv 4) (pa_cons (pv 5) pa_nil))))) pa_nil)))))))) pss_nil) (pss_cons (ps_if (pt_val (c_isi (K := K) B (pa_cons (pv 0) (pa_cons (n_ty (n := "dict") B) pa_nil)))) (pss_cons (ps_set (i := 2) sc_law_exact.nd rfl (.inl rfl) (pe_and (c_isi (K := K) B (pa_cons (pv 1) (pa_cons (n_ty (n := "dict") B) pa_nil))) (pe_one (pe_def D_law_exact (hr.mono (by first | decide | omega)) (pa_cons (c_listK (K := K) B (pa_cons (pv 0) pa_nil)) (pa_cons (c_listK (K := K) B (pa_cons (pv 1) pa_nil)) pa_nil)))))) (pss_one (ps_ret (pe_and (pv 2) (pe_one (c_all (K := K) B (pa_cons (pe_lock (pe_lc (own := [("_law_key", 3)]) rfl sc_law_exact.nd (pi_keys (pv 0)) (blkOk_by (own := [("_law_key", 3)]) (N := ["_law_mine", "_law_theirs", "_law_alike", "_law_key", "_law_a", "_law_b"]) (sc := (defScope (top 29))) (by decide +kernel)) (fun _ _ _ _ _ => pg_name (i := 3) sc_law_exact.nd rfl (.inl rfl)) (fun _ _ _ _ _ => pts_nil) (fun _ _ _ _ _ => (pe_def D_law_exact (hr.mono (by first | decide | omega)) (pa_cons (pe_dget (Nat.lt_of_le_of_lt (Nat.add_le_add_left (by decide : 1 ≤ 64) _) hr.units) (pv 0) (pv 3) (fun _ _ => rfl)) (pa_cons (pe_dget (Nat.lt_of_le_of_lt (Nat.add_le_add_left (by decide : 1 ≤ 64) _) hr.units) (pv 1) (pv 3) (fun _ _ => rfl)) pa_nil)))))) pa_nil))))))) pss_nil) (pss_cons (ps_set (i := 2) sc_law_exact.nd rfl (.inl rfl) (pe_cmpR (o_eq (K := K) (by exact hr.units)) (c_isi (K := K) B (pa_cons (pv 0) (pa_cons (n_ty (n := "int") B) pa_nil))) (c_isi (K := K) B (pa_cons (pv 1) (pa_cons (n_ty (n := "int") B) pa_nil))) (nomark _))) (pss_one (ps_ret (pe_and (pv 2) (pe_and (pe_cmpR (o_eq (K := K) (by exact hr.units)) (c_isi (K := K) B (pa_cons (pv 0) (pa_cons (n_ty (n := "bool") B) pa_nil))) (c_isi (K := K) B (pa_cons (pv 1) (pa_cons (n_ty (n := "bool") B) pa_nil))) (nomark _)) (pe_one (pe_cmpR (o_eq (K := K) (by exact hr.units)) (pv 0) (pv 1) (nomark _)))))))))), ?_⟩
    rintro ds ⟨d, rfl, hd⟩
    obtain ⟨s', hs⟩ := hd.ty
    have isi : ∀ {c : String}, c ∈ clNames → ∀ {i : Nat}, i = 0 ∨ i = 1 → EvD K C (tCB (rIsi K) (tCons (tVar i) (tCons (tC (.ty c)) tNil))) (startD ["_law_mine", "_law_theirs", "_law_alike", "_law_key", "_law_a", "_law_b"] [d, d]) (.bl (isTy d c)) := fun hc i hi => by
      rcases hi with rfl | rfl
      · exact ev_cb (ea_cons (ev_var rfl) (ea_cons ev_raw ea_nil)) (rc_isi hs hc)
      · exact ev_cb (ea_cons (ev_var rfl) (ea_cons ev_raw ea_nil)) (rc_isi hs hc)
    have e2 : ∀ {b : Bool}, eqD (.bl b) (.bl b) = true := fun {b} => eqD_refl shp_bl
    refine sr_guard (et_B (ev_cb (ea_cons (ev_var rfl) (ea_cons (en_tup (ea_cons ev_raw (ea_cons ev_raw ea_nil)) (by decide)).toD ea_nil)) (rc_isi2 hs (by decide) (by decide)))) (fun h => ?_) (fun h => ?_)
    · refine sr_seq (sx_set (ev_is (z := .bl true) (ev_andV (b := true) (ev_is (z := .bl true) (ev_op (isi (by decide) (.inr rfl)) (isi (by decide) (.inl rfl)) (r2_eq shp_bl shp_bl)) (by rw [e2])) fun _ => ev_is (z := .bl true) (ev_op (isi (by decide) (.inr rfl)) (isi (by decide) (.inl rfl)) (r2_eq shp_bl shp_bl)) (by rw [e2])) rfl)) ?_
      have fin : ∀ (es : List D), (d = .lst es ∨ d = .tup es) → (es.length ≤ 100000 ∧ ∀ e ∈ es, Plain n e) → StR K C (tRet (tAndV (tVar 2) (tAndV (tOp (rEqD K) (tCB (fun xs H Q => ∃ p ys, xs = [V.ref p] ∧ (SqL K H p ys ∨ SqT K H p ys) ∧ Q (.int ys.length) H) (tCons (tVar 0) tNil)) (tCB (fun xs H Q => ∃ p ys, xs = [V.ref p] ∧ (SqL K H p ys ∨ SqT K H p ys) ∧ Q (.int ys.length) H) (tCons (tVar 1) tNil)))
          (tCB (rAll K) (tCons (tLc (RZ.iZipA K (tCons (tVar 0) (tCons (tVar 1) tNil))) (gTup K 2 (gCons (gName 4) (gCons (gName 5) gNil))) tYes (tCall (sp_exact K C n) [] E0 (tCons (tVar 4) (tCons (tVar 5) tNil))) [4, 5]) tNil))))) ((startD ["_law_mine", "_law_theirs", "_law_alike", "_law_key", "_law_a", "_law_b"] [d, d]).set 2 (some (.bl true))) (.bl true) := fun es he ⟨hl, hp⟩ => by
        have len : ∀ {i : Nat}, i = 0 ∨ i = 1 → EvD K C (tCB (fun xs H Q => ∃ p ys, xs = [V.ref p] ∧ (SqL K H p ys ∨ SqT K H p ys) ∧ Q (.int ys.length) H) (tCons (tVar i) tNil)) ((startD ["_law_mine", "_law_theirs", "_law_alike", "_law_key", "_law_a", "_law_b"] [d, d]).set 2 (some (.bl true))) (.int es.length) := fun hi => by
          rcases he with rfl | rfl
          · rcases hi with rfl | rfl
            · exact ev_cb (ea_cons (ev_var rfl) ea_nil) rc_lenL
            · exact ev_cb (ea_cons (ev_var rfl) ea_nil) rc_lenL
          · rcases hi with rfl | rfl
            · exact ev_cb (ea_cons (ev_var rfl) ea_nil) rc_lenT
            · exact ev_cb (ea_cons (ev_var rfl) ea_nil) rc_lenT
        refine sr_ret (ev_is (z := .bl true) (ev_andV (b := true) (ev_var rfl) fun _ => ev_is (z := .bl true) (ev_andV (a := true) (b := true) (ev_is (z := .bl true) (ev_op (len (.inl rfl)) (len (.inr rfl)) (r2_eq shp_int shp_int)) (by rw [eqD_refl shp_int])) fun _ => ?_) rfl) rfl)
        have hI : EvI K C (RZ.iZipA K (tCons (tVar 0) (tCons (tVar 1) tNil))) ((startD ["_law_mine", "_law_theirs", "_law_alike", "_law_key", "_law_a", "_law_b"] [d, d]).set 2 (some (.bl true))) (es.map fun d => D.tup [d, d]) := by
          rw [← zip_self]
          rcases he with rfl | rfl
          · exact ei_zipL (ev_var rfl) (ev_var rfl)
          · exact ei_zipT (ev_var rfl) (ev_var rfl)
        refine ev_is (z := .bl true) (ev_cb (ea_cons (ev_is (z := .lst (dB (es.map fun _ => true))) (en_lc1 hI (fun a ha => eg_two (by decide) (by decide)) (fun a ha => ev_is (z := .bl true) (ev_call (ds := [a, a]) (ea_cons (ev_var rfl) (ea_cons (ev_var rfl) ea_nil)) rfl ⟨a, rfl, hp a ha⟩) rfl) hl).toD (by unfold dB; rw [List.map_map]; rfl)) ea_nil) rc_all) ?_
        congr 1
        rw [List.all_map]
        exact List.all_eq_true.mpr fun _ _ => rfl
      cases d with
      | lst es => exact fin es (.inl rfl) hd
      | tup es => exact fin es (.inr rfl) hd
      | _ => exact absurd h Bool.false_ne_true
    · refine sr_guard (et_B (isi (by decide) (.inl rfl))) (fun h2 => ?_) (fun h2 => ?_)
      · cases d with
        | dic kvs =>
          obtain ⟨n2, one⟩ := hd
          have one' : OneI kvs := one
          have pk : Plain n (.lst (kvs.map fun kv => keyV kv.1)) := by
            obtain ⟨k, rfl⟩ := Nat.exists_eq_add_of_le' n2
            unfold Plain
            rcases one with rfl | ⟨i, j, rfl⟩
            · exact ⟨by decide, fun e he => by cases he⟩
            · refine ⟨by show 1 ≤ 100000; decide, fun e he => ?_⟩
              rw [List.mem_singleton.mp he]
              unfold Plain
              trivial
          refine sr_seq (sx_set (ev_is (z := .bl true) (ev_andV (b := true) (ev_is (z := .bl true) (isi (by decide) (.inr rfl)) rfl) fun _ => ev_is (z := .bl true) (ev_call (ds := [.lst (kvs.map fun kv => keyV kv.1), .lst (kvs.map fun kv => keyV kv.1)]) (ea_cons (en_cb (ea_cons (ev_var rfl) ea_nil) rn_listK).toD (ea_cons (en_cb (ea_cons (ev_var rfl) ea_nil) rn_listK).toD ea_nil)) rfl ⟨_, rfl, pk⟩) rfl) rfl)) ?_
          refine sr_ret (ev_is (z := .bl true) (ev_andV (b := true) (ev_var rfl) fun _ => ev_is (z := .bl true) (ev_cb (ea_cons (d := .lst (dB (kvs.map fun _ => true))) (fun O σ H nn Q q => ?_) ea_nil) rc_all) ?_) rfl)
          · obtain ⟨v, hv, dv⟩ := nn.env.2 0 _ rfl
            obtain ⟨v1, hv1, dv1⟩ := nn.env.2 1 _ rfl
            obtain ⟨a, kws, rfl, ha, dk⟩ := dat_dic_iff.mp dv
            obtain ⟨b, kws1, rfl, hb, dk1⟩ := dat_dic_iff.mp dv1
            have ek : kws1 = kws := by
              rcases one_get dk one' with ⟨e, z⟩ | ⟨i, v, z, e, _⟩
              · rcases one_get dk1 one' with ⟨e', z'⟩ | ⟨i', v', z', e', _⟩
                · rw [z, z']
                · rw [e] at e'
                  cases e'
              · rcases one_get dk1 one' with ⟨e', z'⟩ | ⟨i', v', z', e', _⟩
                · rw [e] at e'
                  cases e'
                · rw [e] at e'
                  cases e'
                  rw [z, z']
            subst ek
            refine lc_lock nn hv (hid_same _ _ ha) (f := fun _ => .bl true) ?_ (fun j kv hkv od O' H' s ow le oa Q' q' => ?_) fun p H' s hp dp => ?_
            · rcases one_get dk one' with ⟨e, z⟩ | ⟨i, v, z, e, _⟩
              · rw [z]
                decide
              · rw [z]
                show 1 ≤ 100000
                decide
            · rcases one_get dk one' with ⟨e, z⟩ | ⟨i, v, z, e, hval⟩
              · rw [z] at hkv
                cases hkv
              have ekv : kv = (Sum.inl i, V.int v) := by
                rw [z] at hkv
                exact List.mem_singleton.mp (List.mem_of_getElem? hkv)
              subst ekv
              have sl : ∀ {l : Nat} {u : V}, l ≠ 3 → σ[l]? = some (some u) → ((L2.wipe σ [3]).set 3 (some (kV (Sum.inl i))))[l]? = some (some u) := fun ne h => by
                show ((σ.set 3 none).set 3 _)[_]? = _
                rw [List.getElem?_set_ne (Ne.symm ne), List.getElem?_set_ne (Ne.symm ne)]
                exact h
              have l4 : 3 < σ.length := by rw [nn.env.1]; show 3 < 6; decide
              have s3 : ((L2.wipe σ [3]).set 3 (some (kV (Sum.inl i))))[3]? = some (some (kV (Sum.inl i))) := List.getElem?_set_self (by show 3 < (σ.set 3 none).length; rw [List.length_set]; exact l4)
              have r1 : DGet H' a (kV (Sum.inl i)) (some (.int v)) := .inl ⟨kws1, Sum.inl i, .inr ⟨od, s _ _ upd_same⟩, rfl, hval.symm⟩
              have r2 : DGet H' b (kV (Sum.inl i)) (some (.int v)) := .inl ⟨kws1, Sum.inl i, by
                by_cases e : b = a
                · rw [e]
                  exact .inr ⟨od, s _ _ upd_same⟩
                · exact .inl (s _ _ (by rw [upd_ne e]; exact hid_same _ _ hb)), rfl, hval.symm⟩
              refine ⟨.ref a, sl (by decide) hv, kV (Sum.inl i), s3, a, .int v, rfl, r1, .ref b, sl (by decide) hv1, kV (Sum.inl i), s3, b, .int v, rfl, r2, ?_⟩
              refine ⟨rfl, O', [.int v, .int v], ow, .cons (dat_int.mpr rfl) (.cons (dat_int.mpr rfl) .nil), ⟨.int v, rfl, ?_⟩, fun u H3 s3 d3 => q' u H3 s3 d3⟩
              obtain ⟨k, rfl⟩ := Nat.exists_eq_add_of_le' n2
              unfold Plain
              trivial
            · refine q _ _ s ?_
              have el : (List.range kws1.length).map (fun _ => D.bl true) = dB (kvs.map fun _ => true) := by
                rcases one_get dk one' with ⟨e, z⟩ | ⟨i, v, z, e, _⟩
                · rw [z, e]
                  rfl
                · rw [z, e]
                  rfl
              rw [← el]
              exact dp
          · congr 1
            rw [List.all_map]
            exact List.all_eq_true.mpr fun _ _ => rfl
        | _ => exact absurd h2 Bool.false_ne_true
      · have hsh : shp d = true := by
          cases d with
          | non => rfl
          | bl b => rfl
          | int i => rfl
          | str x => exact hd
          | dic _ => exact absurd h2.symm Bool.false_ne_true
          | lst es => exact absurd h.symm Bool.false_ne_true
          | tup es => exact absurd h.symm Bool.false_ne_true
          | _ => exact hd.elim
        refine sr_seq (sx_set (ev_is (z := .bl true) (ev_op (isi (by decide) (.inl rfl)) (isi (by decide) (.inr rfl)) (r2_eq shp_bl shp_bl)) (by rw [e2]))) ?_
        have isi' : ∀ {i : Nat}, i = 0 ∨ i = 1 → EvD K C (tCB (rIsi K) (tCons (tVar i) (tCons (tC (.ty "bool")) tNil))) ((startD ["_law_mine", "_law_theirs", "_law_alike", "_law_key", "_law_a", "_law_b"] [d, d]).set 2 (some (.bl true))) (.bl (isTy d "bool")) := fun hi => by
          rcases hi with rfl | rfl
          · exact ev_cb (ea_cons (ev_var rfl) (ea_cons ev_raw ea_nil)) (rc_isi hs (by decide))
          · exact ev_cb (ea_cons (ev_var rfl) (ea_cons ev_raw ea_nil)) (rc_isi hs (by decide))
        exact sr_ret (ev_is (z := .bl true) (ev_andV (b := true) (ev_var rfl) fun _ => ev_is (z := .bl true) (ev_andV (a := true) (b := true) (ev_is (z := .bl true) (ev_op (isi' (.inl rfl)) (isi' (.inr rfl)) (r2_eq shp_bl shp_bl)) (by rw [e2])) fun _ => ev_is (z := .bl true) (ev_op (ev_var rfl) (ev_var rfl) (r2_eq hsh hsh)) (by rw [eqD_refl hsh])) rfl) rfl)
theorem sc_law_same : FnScope ["_law_thing", "_law_item", "_law_key"] ["_law_thing"] (defScope (top 28)) := ⟨rfl, rfl, rfl, by decide +kernel, rfl, by decide +kernel, by decide +kernel⟩
-- slots: _law_thing=0 _law_item=1 _law_key=2
theorem ok_law_same (B : BFree mg) (F : DefAt K mg "_law_same" ["_law_thing"] (top 28) f fd) : ∀ n, DefOk P w K mg base "_law_same" n ["_law_thing"] (sp_same K C n)
  | 0 => ok_void F _ fun vs H Q E h => by
    obtain ⟨_, O, ds, _, _, ⟨d, _, h⟩, _⟩ := h
    exact h
  | n + 1 => by
    have D_law_same := ok_law_same B F n
    refine okF F sc_law_same fun cdv A outer s H E hr => ⟨_, (pss_cons (ps_if (pt_val (c_isi (K := K) B (pa_cons (pv 0) (pa_cons (n_ty (n := "dict") B) pa_nil)))) (pss_one (ps_ret (c_dictP (K := K) B (pa_cons (pe_lock (pe_lc (own := [("_law_key", 2)]) rfl sc_law_same.nd (pi_keys (pv 0)) (blkOk_by (own := [("_law_key", 2)]) (N := ["_law_thing", "_law_item", "_law_key"]) (sc := (defScope (top 28))) (by decide +kernel)) (fun _ _ _ _ _ => pg_name (i := 2) sc_law_same.nd rfl (.inl rfl)) (fun _ _ _ _ _ => pts_nil) (fun _ _ _ _ _ => (pe_tup (pa_cons (pv 2) (pa_cons (pe_def D_law_same (hr.mono (by first | decide | omega)) (pa_cons (pe_dget (Nat.lt_of_le_of_lt (Nat.add_le_add_left (by decide : 1 ≤ 64) _) hr.units) (pv 0) (pv 2) (fun _ _ => rfl)) pa_nil)) pa_nil)))))) pa_nil)))) pss_nil) (pss_cons (ps_if (pt_val (c_isi (K := K) B (pa_cons (pv 0) (pa_cons (n_ty (n := "list") B) pa_nil)))) (pss_one (ps_ret (pe_lc (own := [("_law_item", 1)]) rfl sc_law_same.nd (i_list (K := K) (pv 0)) (blkOk_by (own := [("_law_item", 1)]) (N := ["_law_thing", "_law_item", "_law_key"]) (sc := (defScope (top 28))) (by decide +kernel)) (fun _ _ _ _ _ => pg_name (i := 1) sc_law_same.nd rfl (.inl rfl)) (fun _ _ _ _ _ => pts_nil) (fun _ _ _ _ _ => (pe_def D_law_same (hr.mono (by first | decide | omega)) (pa_cons (pv 1) pa_nil)))))) pss_nil) (pss_one (ps_ret (pe_ifExp (pt_val (c_isi (K := K) B (pa_cons (pv 0) (pa_cons (n_ty (n := "tuple") B) pa_nil)))) (c_tuple (K := K) B (pa_cons (pe_lc (own := [("_law_item", 1)]) rfl sc_law_same.nd (i_tup (K := K) (pv 0)) (blkOk_by (own := [("_law_item", 1)]) (N := ["_law_thing", "_law_item", "_law_key"]) (sc := (defScope (top 28))) (by decide +kernel)) (fun _ _ _ _ _ => pg_name (i := 1) sc_law_same.nd rfl (.inl rfl)) (fun _ _ _ _ _ => pts_nil) (fun _ _ _ _ _ => (pe_def D_law_same (hr.mono (by first | decide | omega)) (pa_cons (pv 1) pa_nil)))) pa_nil)) (pv 0)))))), ?_⟩
    rintro ds ⟨d, rfl, hd⟩
    obtain ⟨s', hs⟩ := hd.ty
    refine sf_guard (et_B (ev_cb (ea_cons (ev_var rfl) (ea_cons ev_raw ea_nil)) (rc_isi hs (by decide)))) (fun h => ?_) (fun hfd => ?_)
    · cases d with
      | dic kvs =>
        obtain ⟨n2, one⟩ := hd
        have one' : OneI kvs := one
        refine sf_ret (ef_dicI one' (en_is (en_cb (ea_cons (d := .lst (kvs.map pairD)) (fun O σ H nn Q q => ?_) ea_nil) rn_dictP) (merge_one one')))
        obtain ⟨v, hv, dv⟩ := nn.env.2 0 _ rfl
        obtain ⟨a, kws, rfl, ha, dk⟩ := dat_dic_iff.mp dv
        refine lc_lock nn hv (hid_same _ _ ha) (f := fun j => ((kvs.map pairD)[j]?).getD .non) ?_ (fun j kv hkv od O' H' s ow le oa Q' q' => ?_) fun p H' s hp dp => ?_
        · rcases one_get dk one' with ⟨e, z⟩ | ⟨i, v, z, e, _⟩
          · rw [z]
            decide
          · rw [z]
            show 1 ≤ 100000
            decide
        · rcases one_get dk one' with ⟨e, z⟩ | ⟨i, v, z, e, hval⟩
          · rw [z] at hkv
            cases hkv
          have ekv : kv = (Sum.inl i, V.int v) := by
            rw [z] at hkv
            exact List.mem_singleton.mp (List.mem_of_getElem? hkv)
          have ej : j = 0 := by
            rw [z] at hkv
            have := (List.getElem?_eq_some_iff.mp hkv).1
            simpa using this
          subst ekv
          subst ej
          have l3 : 2 < σ.length := by rw [nn.env.1]; show 2 < 3; decide
          have s0 : ((L2.wipe σ [2]).set 2 (some (kV (Sum.inl i))))[0]? = some (some (.ref a)) := by
            show ((σ.set 2 none).set 2 _)[0]? = _
            rw [List.getElem?_set_ne (by decide), List.getElem?_set_ne (by decide)]
            exact hv
          have s2 : ((L2.wipe σ [2]).set 2 (some (kV (Sum.inl i))))[2]? = some (some (kV (Sum.inl i))) := List.getElem?_set_self (by show 2 < (σ.set 2 none).length; rw [List.length_set]; exact l3)
          have r1 : DGet H' a (kV (Sum.inl i)) (some (.int v)) := .inl ⟨kws, Sum.inl i, .inr ⟨od, s _ _ upd_same⟩, rfl, hval.symm⟩
          refine ⟨kV (Sum.inl i), s2, .ref a, s0, kV (Sum.inl i), s2, a, .int v, rfl, r1, ?_⟩
          refine ⟨rfl, O', [.int v], ow, .cons (dat_int.mpr rfl) .nil, ⟨.int v, rfl, ?_⟩, fun u H3 s3 d3 => ⟨by show 2 ≤ _; decide, fun p hp => ?_⟩⟩
          · obtain ⟨k, rfl⟩ := Nat.exists_eq_add_of_le' n2
            unfold Plain
            trivial
          · refine q' _ _ (s3.trans (same_new hp)) ?_
            have eu : u = .int v := dat_int.mp d3
            rw [e]
            exact new_tup (ow.same s3) hp (.cons (dat_int.mpr rfl) (.cons (dat_int.mpr eu) .nil))
        · refine q _ _ s ?_
          have el : (List.range kws.length).map (fun j => ((kvs.map pairD)[j]?).getD .non) = kvs.map pairD := by
            rcases one_get dk one' with ⟨e, z⟩ | ⟨i, v, z, e, _⟩
            · rw [z, e]
              rfl
            · rw [z, e]
              rfl
          rw [← el]
          exact dp
      | _ => exact absurd h Bool.false_ne_true
    refine sf_guard (et_B (ev_cb (ea_cons (ev_var rfl) (ea_cons ev_raw ea_nil)) (rc_isi hs (by decide)))) (fun h => ?_) (fun h => ?_)
    · cases d with
      | lst es =>
        obtain ⟨hl, hp⟩ := hd
        refine sf_ret (ef_is (z := .lst es) (ef_lc1 (f := id) (as := es) (g0 := id) (by rw [List.map_id]; exact ei_list (ev_var rfl)) (fun a ha => eg_name (by decide)) (fun a ha => ?_) hl) (by rw [List.map_id]))
        exact ef_is (z := a) (ef_call (ds := [a]) (ea_cons (ev_var rfl) ea_nil) rfl ⟨a, rfl, hp a ha⟩) rfl
      | _ => exact absurd h Bool.false_ne_true
    · refine sf_ret (ef_if (et_B (ev_cb (ea_cons (ev_var rfl) (ea_cons ev_raw ea_nil)) (rc_isi hs (by decide)))) (fun h3 => ?_) (fun h3 => ?_))
      · cases d with
        | tup es =>
          obtain ⟨hl, hp⟩ := hd
          refine ef_tup (ef_is (z := .lst es) (ef_lc1 (f := id) (as := es) (g0 := id) (by rw [List.map_id]; exact ei_tup (ev_var rfl)) (fun a ha => eg_name (by decide)) (fun a ha => ?_) hl) (by rw [List.map_id]))
          exact ef_is (z := a) (ef_call (ds := [a]) (ea_cons (ev_var rfl) ea_nil) rfl ⟨a, rfl, hp a ha⟩) rfl
        | _ => exact absurd h3 Bool.false_ne_true
      · refine ef_sca (ev_var rfl) ?_
        cases d with
        | lst es => exact absurd h.symm Bool.false_ne_true
        | tup es => exact absurd h3.symm Bool.false_ne_true
        | dic _ => exact absurd hfd.symm Bool.false_ne_true
        | rcp _ _ => exact hd.elim
        | dtp _ => cases hs
        | _ => rfl
end
end Zm


set_option Elab.async false
set_option linter.all false
set_option maxRecDepth 100000
set_option maxHeartbeats 4000000
set_option autoImplicit false
namespace Zm
open PySem PySem.Spec L2
def isCntD : D → Bool
  | .int i => decide (0 ≤ i)
  | _ => false
def isBelD (l : Int) : D → Bool
  | .int i => decide (0 ≤ i) && decide (i < l)
  | _ => false
def plainT (d : D) : Prop := ∃ s, tyD d = some s
def f_is_count (ds : List D) : D := match ds with
  | [d] => .bl (isCntD d)
  | _ => .non
def f_is_count_below (ds : List D) : D := match ds with
  | [d, .int l] => .bl (isBelD l d)
  | _ => .non
def asc (l : Int) : Int → List D → Bool
  | _, [] => true
  | last, .int i :: ds => decide (0 ≤ i) && decide (i < l) && decide (last < i) && asc l i ds
  | _, _ :: _ => false
def isAscD (l : Int) : D → Bool
  | .lst ds => asc l (-1) ds
  | _ => false
def asc0 : Int → List D → Bool
  | _, [] => true
  | last, .int i :: ds => decide (0 ≤ i) && decide (last < i) && asc0 i ds
  | _, _ :: _ => false
def isAsc0 : D → Bool
  | .lst ds => asc0 (-1) ds
  | _ => false
def ltD (l : Int) : D → Bool
  | .int i => decide (i < l)
  | _ => false
theorem asc0_asc (l : Int) : ∀ (ds : List D) (last : Int), (asc0 last ds && ds.all (ltD l)) = asc l last ds
  | [], _ => rfl
  | d :: ds, last => by
    cases d with
    | int i =>
      show ((decide (0 ≤ i) && decide (last < i) && asc0 i ds) && (decide (i < l) && ds.all (ltD l))) = (decide (0 ≤ i) && decide (i < l) && decide (last < i) && asc l i ds)
      rw [← asc0_asc l ds i]
      cases decide (0 ≤ i) <;> cases decide (last < i) <;> cases decide (i < l) <;> cases asc0 i ds <;> rfl
    | _ => rfl
theorem asc0_int : ∀ (ds : List D) (last : Int), asc0 last ds = true → ∀ d ∈ ds, ∃ i, d = .int i
  | [], _, _, d, hd => absurd hd (List.not_mem_nil)
  | e :: ds, last, h, d, hd => by
    cases e with
    | int i =>
      have h' : (decide (0 ≤ i) && decide (last < i) && asc0 i ds) = true := h
      rw [Bool.and_eq_true] at h'
      rcases List.mem_cons.mp hd with q | q
      · exact ⟨i, q⟩
      · exact asc0_int ds i h'.2 d q
    | _ => exact absurd h Bool.false_ne_true
def f_is_ascending (ds : List D) : D := match ds with
  | [d] => .bl (isAsc0 d)
  | _ => .non
def f_is_ascending_below (ds : List D) : D := match ds with
  | [d, .int l] => .bl (isAscD l d)
  | _ => .non
abbrev sp_is_count (K : PySem.W.Frag) (C : Addr) : Sp := SpD K C (fun ds => ∃ d, ds = [d] ∧ plainT d) f_is_count 1
abbrev sp_is_count_below (K : PySem.W.Frag) (C : Addr) : Sp := SpD K C (fun ds => ∃ d l, ds = [d, .int l] ∧ plainT d) f_is_count_below 2
def itemsT : D → Prop
  | .lst ds => ∀ d ∈ ds, plainT d
  | _ => True
def lenT : D → Prop
  | .lst ds => ds.length ≤ 100000
  | _ => True
abbrev sp_is_ascending (K : PySem.W.Frag) (C : Addr) : Sp := SpD K C (fun ds => ∃ d, ds = [d] ∧ plainT d ∧ itemsT d) f_is_ascending 1
abbrev sp_is_ascending_below (K : PySem.W.Frag) (C : Addr) : Sp := SpD K C (fun ds => ∃ d l, ds = [d, .int l] ∧ plainT d ∧ itemsT d ∧ lenT d) f_is_ascending_below 2
section
variable {P : Program} {w : World} {K : PySem.W.Frag} {mg : Str → Option Value} {base : Heap} {f C : Addr} {fd : FuncData}
theorem sc_is_count : FnScope ["value"] ["value"] (defScope (top 7)) := ⟨rfl, rfl, rfl, by decide +kernel, rfl, by decide +kernel, by decide +kernel⟩
theorem ok_is_count (B : BFree mg) (F : DefAt K mg "is_count" ["value"] (top 7) f fd) : DefOk P w K mg base "is_count" 1 ["value"] (sp_is_count K C) := by
  refine okD F sc_is_count fun cdv A outer s H E hr => ⟨_, (pss_one (ps_ret (pe_and (c_isi (K := K) B (pa_cons (pv 0) (pa_cons (n_ty (n := "int") B) pa_nil))) (pe_and (pe_not (c_isi (K := K) B (pa_cons (pv 0) (pa_cons (n_ty (n := "bool") B) pa_nil)))) (pe_one (pe_cmpR op_ge (pv 0) pe_int (nomark _))))))), ?_⟩
  rintro ds ⟨d, rfl, s, hs⟩
  refine sr_ret (ev_is (ev_andV (b := !isTy d "bool" && isCntD d) (ev_cb (ea_cons (ev_var rfl) (ea_cons ev_raw ea_nil)) (rc_isi hs (by decide))) fun h1 => ev_andV (ev_notV (ev_cb (ea_cons (ev_var rfl) (ea_cons ev_raw ea_nil)) (rc_isi hs (by decide)))) fun h2 => ?_) ?_)
  · cases d with
    | int i => exact ev_op (ev_var rfl) ev_int r2_Ib
    | bl b => exact absurd h2 Bool.false_ne_true
    | _ => exact absurd h1 Bool.false_ne_true
  · cases d <;> rfl
/-- where an ascending list stops to be one -/
theorem asc0_split : ∀ (ds : List D) (last : Int), ∃ k, k ≤ ds.length ∧ ∃ g : Nat → Int, g 0 = last ∧ (∀ i, i < k → ds[i]? = some (.int (g (i + 1))) ∧ 0 ≤ g (i + 1) ∧ g i < g (i + 1)) ∧
    (k = ds.length → asc0 last ds = true) ∧ ∀ d, ds[k]? = some d → asc0 last ds = false ∧ (isCntD d = true → ∃ n, d = .int n ∧ n ≤ g k)
  | [], last => ⟨0, Nat.le_refl _, fun _ => last, rfl, fun i h => absurd h (Nat.not_lt_zero _), fun _ => rfl, fun d h => by simp at h⟩
  | d :: ds, last => by
    by_cases hd : ∃ n, d = .int n ∧ 0 ≤ n ∧ last < n
    · obtain ⟨n, rfl, h0, h2⟩ := hd
      obtain ⟨k, hk, g, g0, ha, hb, hc⟩ := asc0_split ds n
      have e : asc0 last (.int n :: ds) = asc0 n ds := by
        show (decide (0 ≤ n) && decide (last < n) && asc0 n ds) = asc0 n ds
        rw [decide_eq_true h0, decide_eq_true h2]
        rfl
      refine ⟨k + 1, by rw [List.length_cons]; omega, fun i => match i with | 0 => last | i + 1 => g i, rfl, fun i hi => ?_, fun h => ?_, fun d h => ?_⟩
      · cases i with
        | zero =>
          show (D.int n :: ds)[0]? = some (.int (g 0)) ∧ 0 ≤ g 0 ∧ last < g 0
          rw [g0]
          exact ⟨rfl, h0, h2⟩
        | succ i =>
          have q := ha i (by omega)
          exact ⟨by simpa using q.1, q.2⟩
      · rw [e]
        exact hb (by rw [List.length_cons] at h; omega)
      · rw [e]
        exact hc d (by simpa using h)
    · refine ⟨0, Nat.zero_le _, fun _ => last, rfl, fun i h => absurd h (Nat.not_lt_zero _), fun h => by rw [List.length_cons] at h; omega, fun e h => ?_⟩
      have he : d = e := by simpa using h
      subst he
      cases d with
      | int n =>
        constructor
        · show (decide (0 ≤ n) && decide (last < n) && asc0 n ds) = false
          cases q : (decide (0 ≤ n) && decide (last < n)) with
          | false => rfl
          | true =>
            exfalso
            rw [Bool.and_eq_true, decide_eq_true_eq, decide_eq_true_eq] at q
            exact hd ⟨n, rfl, q.1, q.2⟩
        · intro q
          have q' : decide (0 ≤ n) = true := q
          rw [decide_eq_true_eq] at q'
          refine ⟨n, rfl, ?_⟩
          show n ≤ last
          have q3 : ¬ last < n := fun h => hd ⟨n, rfl, q', h⟩
          omega
      | _ => exact ⟨rfl, fun q => absurd q Bool.false_ne_true⟩
theorem sc_is_ascending : FnScope ["value", "last", "item"] ["value"] (defScope (top 8)) := ⟨rfl, rfl, rfl, by decide +kernel, rfl, by decide +kernel, by decide +kernel⟩
theorem ok_is_ascending (B : BFree mg) (D_is_count : DefOk P w K mg base "is_count" 1 ["value"] (sp_is_count K C)) (F : DefAt K mg "is_ascending" ["value"] (top 8) f fd) :
    DefOk P w K mg base "is_ascending" 2 ["value"] (sp_is_ascending K C) := by
  refine okD F sc_is_ascending fun cdv A outer s H E hr => ⟨_, (pss_cons (ps_if (pt_not (pt_val (c_isi (K := K) B (pa_cons (pv 0) (pa_cons (n_ty (n := "list") B) pa_nil))))) (pss_one (ps_ret pe_bl)) pss_nil) (pss_cons (ps_set (i := 1) sc_is_ascending.nd rfl (.inl rfl) (pe_un un_neg pe_int)) (pss_cons (ps_for PassesOwn.never rfl (i_list (K := K) (pv 0)) (pg_name (i := 2) sc_is_ascending.nd rfl (.inl rfl)) (pss_cons (ps_if (PW.pt (pw_or (pt_not (pt_val (pe_def D_is_count (hr.mono (by first | decide | omega)) (pa_cons (pv 2) pa_nil)))) (pw_or1 (pt_cmpR op_le (pv 2) (pv 1) (nomark _))))) (pss_one (ps_ret pe_bl)) pss_nil) (pss_one (ps_set (i := 1) sc_is_ascending.nd rfl (.inl rfl) (pv 2))))) (pss_one (ps_ret pe_bl))))), ?_⟩
  rintro ds ⟨d, rfl, ⟨s, hs⟩, hi⟩
  refine sr_guard (b := !isTy d "list") (et_not (et_B (ev_cb (ea_cons (ev_var rfl) (ea_cons ev_raw ea_nil)) (rc_isi hs (by decide))))) (fun h => ?_) (fun h => ?_)
  · refine sr_ret (ev_is ev_bl ?_)
    cases d with
    | lst ds => exact absurd h (by show ¬ (false = true); decide)
    | _ => rfl
  · cases d with
    | lst ds =>
      obtain ⟨k, hk, g, g0, ha, hb, hc⟩ := asc0_split ds (-1)
      refine sr_seq (sx_set (ev_is (z := .int (-1)) (ev_un ev_int r1_U) rfl)) ?_
      refine sr_for (as := ds) (g0 := id) (δs := fun i => [some (.lst ds), some (.int (g i)), none]) k hk (by rw [List.map_id]; exact ei_list (ev_var rfl)) ?_ (fun i a hik hia => ?_) (fun a hia => ?_) (fun hkl => ?_)
      · rw [g0]
        exact ⟨rfl, fun i d h => h⟩
      · obtain ⟨q1, q2, q4⟩ := ha i hik
        rw [hia] at q1
        cases q1
        refine ⟨_, ega_name, sx_seq (δ' := [some (.lst ds), some (.int (g i)), some (.int (g (i + 1)))]) (sx_if (b := false) (et_is (et_or (et_not (et_B (ev_is (z := .bl (isCntD (.int (g (i + 1))))) (ev_call (ea_cons (ev_var rfl) ea_nil) rfl ⟨_, rfl, _, rfl⟩) rfl))) (fun _ => et_test (ev_op (ev_var rfl) (ev_var rfl) r2_Ib))) ?_) (fun h => absurd h Bool.false_ne_true) (fun _ => sx_next)) (sx_weak (sx_set (ev_var rfl)) ⟨rfl, fun j d h => ?_⟩)⟩
        · show (!(decide (0 ≤ g (i + 1))) || decide (g (i + 1) ≤ g i)) = false
          rw [decide_eq_true q2, decide_eq_false (by omega)]
          rfl
        · match j, h with
          | 0, h => exact h
          | 1, h => exact h
          | 2, h => cases h
      · obtain ⟨q1, q2⟩ := hc a hia
        have ht : plainT a := hi a (List.mem_of_getElem? hia)
        refine ⟨_, ega_name, sr_seq1 (sr_if (b := true) (et_is (et_or (a := !isCntD a) (b := true) (et_not (et_B (ev_is (z := .bl (isCntD a)) (ev_call (ea_cons (ev_var rfl) ea_nil) rfl ⟨_, rfl, ht⟩) rfl))) (fun h => ?_)) (Bool.or_true _)) (fun _ => sr_ret (ev_is ev_bl ?_)) (fun h => absurd h.symm Bool.false_ne_true))⟩
        · obtain ⟨n, rfl, hn⟩ := q2 (by rw [Bool.not_eq_false'] at h; exact h)
          exact et_is (et_test (ev_op (ev_var rfl) (ev_var rfl) r2_Ib)) (decide_eq_true hn)
        · show D.bl false = D.bl (asc0 (-1) ds)
          rw [q1]
      · refine sr_ret (ev_is ev_bl ?_)
        show D.bl true = D.bl (asc0 (-1) ds)
        rw [hb hkl]
    | _ => exact absurd h (by show ¬ (true = false); decide)
theorem sc_is_ascending_below : FnScope ["value", "limit", "item"] ["value", "limit"] (defScope (top 9)) := ⟨rfl, rfl, rfl, by decide +kernel, rfl, by decide +kernel, by decide +kernel⟩
theorem ok_is_ascending_below (B : BFree mg) (D_is_ascending : DefOk P w K mg base "is_ascending" 2 ["value"] (sp_is_ascending K C)) (F : DefAt K mg "is_ascending_below" ["value", "limit"] (top 9) f fd) :
    DefOk P w K mg base "is_ascending_below" 3 ["value", "limit"] (sp_is_ascending_below K C) := by
  refine okD F sc_is_ascending_below fun cdv A outer s H E hr => ⟨_, (pss_one (ps_ret (pe_and (pe_def D_is_ascending (hr.mono (by first | decide | omega)) (pa_cons (pv 0) pa_nil)) (pe_one (c_all (K := K) B (pa_cons (pe_lc (own := [("item", 2)]) rfl sc_is_ascending_below.nd (i_list (K := K) (pv 0)) (blkOk_by (own := [("item", 2)]) (N := ["value", "limit", "item"]) (sc := (defScope (top 9))) (by decide +kernel)) (fun _ _ _ _ _ => pg_name (i := 2) sc_is_ascending_below.nd rfl (.inl rfl)) (fun _ _ _ _ _ => pts_nil) (fun _ _ _ _ _ => (pe_cmpR op_lt (pv 2) (pv 1) (nomark _)))) pa_nil)))))), ?_⟩
  rintro ds ⟨d, l, rfl, hs, hi, hn⟩
  refine sr_ret (ev_is (z := .bl (isAscD l d)) (ev_andV (a := isAsc0 d) (b := isAscD l d) (ev_is (ev_call (ds := [d]) (ea_cons (ev_var rfl) ea_nil) rfl ⟨d, rfl, hs, hi⟩) rfl) fun h1 => ?_) ?_)
  · cases d with
    | lst ds =>
      have h1' : asc0 (-1) ds = true := h1
      refine ev_is (ev_cb (ea_cons (ev_is (z := .lst (dB (ds.map (ltD l)))) (en_lc1 (as := ds) (g0 := id) (f := fun d => .bl (ltD l d)) (by rw [List.map_id]; exact ei_list (ev_var rfl)) (fun a ha => eg_name (by decide)) (fun a ha => ?_) hn).toD (by unfold dB; rw [List.map_map]; rfl)) ea_nil) rc_all) ?_
      · obtain ⟨i, rfl⟩ := asc0_int ds (-1) h1' a ha
        exact ev_is (ev_op (ev_var rfl) (ev_var rfl) r2_Ib) rfl
      · congr 1
        show _ = asc l (-1) ds
        rw [← asc0_asc, h1', Bool.true_and, List.all_map]
        rfl
    | _ => exact absurd h1 Bool.false_ne_true
  · cases d with
    | lst ds =>
      show D.bl (asc0 (-1) ds && asc l (-1) ds) = D.bl (asc l (-1) ds)
      rw [← asc0_asc]
      cases asc0 (-1) ds <;> rfl
    | _ => rfl
end
end Zm


set_option Elab.async false
set_option linter.all false
set_option maxRecDepth 100000
set_option maxHeartbeats 4000000
set_option autoImplicit false
namespace Zm
open PySem PySem.Spec L2
abbrev isRcp (ds : List D) : Prop := ∃ m rows, ds = [.rcp m rows] ∧ ValidR m rows
abbrev f_many (ds : List D) : D := match ds with
  | [.rcp m _] => .int m
  | _ => .non
abbrev f_size (ds : List D) : D := match ds with
  | [.rcp _ rows] => .int rows.length
  | _ => .non
abbrev f_needs (ds : List D) : D := match ds with
  | [.rcp _ rows] => rowsL rows
  | _ => .non
abbrev f_are_needs (ds : List D) : D := .bl true
abbrev sp_are_needs (K : PySem.W.Frag) (C : Addr) : Sp := SpD K C (fun ds => ∃ m rows, ds = [.int m, rowsL rows] ∧ ValidR m rows) f_are_needs 2
abbrev sp_many (K : PySem.W.Frag) (C : Addr) : Sp := SpD K C isRcp f_many 1
abbrev sp_size (K : PySem.W.Frag) (C : Addr) : Sp := SpD K C isRcp f_size 1
abbrev sp_needs (K : PySem.W.Frag) (C : Addr) : Sp := SpF K C isRcp f_needs 1
section
variable {P : Program} {w : World} {K : PySem.W.Frag} {mg : Str → Option Value} {base : Heap} {f C : Addr} {fd : FuncData}
theorem sc_Recipe_many : FnScope ["self"] ["self"] (defScope (inClass (top 12) 1)) := ⟨rfl, rfl, rfl, by decide +kernel, rfl, by decide +kernel, by decide +kernel⟩
theorem ok_many (cl : Cls K C) (na : NoAttr K C sMany) (F : MethAt K C "many" "Recipe.many" ["self"] (inClass (top 12) 1) f fd) : MethOk P w K mg base C "many" 1 ["self"] (sp_many K C) := by
  refine F.okD cl sc_Recipe_many fun cdv A outer s H E hr => ⟨_, (pss_one (ps_ret (e_fld (K := K) (pv 0)))), ?_⟩
  rintro ds ⟨m, rows, rfl, _⟩
  exact sr_ret (ev_many cl na (ev_var rfl))
theorem sc_Recipe_size : FnScope ["self"] ["self"] (defScope (inClass (top 12) 3)) := ⟨rfl, rfl, rfl, by decide +kernel, rfl, by decide +kernel, by decide +kernel⟩
theorem ok_size (B : BFree mg) (cl : Cls K C) (na : NoAttr K C sNeeds) (F : MethAt K C "size" "Recipe.size" ["self"] (inClass (top 12) 3) f fd) : MethOk P w K mg base C "size" 1 ["self"] (sp_size K C) := by
  refine F.okD cl sc_Recipe_size fun cdv A outer s H E hr => ⟨_, (pss_one (ps_ret (c_len (K := K) B (pa_cons (e_fld (K := K) (pv 0)) pa_nil)))), ?_⟩
  rintro ds ⟨m, rows, rfl, _⟩
  exact sr_ret (ev_is (z := .int rows.length) (ev_cb (ea_cons (ev_needs cl na (ev_var rfl)) ea_nil) rc_lenT) (by rw [List.length_map]))
theorem sc_Recipe_needs : FnScope ["self", "row"] ["self"] (defScope (inClass (top 12) 2)) := ⟨rfl, rfl, rfl, by decide +kernel, rfl, by decide +kernel, by decide +kernel⟩
theorem ok_needs (B : BFree mg) (cl : Cls K C) (na : NoAttr K C sNeeds) (F : MethAt K C "needs" "Recipe.needs" ["self"] (inClass (top 12) 2) f fd) : MethOk P w K mg base C "needs" 1 ["self"] (sp_needs K C) := by
  refine F.okF cl sc_Recipe_needs fun cdv A outer s H E hr => ⟨_, (pss_one (ps_ret (pe_lc (own := [("row", 1)]) rfl sc_Recipe_needs.nd (i_tup (K := K) (e_fld (K := K) (pv 0))) (blkOk_by (own := [("row", 1)]) (N := ["self", "row"]) (sc := (defScope (inClass (top 12) 2))) (by decide +kernel)) (fun _ _ _ _ _ => pg_name (i := 1) sc_Recipe_needs.nd rfl (.inl rfl)) (fun _ _ _ _ _ => pts_nil) (fun _ _ _ _ _ => (c_list (K := K) B (pa_cons (pv 1) pa_nil)))))), ?_⟩
  rintro ds ⟨m, rows, rfl, hv⟩
  exact sf_ret (ef_lc1 (g0 := fun r => D.tup (dI r)) (f := fun r => D.lst (dI r)) (as := rows) (ei_tup (ev_needs cl na (ev_var rfl))) (fun a ha => eg_name (by decide)) (fun a ha => ef_of (en_cb (ea_cons (ev_var rfl) ea_nil) rn_listT) (sca_ints a)) (by have := hv.2.2.1; omega))
theorem asc_ok {m : Int} : ∀ {ns : List Int} {last : Int}, (∀ x ∈ ns, 0 ≤ x ∧ x < m) → ns.Pairwise (· < ·) → (∀ x ∈ ns, last < x) → asc m last (dI ns) = true
  | [], _, _, _, _ => rfl
  | n :: ns, last, h1, h2, h3 => by
    rw [List.pairwise_cons] at h2
    obtain ⟨a, b⟩ := h1 n (List.mem_cons_self ..)
    show (decide (0 ≤ n) && decide (n < m) && decide (last < n) && asc m n (dI ns)) = true
    rw [decide_eq_true a, decide_eq_true b, decide_eq_true (h3 n (List.mem_cons_self ..)), asc_ok (fun x hx => h1 x (List.mem_cons_of_mem _ hx)) h2.2 h2.1]
    rfl
theorem isAsc_row {m : Int} {ns : List Int} (h : RowOk m ns) : isAscD m (.lst (dI ns)) = true := asc_ok h.2 h.1 fun x hx => by have := (h.2 x hx).1; omega
theorem plain_row {ns : List Int} : plainT (.lst (dI ns)) ∧ itemsT (.lst (dI ns)) := ⟨⟨_, rfl⟩, fun d hd => by
  obtain ⟨n, _, rfl⟩ := List.mem_map.mp hd
  exact ⟨_, rfl⟩⟩
theorem len_row {ns : List Int} (h : ns.length ≤ 100000) : lenT (.lst (dI ns)) := by
  show (dI ns).length ≤ 100000
  unfold dI
  rw [List.length_map]
  exact h
theorem up_len : ∀ {ns : List Int} {lo hi : Int}, ns.Pairwise (· < ·) → (∀ x ∈ ns, lo ≤ x ∧ x < hi) → ns.length ≤ (hi - lo).toNat
  | [], _, _, _, _ => Nat.zero_le _
  | n :: ns, lo, hi, h, g => by
    rw [List.pairwise_cons] at h
    have a := g n (List.mem_cons_self ..)
    have b := up_len (lo := n + 1) (hi := hi) h.2 fun x hx => by
      have c := h.1 x hx
      have d := (g x (List.mem_cons_of_mem _ hx)).2
      omega
    rw [List.length_cons]
    omega
theorem row_lenN {n : Nat} {ns : List Int} (h : RowOk n ns) : ns.length ≤ n := by
  have := up_len h.1 h.2
  omega
theorem sc_are_needs : FnScope ["many", "needs", "row"] ["many", "needs"] (defScope (top 13)) := ⟨rfl, rfl, rfl, by decide +kernel, rfl, by decide +kernel, by decide +kernel⟩
theorem ok_are_needs (B : BFree mg) (D_is_ascending_below : DefOk P w K mg base "is_ascending_below" 3 ["value", "limit"] (sp_is_ascending_below K C)) (F : DefAt K mg "_are_needs" ["many", "needs"] (top 13) f fd) : DefOk P w K mg base "_are_needs" 4 ["many", "needs"] (sp_are_needs K C) := by
  refine okD F sc_are_needs fun cdv A outer s H E hr => ⟨_, (pss_cons (ps_if (PW.pt (pw_or (pt_not (pt_val (c_isi (K := K) B (pa_cons (pv 1) (pa_cons (n_ty (n := "list") B) pa_nil))))) (pw_or1 (pt_cmpR (o_eq (K := K) (by exact hr.units)) (c_len (K := K) B (pa_cons (pv 1) pa_nil)) pe_int (nomark _))))) (pss_one (ps_ret pe_bl)) pss_nil) (pss_one (ps_ret (c_all (K := K) B (pa_cons (pe_lc (own := [("row", 2)]) rfl sc_are_needs.nd (i_list (K := K) (pv 1)) (blkOk_by (own := [("row", 2)]) (N := ["many", "needs", "row"]) (sc := (defScope (top 13))) (by decide +kernel)) (fun _ _ _ _ _ => pg_name (i := 2) sc_are_needs.nd rfl (.inl rfl)) (fun _ _ _ _ _ => pts_nil) (fun _ _ _ _ _ => (pe_def D_is_ascending_below (hr.mono (by first | decide | omega)) (pa_cons (pv 2) (pa_cons (pv 0) pa_nil))))) pa_nil))))), ?_⟩
  rintro ds ⟨m, rows, rfl, hv⟩
  have hl : (rows.map fun r => D.lst (dI r)).length = rows.length := List.length_map _
  refine sr_guard (b := false) (et_is (et_or (et_not (et_B (ev_cb (ea_cons (ev_var rfl) (ea_cons ev_raw ea_nil)) (rc_isi rfl (by decide))))) fun _ => et_test (ev_op (ev_cb (ea_cons (ev_var rfl) ea_nil) rc_lenL) ev_int (r2_eq shp_int shp_int))) ?_) (fun h => absurd h Bool.false_ne_true) (fun _ => ?_)
  · rw [eqD_int, hl]
    have e : decide ((rows.length : Int) = 0) = false := decide_eq_false (by have := hv.2.1; omega)
    rw [e]
    rfl
  · refine sr_ret (ev_is (z := .bl true) (ev_cb (ea_cons (ev_is (z := .lst (dB (rows.map fun _ => true))) (en_lc1 (as := rows) (g0 := fun r => D.lst (dI r)) (ei_list (ev_var rfl)) (fun a ha => eg_name (by decide)) (fun a ha => ev_is (z := .bl true) (ev_call (ds := [.lst (dI a), .int m]) (ea_cons (ev_var rfl) (ea_cons (ev_var rfl) ea_nil)) rfl ⟨_, _, rfl, plain_row.1, plain_row.2, len_row (by have := (hv.2.2.2 a ha).2; omega)⟩) ?_) (by have := hv.2.2.1; omega)).toD (by unfold dB; rw [List.map_map]; rfl)) ea_nil) rc_all) ?_)
    · show D.bl (isAscD m (.lst (dI a))) = .bl true
      rw [isAsc_row (hv.2.2.2 a ha).1]
    · congr 1
      rw [List.all_map]
      exact List.all_eq_true.mpr fun _ _ => rfl
theorem sc_Recipe___init__ : FnScope ["self", "many", "needs", "row"] ["self", "many", "needs"] (defScope (inClass (top 12) 0)) := ⟨rfl, rfl, rfl, by decide +kernel, rfl, by decide +kernel, by decide +kernel⟩
theorem ok_init (B : BFree mg) (cl : Cls K C) (na : NoAttr K C sMany) (na2 : NoAttr K C sNeeds) (D_is_count : DefOk P w K mg base "is_count" 1 ["value"] (sp_is_count K C)) (D_are_needs : DefOk P w K mg base "_are_needs" 4 ["many", "needs"] (sp_are_needs K C))
    (mk : Mk K C f) (hg : mg "Recipe" = some (.ref C)) (F : FunD K "__init__" "Recipe.__init__" (defArgs (inClass (top 12) 0)) (defBody (inClass (top 12) 0)) (defScope (inClass (top 12) 0)) [] [] f fd) (bi : Binds K fd ["self", "many", "needs"] []) : MakeOk P w K mg base C "Recipe" 5 ["self", "many", "needs"] (spInit K C) := by
  refine ⟨f, fd, F.ok sc_Recipe___init__ (fun vs H Q E h => ?_) fun cdv A outer s H vs Q E hr h => ?_, mk, hg, bi⟩
  · obtain ⟨x, dx, m, rows, v, O, H0, rfl, _⟩ := h
    rfl
  · obtain ⟨x, dx, m, rows, v, O, H0, rfl, hx, s0, hX, o, hv, ok, hQ⟩ := h
    suffices hh : ∃ t, PSs (cxOf CX0 P w K mg base ["self", "many", "needs", "row"] "Recipe.__init__" (defScope (inClass (top 12) 0)) f cdv A outer s H E).nox (defBody (inClass (top 12) 0)) t ∧ t { nx := fun _ H' => Q .non H', rt := Q } (L2.start ["self", "many", "needs", "row"] [.ref x, .int m, v]) H by
      obtain ⟨t, h1, h2⟩ := hh
      exact ⟨t, PSs.nox h1, h2⟩
    refine ⟨_, (pss_cons (ps_if (pt_not (pt_val (pe_def D_is_count (hr.mono (by first | decide | omega)) (pa_cons (pv 1) pa_nil)))) (pss_one ps_never) pss_nil) (pss_cons (ps_if (pt_not (pt_val (pe_def D_are_needs (hr.mono (by first | decide | omega)) (pa_cons (pv 1) (pa_cons (pv 2) pa_nil))))) (pss_one ps_never) pss_nil) (pss_cons (ps_fld (pv 0) (pv 1) rfl) (pss_one (ps_fld (pv 0) (c_tuple (K := K) B (pa_cons (pe_lc (own := [("row", 3)]) rfl sc_Recipe___init__.nd (i_list (K := K) (pv 2)) (blkOk_by (own := [("row", 3)]) (N := ["self", "many", "needs", "row"]) (sc := (defScope (inClass (top 12) 0))) (by decide +kernel)) (fun _ _ _ _ _ => pg_name (i := 3) sc_Recipe___init__.nd rfl (.inl rfl)) (fun _ _ _ _ _ => pts_nil) (fun _ _ _ _ _ => (c_tuple (K := K) B (pa_cons (pv 3) pa_nil)))) pa_nil)) rfl))))), ?_⟩
    have o1 : OIn (addO O x) H := (o.same s0).add ⟨_, hX, trivial⟩
    have s1 : Same (hid O H0) (hid (addO O x) H) := (add_fresh hx).trans (same_hid s0)
    have n0 := at_start (N := ["self", "many", "needs", "row"]) o1 (.cons (d := .raw (.ref x)) (dat_raw.mpr rfl) (.cons (d := .int m) (dat_int.mpr rfl) (.one (hv.same s1))))
    refine (sx_if (b := false) (δ' := startD ["self", "many", "needs", "row"] [.raw (.ref x), .int m, rowsL rows]) (et_is (et_not (et_B (ev_is (z := .bl true) (ev_call (ds := [.int m]) (ea_cons (ev_var rfl) ea_nil) rfl ⟨_, rfl, _, rfl⟩) ?_))) rfl) (fun h => absurd h Bool.false_ne_true) (fun _ => sx_next)) _ _ _ n0 _ fun σ1 H1 s2 n1 => ?_
    · show D.bl (decide (0 ≤ m)) = .bl true
      rw [decide_eq_true ok.1]
    refine (sx_if (b := false) (δ' := startD ["self", "many", "needs", "row"] [.raw (.ref x), .int m, rowsL rows]) (et_is (et_not (et_B (ev_is (z := .bl true) (ev_call (ds := [.int m, rowsL rows]) (ea_cons (ev_var rfl) (ea_cons (ev_var rfl) ea_nil)) rfl ⟨m, rows, rfl, ok⟩) rfl))) rfl) (fun h => absurd h Bool.false_ne_true) (fun _ => sx_next)) _ _ _ n1 _ fun σ2 H2 s3 n2 => ?_
    dsimp only [tSeq, sFld]
    refine (ev_var (i := 1) (d := .int m) rfl) _ _ _ n2 _ fun y H3 s4 d4 => ?_
    refine (ev_var (i := 0) (d := .raw (.ref x)) rfl) _ _ _ (n2.same s4) _ fun z H4 s5 d5 => ?_
    have e4 := dat_int.mp d4
    have e5 := dat_raw.mp d5
    subst e4 e5
    have s14 : Same H H4 := ((s2.trans s3).trans s4).trans s5
    refine ⟨x, C, dx, [], rfl, s14 _ _ hX, cl, na, by decide, ?_⟩
    rw [put_many]
    have n4 := (n2.same (s4.trans s5)).write (o := .ins C dx [(sMany, V.int m)])
    refine (ef_tup (ef_lc1 (as := rows) (g0 := fun r => D.lst (dI r)) (f := fun r => D.tup (dI r)) (ei_list (ev_var rfl)) (fun a ha => eg_name (by decide)) (fun a ha => ef_ofT (en_cb (ea_cons (ev_var rfl) ea_nil) rn_tupL) (sca_ints a)) (by have := ok.2.2.1; omega))) _ _ _ n4 _ fun y H5 s6 d6 => ?_
    refine (ev_var (i := 0) (d := .raw (.ref x)) rfl) _ _ _ (n4.same s6) _ fun z H6 s7 d7 => ?_
    have e7 := dat_raw.mp d7
    subst e7
    refine ⟨x, C, dx, _, rfl, s7 _ _ (s6 _ _ upd_same), cl, na2, by show 1 < 1000; decide, ?_⟩
    obtain ⟨t, xs, rfl, h1, h2⟩ := dat_tup_iff.mp d6
    rw [put_needs]
    have s04 : Same H0 (upd H4 x (.ins C dx [(sMany, V.int m)])) := same_mut (s0.trans s14) hx
    have hdx : dom (upd H4 x (.ins C dx [(sMany, V.int m)])) x = true := by unfold dom; rw [upd_same]; rfl
    refine hQ _ (same_mut (s04.trans (s6.trans s7)) hx) (dat_rcp_iff.mpr ⟨x, dx, t, xs, rfl, ?_, ?_, ?_⟩)
    · unfold hid dom
      rw [hx]
      exact upd_same
    · refine dom_le s04 _ _ ?_
      rw [hid_upd hdx]
      exact same_hid s7 _ _ h1
    · have h3 := dats_rows (h2.same (same_hid s7))
      rw [← hid_upd (o := .ins C dx (fsR m t)) hdx] at h3
      exact RowsT.same (dom_le s04) _ _ h3
abbrev sp_check_recipe (K : PySem.W.Frag) (C : Addr) : Sp := SpD K C isRcp (fun _ => .non) 1
theorem sc_check_recipe : FnScope ["recipe"] ["recipe"] (defScope (top 14)) := ⟨rfl, rfl, rfl, by decide +kernel, rfl, by decide +kernel, by decide +kernel⟩
theorem ok_check_recipe (B : BFree mg) (R : RecFacts K C) (G_Recipe : mg "Recipe" = some (.ref C)) (F : DefAt K mg "check_recipe" ["recipe"] (top 14) f fd) : DefOk P w K mg base "check_recipe" 1 ["recipe"] (sp_check_recipe K C) := by
  refine F.ok sc_check_recipe (fun vs H Q E h => h.1) (fun cdv A outer s H vs Q E hr h => ?_)
  refine ⟨_, (pss_one (ps_if (pt_not (pt_val (c_isi (K := K) B (pa_cons (pv 0) (pa_cons (n_cl G_Recipe) pa_nil))))) (pss_one ps_never) pss_nil)), ?_⟩
  obtain ⟨_, O, ds, o, hd, ⟨m, rows, rfl, _⟩, hQ⟩ := h
  exact (sx_if (b := false) (δ' := startD ["recipe"] [.rcp m rows]) (et_is (et_not (et_B (ev_cb (ea_cons (ev_var rfl) (ea_cons ev_raw ea_nil)) (rc_isiR R)))) rfl) (fun h => absurd h Bool.false_ne_true) (fun _ => sx_next)) _ _ _ (at_start o hd) _ fun σ' H' s _ => hQ _ H' s (dat_non.mpr rfl)
abbrev f_needs_of (ds : List D) : D := match ds with
  | [.rcp _ rows, .int b] => .lst (dI (rows.getD b.toNat []))
  | _ => .non
abbrev sp_needs_of (K : PySem.W.Frag) (C : Addr) : Sp := SpF K C (fun ds => ∃ m rows b, ds = [.rcp m rows, .int b] ∧ ValidR m rows ∧ 0 ≤ b ∧ b < rows.length) f_needs_of 2
def usersI (rows : List (List Int)) (b : Int) : List Int := (rows.zipIdx.filter fun p => decide (b ∈ p.1)).map fun p => (p.2 : Int)
abbrev f_users_of (ds : List D) : D := match ds with
  | [.rcp _ rows, .int b] => .lst (dI (usersI rows b))
  | _ => .non
abbrev sp_users_of (K : PySem.W.Frag) (C : Addr) : Sp := SpF K C (fun ds => ∃ m rows b, ds = [.rcp m rows, .int b] ∧ ValidR m rows ∧ 0 ≤ b ∧ b < m) f_users_of 2
theorem enu_rows (rows : List (List Int)) : enuD (rows.map fun r => D.lst (dI r)) = rows.zipIdx.map fun (p : List Int × Nat) => D.tup [.int (p.2 : Int), .lst (dI p.1)] := by
  unfold enuD
  rw [List.zipIdx_map, List.map_map]
  rfl
end
end Zm


set_option Elab.async false
set_option linter.all false
set_option maxRecDepth 100000
set_option maxHeartbeats 4000000
set_option autoImplicit false
namespace Zm
open PySem PySem.Spec L2
/-- those of 0 .. m - 1 that some row names; those that none does -/
def usedI (m : Int) (rows : List (List Int)) : List Int := (rgI 0 m).filter fun b => rows.any fun r => decide (b ∈ r)
def idleI (m : Int) (rows : List (List Int)) : List Int := (rgI 0 m).filter fun b => !(rows.any fun r => decide (b ∈ r))
theorem rgI_mem {a b x : Int} : x ∈ rgI a b ↔ a ≤ x ∧ x < b := by
  unfold rgI
  rw [List.mem_map]
  constructor
  · rintro ⟨i, hi, rfl⟩
    rw [List.mem_range] at hi
    omega
  · rintro ⟨h1, h2⟩
    exact ⟨(x - a).toNat, List.mem_range.mpr (by omega), by omega⟩
theorem rgI_lt {a b : Int} : (rgI a b).Pairwise (· < ·) := by
  unfold rgI
  rw [List.pairwise_map]
  exact List.pairwise_lt_range.imp fun h => by omega
theorem usedI_mem {m : Int} {rows : List (List Int)} (h : ∀ r ∈ rows, RowOk m r) {k : Int} : k ∈ usedI m rows ↔ ∃ r ∈ rows, k ∈ r := by
  unfold usedI
  rw [List.mem_filter, rgI_mem, List.any_eq_true]
  constructor
  · rintro ⟨_, r, hr, hk⟩
    exact ⟨r, hr, of_decide_eq_true hk⟩
  · rintro ⟨r, hr, hk⟩
    have := (h r hr).2 k hk
    exact ⟨⟨this.1, this.2⟩, r, hr, decide_eq_true hk⟩
theorem usedI_lt {m : Int} {rows : List (List Int)} : (usedI m rows).Pairwise (· < ·) := rgI_lt.filter _
theorem rgI_len {m : Int} : (rgI 0 m).length = m.toNat := by
  unfold rgI
  rw [List.length_map, List.length_range]
  congr 1
  omega
/-- few old blocks -/
abbrev isRcp6 (ds : List D) : Prop := ∃ m rows, ds = [.rcp m rows] ∧ ValidR m rows ∧ m < 64
abbrev f_used (ds : List D) : D := match ds with
  | [.rcp m rows] => .lst (dI (usedI m rows))
  | _ => .non
abbrev f_idle (ds : List D) : D := match ds with
  | [.rcp m rows] => .lst (dI (idleI m rows))
  | _ => .non
abbrev sp_used (K : PySem.W.Frag) (C : Addr) : Sp := SpF K C isRcp6 f_used 1
abbrev sp_idle (K : PySem.W.Frag) (C : Addr) : Sp := SpF K C isRcp6 f_idle 1
section
variable {P : Program} {w : World} {K : PySem.W.Frag} {mg : Str → Option Value} {base : Heap} {f C : Addr} {fd : FuncData}
end
end Zm


set_option Elab.async false
set_option linter.all false
set_option maxRecDepth 100000
set_option maxHeartbeats 4000000
set_option autoImplicit false
namespace Zm
open PySem PySem.Spec L2
abbrev anyD (e : D) : Prop := (∃ s, tyD e = some s) ∨ ∃ n rs, e = .rcp n rs
abbrev f_eq (ds : List D) : D := match ds with
  | [.rcp m rows, .rcp n rs] => .bl (decide (m = n) && decide (rows = rs))
  | _ => .bl false
abbrev sp_eq (K : PySem.W.Frag) (C : Addr) : Sp := SpD K C (fun ds => ∃ m rows e, ds = [.rcp m rows, e] ∧ anyD e) f_eq 2
section
variable {P : Program} {w : World} {K : PySem.W.Frag} {mg : Str → Option Value} {base : Heap} {f C : Addr} {fd : FuncData}
theorem sc_Recipe___eq__ : FnScope ["self", "other"] ["self", "other"] (defScope (inClass (top 12) 4)) := ⟨rfl, rfl, rfl, by decide +kernel, rfl, by decide +kernel, by decide +kernel⟩
theorem ok_eq (B : BFree mg) (R : RecFacts K C) (G_Recipe : mg "Recipe" = some (.ref C)) (F : MethAt K C "__eq__" "Recipe.__eq__" ["self", "other"] (inClass (top 12) 4) f fd) : MethOk P w K mg base C "__eq__" 1 ["self", "other"] (sp_eq K C) := by
  refine F.okD R.cl sc_Recipe___eq__ fun cdv A outer s H E hr => ⟨_, (pss_one (ps_ret (pe_and (c_isi (K := K) B (pa_cons (pv 1) (pa_cons (n_cl G_Recipe) pa_nil))) (pe_and (pe_cmpR (o_eq (K := K) (by exact hr.units)) (e_fld (K := K) (pv 0)) (e_fld (K := K) (pv 1)) (nomark _)) (pe_one (pe_cmpR (o_eq (K := K) (by exact hr.units)) (e_fld (K := K) (pv 0)) (e_fld (K := K) (pv 1)) (nomark _))))))), ?_⟩
  rintro ds ⟨m, rows, e, rfl, he⟩
  rcases he with ⟨s, hs⟩ | ⟨n, rs, rfl⟩
  · have e0 : f_eq [.rcp m rows, e] = .bl false := by cases e <;> first | rfl | cases hs
    rw [e0]
    exact sr_ret (ev_is (z := .bl false) (ev_andV (a := false) (b := false) (ev_cb (ea_cons (ev_var rfl) (ea_cons ev_raw ea_nil)) (rc_isiN R hs)) fun h => absurd h Bool.false_ne_true) rfl)
  · refine sr_ret (ev_is (ev_andV (a := true) (ev_cb (ea_cons (ev_var rfl) (ea_cons ev_raw ea_nil)) (rc_isiR R)) fun _ => ev_andV (ev_op (ev_many R.cl R.na (ev_var rfl)) (ev_many R.cl R.na (ev_var rfl)) (r2_eq shp_int shp_int)) fun _ => ev_op (ev_needs R.cl R.na2 (ev_var rfl)) (ev_needs R.cl R.na2 (ev_var rfl)) (r2_eq shp_rowsD shp_rowsD)) ?_)
    rw [eqD_int, eqD_rowsD]
    rfl
end
end Zm


set_option Elab.async false
set_option linter.all false
set_option maxRecDepth 100000
set_option maxHeartbeats 4000000
set_option autoImplicit false
namespace Zm
open PySem PySem.Spec L2
def toI : D → Int
  | .int i => i
  | _ => 0
def rowI : D → List Int
  | .lst ds => ds.map toI
  | _ => []
theorem toI_dI (ns : List Int) : (dI ns).map toI = ns := by
  unfold dI
  rw [List.map_map]
  exact List.map_id _
theorem rowI_rows (rows : List (List Int)) : (rows.map fun r => D.lst (dI r)).map rowI = rows := by
  rw [List.map_map]
  have e : (rowI ∘ fun r => D.lst (dI r)) = id := by
    funext r
    exact toI_dI r
  rw [e]
  exact List.map_id _
theorem leD_nil : LeD [] [] := ⟨rfl, fun i d e => by simp at e⟩
theorem leD_none {δ' δ : Dl} {x : Option D} (h : LeD δ' δ) : LeD (none :: δ') (x :: δ) := ⟨by rw [List.length_cons, List.length_cons, h.1], fun i d e => by
  cases i with
  | zero => simp at e
  | succ i => simpa using h.2 i d (by simpa using e)⟩
theorem leD_some {δ' δ : Dl} {d : D} (h : LeD δ' δ) : LeD (some d :: δ') (some d :: δ) := ⟨by rw [List.length_cons, List.length_cons, h.1], fun i e q => by
  cases i with
  | zero => simpa using q
  | succ i => simpa using h.2 i e (by simpa using q)⟩
/-- the ints of a list, rising, each once (0 .. 63) -/
def canon (ns : List Int) : List Int := (rgI 0 64).filter fun k => decide (k ∈ ns)
theorem canon_lt {ns : List Int} : (canon ns).Pairwise (· < ·) := rgI_lt.filter _
theorem canon_mem {ns : List Int} (h : ∀ x ∈ ns, 0 ≤ x ∧ x < 64) {k : Int} : k ∈ canon ns ↔ k ∈ ns := by
  unfold canon
  rw [List.mem_filter, rgI_mem, decide_eq_true_eq]
  exact ⟨fun h => h.2, fun q => ⟨h k q, q⟩⟩
abbrev f_made (ds : List D) : D := match ds with
  | [.lst [.int m, .lst rs]] => .rcp m (rs.map rowI)
  | _ => .non
theorem f_made_eq (m : Int) (rows : List (List Int)) : f_made [recD m rows] = .rcp m rows := by
  show D.rcp m ((rows.map fun r => D.lst (dI r)).map rowI) = .rcp m rows
  rw [rowI_rows]
abbrev sp_made (K : PySem.W.Frag) (C : Addr) : Sp := SpF K C (fun ds => ∃ m rows, ds = [recD m rows] ∧ ValidR m rows) f_made 1
abbrev f_union (ds : List D) : D := match ds with
  | [.lst a, .lst b] => .lst (dI (canon ((a ++ b).map toI)))
  | _ => .non
abbrev sp_union (K : PySem.W.Frag) (C : Addr) : Sp := SpF K C (fun ds => ∃ a b : List Int, ds = [.lst (dI a), .lst (dI b)] ∧ a.length + b.length < 64 ∧ (∀ x ∈ a, 0 ≤ x ∧ x < 64) ∧ ∀ x ∈ b, 0 ≤ x ∧ x < 64) f_union 2
theorem rec_rows {δ : Dl} {i : Nat} {K : PySem.W.Frag} {C : Addr} {m : Int} {rows : List (List Int)} (h : δ[i]? = some (some (recD m rows))) : EvD K C (tOp (rIxL K) (tVar i) (tC (.int 1))) δ (rowsL rows) := ev_op (ev_var h) ev_int (r2_ixL rfl)
theorem rec_many {δ : Dl} {i : Nat} {K : PySem.W.Frag} {C : Addr} {m : Int} {rows : List (List Int)} (h : δ[i]? = some (some (recD m rows))) : EvD K C (tOp (rIxL K) (tVar i) (tC (.int 0))) δ (.int m) := ev_op (ev_var h) ev_int (r2_ixL rfl)
section
variable {P : Program} {w : World} {K : PySem.W.Frag} {mg : Str → Option Value} {base : Heap} {f C : Addr} {fd : FuncData}
theorem sc_law_made : FnScope ["_law_recipe_here", "_law_row_here"] ["_law_recipe_here"] (defScope (top 35)) := ⟨rfl, rfl, rfl, by decide +kernel, rfl, by decide +kernel, by decide +kernel⟩
-- slots: _law_recipe_here=0 _law_row_here=1
theorem ok_law_made (B : BFree mg) (M_Recipe : MakeOk P w K mg base C "Recipe" 5 ["self", "many", "needs"] (spInit K C)) (F : DefAt K mg "_law_made" ["_law_recipe_here"] (top 35) f fd) : DefOk P w K mg base "_law_made" 7 ["_law_recipe_here"] (sp_made K C) := by
  refine okF F sc_law_made fun cdv A outer s H E hr => ⟨_, (pss_one (ps_ret (pe_mk M_Recipe (hr.mono (by first | decide | omega)) (pa_cons (pe_ix (x_list (K := K)) (pv 0) pe_int (fun _ _ => rfl)) (pa_cons (pe_lc (own := [("_law_row_here", 1)]) rfl sc_law_made.nd (i_list (K := K) (pe_ix (x_list (K := K)) (pv 0) pe_int (fun _ _ => rfl))) (blkOk_by (own := [("_law_row_here", 1)]) (N := ["_law_recipe_here", "_law_row_here"]) (sc := (defScope (top 35))) (by decide +kernel)) (fun _ _ _ _ _ => pg_name (i := 1) sc_law_made.nd rfl (.inl rfl)) (fun _ _ _ _ _ => pts_nil) (fun _ _ _ _ _ => (c_list (K := K) B (pa_cons (pv 1) pa_nil)))) pa_nil))))), ?_⟩
  rintro ds ⟨m, rows, rfl, hv⟩
  rw [f_made_eq]
  exact sf_ret (ef_mk (ea_cons (rec_many rfl) (ea_cons (en_lc1 (as := rows) (g0 := fun r => D.lst (dI r)) (f := fun r => D.lst (dI r)) (ei_list (rec_rows rfl)) (fun a ha => eg_name (by decide)) (fun a ha => (en_cb (ea_cons (ev_var rfl) ea_nil) rn_listL).toD) (by have := hv.2.2.1; omega)).toD ea_nil)) hv)
theorem sc_law_union : FnScope ["_law_one", "_law_other", "_law_block"] ["_law_one", "_law_other"] (defScope (top 39)) := ⟨rfl, rfl, rfl, by decide +kernel, rfl, by decide +kernel, by decide +kernel⟩
-- slots: _law_one=0 _law_other=1 _law_block=2
theorem ok_law_union (B : BFree mg) (F : DefAt K mg "_law_union" ["_law_one", "_law_other"] (top 39) f fd) : DefOk P w K mg base "_law_union" 1 ["_law_one", "_law_other"] (sp_union K C) := by
  refine okF F sc_law_union fun cdv A outer s H E hr => ⟨_, (pss_one (ps_ret (c_sortedDI (K := K) B (pa_cons (c_dictP (K := K) B (pa_cons (pe_lc (own := [("_law_block", 2)]) rfl sc_law_union.nd (i_list (K := K) (pe_op op_cat (pv 0) (pv 1))) (blkOk_by (own := [("_law_block", 2)]) (N := ["_law_one", "_law_other", "_law_block"]) (sc := (defScope (top 39))) (by decide +kernel)) (fun _ _ _ _ _ => pg_name (i := 2) sc_law_union.nd rfl (.inl rfl)) (fun _ _ _ _ _ => pts_nil) (fun _ _ _ _ _ => (pe_tup (pa_cons (pv 2) (pa_cons pe_bl pa_nil))))) pa_nil)) pa_nil)))), ?_⟩
  rintro ds ⟨a, b, rfl, hl, ha, hb⟩
  obtain ⟨is, k1, k2, k3, k4⟩ := trues_keys (a ++ b)
  have hab : ∀ x ∈ a ++ b, 0 ≤ x ∧ x < 64 := fun x hx => (List.mem_append.mp hx).elim (ha x) (hb x)
  have e : srt is = canon ((dI a ++ dI b).map toI) := by
    rw [List.map_append, toI_dI, toI_dI]
    exact lt_eq (srt_lt k2) canon_lt fun x => by rw [(srt_perm is).mem_iff, k4, canon_mem hab]
  have hla : (dI a).length = a.length := List.length_map _
  have hlb : (dI b).length = b.length := List.length_map _
  show StF K C _ _ (.lst (dI (canon ((dI a ++ dI b).map toI))))
  rw [← e]
  refine sf_ret (ef_of (en_cb (ea_cons (en_cb (ea_cons (ev_is (z := .lst ((trues (a ++ b)).map pairD)) (en_lc1 (as := a ++ b) (g0 := D.int) (f := fun n => D.tup [.int n, .bl true]) (ei_list (ev_is (z := .lst ((a ++ b).map D.int)) (en_op (ev_var rfl) (ev_var rfl) (r2_cat (by rw [hla, hlb]; omega))).toD (by rw [List.map_append]; rfl))) (fun x hx => eg_name (by decide)) (fun x hx => (en_tup (ea_cons (ev_var rfl) (ea_cons ev_bl ea_nil)) (by show 2 ≤ 100000; decide)).toD) (by rw [List.length_append]; omega)).toD ?_) ea_nil) rn_dictP).toD ea_nil) (rn_sortedDI k1 (by rw [List.length_append] at k3; omega))) (sca_ints _))
  unfold trues
  rw [List.map_map]
  rfl
end
end Zm


set_option Elab.async false
set_option linter.all false
set_option maxRecDepth 100000
set_option maxHeartbeats 4000000
set_option autoImplicit false
namespace Zm
open PySem PySem.Spec L2
/-- what the blocks of rows that are not in lot need -/
def neededI (m : Int) (rows : List (List Int)) (lot : List Int) : List Int := (rgI 0 m).filter fun b => rows.zipIdx.any fun q => !(decide ((q.2 : Int) ∈ lot)) && decide (b ∈ q.1)
theorem neededI_mem {m : Int} {rows : List (List Int)} {lot : List Int} (h : ∀ r ∈ rows, RowOk m r) {k : Int} : k ∈ neededI m rows lot ↔ ∃ q ∈ rows.zipIdx, (!(decide ((q.2 : Int) ∈ lot))) = true ∧ k ∈ q.1 := by
  unfold neededI
  rw [List.mem_filter, rgI_mem, List.any_eq_true]
  constructor
  · rintro ⟨_, q, hq, hk⟩
    obtain ⟨h1, h2⟩ := Bool.and_eq_true_iff.mp hk
    exact ⟨q, hq, h1, of_decide_eq_true h2⟩
  · rintro ⟨q, hq, h1, h2⟩
    have hr : q.1 ∈ rows := by
      obtain ⟨i, hi⟩ := List.mem_iff_getElem?.mp hq
      rw [List.getElem?_zipIdx] at hi
      cases e : rows[i]? with
      | none =>
        rw [e] at hi
        cases hi
      | some r =>
        rw [e] at hi
        have e2 : (r, 0 + i) = q := Option.some.inj hi
        rw [← e2]
        exact List.mem_of_getElem? e
    have := (h _ hr).2 k h2
    exact ⟨⟨this.1, this.2⟩, q, hq, Bool.and_eq_true_iff.mpr ⟨h1, decide_eq_true h2⟩⟩
theorem neededI_lt {m : Int} {rows : List (List Int)} {lot : List Int} : (neededI m rows lot).Pairwise (· < ·) := rgI_lt.filter _
theorem neededI_len {m : Int} {rows : List (List Int)} {lot : List Int} : (neededI m rows lot).length ≤ m.toNat := by
  have : (neededI m rows lot).length ≤ (rgI 0 m).length := List.length_filter_le _ _
  rwa [rgI_len] at this
abbrev lotPre (ds : List D) : Prop := ∃ m rows lot, ds = [.rcp m rows, .lst (dI lot)] ∧ ValidR m rows ∧ m < 64 ∧ RowOk rows.length lot
def toI' : D → Int
  | .int i => i
  | _ => 0
theorem toI'_dI (ns : List Int) : (dI ns).map toI' = ns := by
  unfold dI
  rw [List.map_map]
  exact List.map_id _
abbrev f_needed (ds : List D) : D := match ds with
  | [.rcp m rows, .lst lot] => .lst (dI (neededI m rows (lot.map toI')))
  | _ => .non
abbrev f_held (ds : List D) : D := match ds with
  | [.rcp m rows, .lst lot] => .int (((dI (neededI m rows (lot.map toI'))).length : Int) + (lot.length : Int))
  | _ => .non
abbrev sp_check_lot (K : PySem.W.Frag) (C : Addr) : Sp := SpD K C lotPre (fun _ => .non) 2
abbrev sp_needed (K : PySem.W.Frag) (C : Addr) : Sp := SpF K C lotPre f_needed 2
abbrev sp_held (K : PySem.W.Frag) (C : Addr) : Sp := SpD K C lotPre f_held 2
section
variable {P : Program} {w : World} {K : PySem.W.Frag} {mg : Str → Option Value} {base : Heap} {f C : Addr} {fd : FuncData}
theorem sc_check_lot : FnScope ["recipe", "lot"] ["recipe", "lot"] (defScope (top 10)) := ⟨rfl, rfl, rfl, by decide +kernel, rfl, by decide +kernel, by decide +kernel⟩
theorem ok_check_lot (B : BFree mg) (D_is_ascending_below : DefOk P w K mg base "is_ascending_below" 3 ["value", "limit"] (sp_is_ascending_below K C)) (D_m_size : MethOk P w K mg base C "size" 1 ["self"] (sp_size K C)) (F : DefAt K mg "check_lot" ["recipe", "lot"] (top 10) f fd) : DefOk P w K mg base "check_lot" 4 ["recipe", "lot"] (sp_check_lot K C) := by
  refine F.ok sc_check_lot (fun vs H Q E h => h.1) (fun cdv A outer s H vs Q E hr h => ?_)
  refine ⟨_, (pss_one (ps_if (pt_not (pt_val (pe_def D_is_ascending_below (hr.mono (by first | decide | omega)) (pa_cons (pv 1) (pa_cons (pe_me0 D_m_size (hr.mono (by first | decide | omega)) (pv 0)) pa_nil))))) (pss_one ps_never) pss_nil)), ?_⟩
  obtain ⟨_, O, ds, o, hd, ⟨m, rows, lot, rfl, hv, hm, hl⟩, hQ⟩ := h
  refine (sx_if (b := false) (δ' := startD ["recipe", "lot"] [.rcp m rows, .lst (dI lot)]) (et_is (et_not (et_B (ev_is (z := .bl true) (ev_call (ds := [.lst (dI lot), .int rows.length]) (ea_cons (ev_var rfl) (ea_cons (ev_is (z := .int rows.length) (ev_meth (ev_var rfl) ea_nil (by decide +kernel) (by decide +kernel) rfl ⟨m, rows, rfl, hv⟩) rfl) ea_nil)) rfl ⟨_, _, rfl, plain_row.1, plain_row.2, len_row (by have := row_lenN hl; have := hv.2.2.1; omega)⟩) ?_))) rfl) (fun h => absurd h Bool.false_ne_true) (fun _ => sx_next)) _ _ _ (at_start o hd) _ fun σ' H' s _ => hQ _ H' s (dat_non.mpr rfl)
  show D.bl (isAscD rows.length (.lst (dI lot))) = .bl true
  rw [isAsc_row hl]
theorem sc_needed : FnScope ["recipe", "lot", "old", "block", "row"] ["recipe", "lot"] (defScope (top 17)) := ⟨rfl, rfl, rfl, by decide +kernel, rfl, by decide +kernel, by decide +kernel⟩
theorem ok_needed (B : BFree mg) (D_check_recipe : DefOk P w K mg base "check_recipe" 1 ["recipe"] (sp_check_recipe K C)) (D_check_lot : DefOk P w K mg base "check_lot" 4 ["recipe", "lot"] (sp_check_lot K C)) (D_m_needs : MethOk P w K mg base C "needs" 1 ["self"] (sp_needs K C))
    (F : DefAt K mg "needed" ["recipe", "lot"] (top 17) f fd) : DefOk P w K mg base "needed" 5 ["recipe", "lot"] (sp_needed K C) := by
  refine okF F sc_needed fun cdv A outer s H E hr => ⟨_, (pss_cons (ps_expr (pe_def D_check_recipe (hr.mono (by first | decide | omega)) (pa_cons (pv 0) pa_nil))) (pss_cons (ps_expr (pe_def D_check_lot (hr.mono (by first | decide | omega)) (pa_cons (pv 0) (pa_cons (pv 1) pa_nil)))) (pss_one (ps_ret (c_sortedS (K := K) B (pa_cons (pe_sc2 (own := [("block", 3), ("row", 4), ("old", 2)]) (vs1 := [2]) rfl sc_needed.nd (i_enum B (pa_cons (pe_me0 D_m_needs (hr.mono (by first | decide | omega)) (pv 0)) pa_nil)) (blkOk_by (own := [("block", 3), ("row", 4), ("old", 2)]) (N := ["recipe", "lot", "old", "block", "row"]) (sc := (defScope (top 17))) (by decide +kernel)) (by decide) (fun _ _ _ _ _ => ⟨g_tup (K := K) (n := 2) (pgs_cons (pg_name (i := 3) sc_needed.nd rfl (.inl rfl)) (pgs_cons (pg_name (i := 4) sc_needed.nd rfl (.inl rfl)) pgs_nil)), pts_one (pt_cmpR (o_notIn (K := K)) (pv 3) (pv 1) (by rfl)), (i_list (K := K) (pv 4)), pg_name (i := 2) sc_needed.nd rfl (.inl rfl), pts_nil, (pv 2)⟩)) pa_nil)))))), ?_⟩
  rintro ds ⟨m, rows, lot, rfl, hv, hm, hl⟩
  have e0 : f_needed [.rcp m rows, .lst (dI lot)] = .lst (dI (neededI m rows lot)) := by
    show D.lst (dI (neededI m rows ((dI lot).map toI'))) = _
    rw [toI'_dI]
  rw [e0]
  refine sf_seq (sx_drop (ev_call (ds := [.rcp m rows]) (ea_cons (ev_var rfl) ea_nil) rfl ⟨m, rows, rfl, hv⟩)) ?_
  refine sf_seq (sx_drop (ev_call (ds := [.rcp m rows, .lst (dI lot)]) (ea_cons (ev_var rfl) (ea_cons (ev_var rfl) ea_nil)) rfl ⟨m, rows, lot, rfl, hv, hm, hl⟩)) ?_
  refine sf_ret (ef_of (en_sortedS2 (as := rows.zipIdx) (g0 := fun (p : List Int × Nat) => D.tup [.int (p.2 : Int), .lst (dI p.1)]) (p := fun q => !(decide ((q.2 : Int) ∈ lot))) (bs := fun q => q.1) (by
    rw [← enu_rows]
    exact ei_enum (EvF.toD (ef_is (z := rowsL rows) (ef_meth (ev_var rfl) ea_nil (by decide +kernel) (by decide +kernel) rfl ⟨m, rows, rfl, hv⟩) rfl))) (fun a ha => eg_two (by decide) (by decide)) (fun a ha => et_test (ev_op (ev_var rfl) (ev_var rfl) r2_notIn)) (fun a ha _ => ei_list (ev_var rfl)) (fun a ha _ i hi => eg_name (by decide)) (fun a ha _ i hi => ev_var rfl)
    (fun k => neededI_mem fun r hr => (hv.2.2.2 r hr).1) neededI_lt ?_) (sca_ints _))
  have := neededI_len (m := m) (rows := rows) (lot := lot)
  have := hv.1
  omega
theorem sc_held : FnScope ["recipe", "lot"] ["recipe", "lot"] (defScope (top 18)) := ⟨rfl, rfl, rfl, by decide +kernel, rfl, by decide +kernel, by decide +kernel⟩
theorem ok_held (B : BFree mg) (D_needed : DefOk P w K mg base "needed" 5 ["recipe", "lot"] (sp_needed K C)) (F : DefAt K mg "held" ["recipe", "lot"] (top 18) f fd) : DefOk P w K mg base "held" 6 ["recipe", "lot"] (sp_held K C) := by
  refine okD F sc_held fun cdv A outer s H E hr => ⟨_, (pss_one (ps_ret (pe_op op_add (c_len (K := K) B (pa_cons (pe_def D_needed (hr.mono (by first | decide | omega)) (pa_cons (pv 0) (pa_cons (pv 1) pa_nil))) pa_nil)) (c_len (K := K) B (pa_cons (pv 1) pa_nil))))), ?_⟩
  rintro ds ⟨m, rows, lot, rfl, hv, hm, hl⟩
  exact sr_ret (ev_op (ev_cb (ea_cons (ev_is (z := .lst (dI (neededI m rows ((dI lot).map toI')))) (EvF.toD (ef_call (ds := [.rcp m rows, .lst (dI lot)]) (ea_cons (ev_var rfl) (ea_cons (ev_var rfl) ea_nil)) rfl ⟨m, rows, lot, rfl, hv, hm, hl⟩)) rfl) ea_nil) rc_lenL) (ev_cb (ea_cons (ev_var rfl) ea_nil) rc_lenL) r2_Ii)
end
end Zm


set_option Elab.async false
set_option linter.all false
set_option maxRecDepth 100000
set_option maxHeartbeats 4000000
set_option autoImplicit false
namespace Zm
open PySem PySem.Spec L2
/-- rows beside: the later ones' needs are shifted -/
def shiftI (m : Int) (rs : List (List Int)) : List (List Int) := rs.map fun r => r.map fun b => b + m
def rowsI' : D → List Int
  | .lst ds => ds.map toI'
  | _ => []
/-- the rows of the blocks that are not in lot -/
def restI (rows : List (List Int)) (lot : List Int) : List (List Int) := (rows.zipIdx.filter fun q => !(decide ((q.2 : Int) ∈ lot))).map fun q => q.1
def turnI (m : Int) (rows : List (List Int)) : List (List Int) := (rgI 0 m).map (usersI rows)
theorem shift_row {m n : Int} (m0 : 0 ≤ m) {r : List Int} (h : RowOk n r) : RowOk (m + n) (r.map fun b => b + m) := by
  refine ⟨?_, fun x hx => ?_⟩
  · rw [List.pairwise_map]
    exact h.1.imp fun h => by omega
  · obtain ⟨b, hb, rfl⟩ := List.mem_map.mp hx
    have := h.2 b hb
    omega
theorem row_more {m n : Int} {r : List Int} (h : RowOk m r) (l : m ≤ n) : RowOk n r := ⟨h.1, fun x hx => by have := h.2 x hx; omega⟩
theorem zip_mem {rows : List (List Int)} {q : List Int × Nat} (hq : q ∈ rows.zipIdx) : q.1 ∈ rows := by
  obtain ⟨i, hi⟩ := List.mem_iff_getElem?.mp hq
  rw [List.getElem?_zipIdx] at hi
  cases e : rows[i]? with
  | none =>
    rw [e] at hi
    cases hi
  | some r =>
    rw [e] at hi
    have e2 : (r, 0 + i) = q := Option.some.inj hi
    rw [← e2]
    exact List.mem_of_getElem? e
theorem zip_rangeB (rows : List (List Int)) : rows.zipIdx = (List.range rows.length).map fun k => (rows.getD k [], k) := by
  apply List.ext_getElem?
  intro i
  rw [List.getElem?_zipIdx, List.getElem?_map]
  by_cases h : i < rows.length
  · rw [List.getElem?_range h, List.getElem?_eq_getElem h]
    simp [List.getD_eq_getElem?_getD, List.getElem?_eq_getElem h]
  · rw [List.getElem?_eq_none (by omega), List.getElem?_eq_none (by rw [List.length_range]; omega)]
    rfl
theorem et_tru {K : PySem.W.Frag} {C : Addr} {δ : Dl} {te : TE} {ds : List D} (h : EvD K C te δ (.lst ds)) : EvT K C (fun σ H Q => te σ H fun x H' => ∃ k, TruV K x H' k ∧ Q k H') δ (!ds.isEmpty) := fun O σ H n Q q => h O σ H n _ fun v H1 s1 d1 => by
  obtain ⟨a, xs, rfl, h1, h2⟩ := dat_lst_iff.mp d1
  refine ⟨!xs.isEmpty, .inl ⟨xs, sqL_of h1, rfl⟩, ?_⟩
  have e : xs.isEmpty = ds.isEmpty := by
    have := h2.length
    cases xs <;> cases ds <;> first | rfl | (simp at this)
  rw [e]
  exact q H1 s1
abbrev f_beside (ds : List D) : D := match ds with
  | [.rcp m rows, .rcp n rs] => .rcp (m + n) (rows ++ shiftI m rs)
  | _ => .non
abbrev f_without (ds : List D) : D := match ds with
  | [.rcp m rows, .lst lot] => .rcp m (restI rows (lot.map toI'))
  | _ => .non
abbrev f_turned (ds : List D) : D := match ds with
  | [.rcp m rows] => .rcp rows.length (turnI m rows)
  | _ => .non
abbrev sp_beside (K : PySem.W.Frag) (C : Addr) : Sp := SpF K C (fun ds => ∃ m rows n rs, ds = [.rcp m rows, .rcp n rs] ∧ ValidR m rows ∧ ValidR n rs ∧ rows.length + rs.length ≤ 1000) f_beside 2
abbrev sp_without (K : PySem.W.Frag) (C : Addr) : Sp := SpF K C (fun ds => ∃ m rows lot, ds = [.rcp m rows, .lst (dI lot)] ∧ ValidR m rows ∧ m < 64 ∧ RowOk rows.length lot ∧ restI rows lot ≠ []) f_without 2
abbrev sp_turned (K : PySem.W.Frag) (C : Addr) : Sp := SpF K C (fun ds => ∃ m rows, ds = [.rcp m rows] ∧ ValidR m rows ∧ 0 < m ∧ m ≤ 1000) f_turned 1
abbrev sp_is_lot (K : PySem.W.Frag) (C : Addr) : Sp := SpD K C (fun ds => ∃ m rows v, ds = [.rcp m rows, v] ∧ ValidR m rows ∧ plainT v ∧ itemsT v ∧ lenT v) (fun ds => match ds with
  | [.rcp _ rows, v] => .bl (isAscD rows.length v)
  | _ => .non) 2
section
variable {P : Program} {w : World} {K : PySem.W.Frag} {mg : Str → Option Value} {base : Heap} {f C : Addr} {fd : FuncData}
theorem sc_is_lot : FnScope ["recipe", "value"] ["recipe", "value"] (defScope (top 16)) := ⟨rfl, rfl, rfl, by decide +kernel, rfl, by decide +kernel, by decide +kernel⟩
theorem ok_is_lot (D_check_recipe : DefOk P w K mg base "check_recipe" 1 ["recipe"] (sp_check_recipe K C)) (D_is_ascending_below : DefOk P w K mg base "is_ascending_below" 3 ["value", "limit"] (sp_is_ascending_below K C)) (D_m_size : MethOk P w K mg base C "size" 1 ["self"] (sp_size K C))
    (F : DefAt K mg "is_lot" ["recipe", "value"] (top 16) f fd) : DefOk P w K mg base "is_lot" 4 ["recipe", "value"] (sp_is_lot K C) := by
  refine okD F sc_is_lot fun cdv A outer s H E hr => ⟨_, (pss_cons (ps_expr (pe_def D_check_recipe (hr.mono (by first | decide | omega)) (pa_cons (pv 0) pa_nil))) (pss_one (ps_ret (pe_def D_is_ascending_below (hr.mono (by first | decide | omega)) (pa_cons (pv 1) (pa_cons (pe_me0 D_m_size (hr.mono (by first | decide | omega)) (pv 0)) pa_nil)))))), ?_⟩
  rintro ds ⟨m, rows, v, rfl, hv, h1, h2⟩
  refine sr_seq (sx_drop (ev_call (ds := [.rcp m rows]) (ea_cons (ev_var rfl) ea_nil) rfl ⟨m, rows, rfl, hv⟩)) ?_
  exact sr_ret (ev_is (ev_call (ds := [v, .int rows.length]) (ea_cons (ev_var rfl) (ea_cons (ev_is (z := .int rows.length) (ev_meth (ev_var rfl) ea_nil (by decide +kernel) (by decide +kernel) rfl ⟨m, rows, rfl, hv⟩) rfl) ea_nil)) rfl ⟨_, _, rfl, h1, h2⟩) rfl)
end
end Zm


set_option Elab.async false
set_option linter.all false
set_option maxRecDepth 100000
set_option maxHeartbeats 4000000
set_option autoImplicit false
namespace Zm
open PySem PySem.Spec L2
theorem leD_nil' : LeD [] [] := ⟨rfl, fun i d e => by simp at e⟩
theorem leD_none' {δ' δ : Dl} {x : Option D} (h : LeD δ' δ) : LeD (none :: δ') (x :: δ) := ⟨by rw [List.length_cons, List.length_cons, h.1], fun i d e => by
  cases i with
  | zero => simp at e
  | succ i => simpa using h.2 i d (by simpa using e)⟩
theorem leD_some' {δ' δ : Dl} {d : D} (h : LeD δ' δ) : LeD (some d :: δ') (some d :: δ) := ⟨by rw [List.length_cons, List.length_cons, h.1], fun i e q => by
  cases i with
  | zero => simpa using q
  | succ i => simpa using h.2 i e (by simpa using q)⟩
theorem rowsI'_rows (rows : List (List Int)) : (rows.map fun r => D.lst (dI r)).map rowsI' = rows := by
  rw [List.map_map]
  have e : (rowsI' ∘ fun r => D.lst (dI r)) = id := by
    funext r
    exact toI'_dI r
  rw [e]
  exact List.map_id _
theorem rec_rows' {δ : Dl} {i : Nat} {K : PySem.W.Frag} {C : Addr} {m : Int} {rows : List (List Int)} (h : δ[i]? = some (some (recD m rows))) : EvD K C (tOp (rIxL K) (tVar i) (tC (.int 1))) δ (rowsL rows) := ev_op (ev_var h) ev_int (r2_ixL rfl)
theorem row_at' {rows : List (List Int)} {k : Nat} (h : k < rows.length) : atI (rows.map fun r => D.lst (dI r)) (0 + (k : Int)) = some (.lst (dI (rows.getD k []))) := by
  unfold atI ixN
  rw [List.length_map, if_pos (by omega), if_pos (by omega), Option.bind_some, List.getElem?_map]
  have e : (0 + (k : Int)).toNat = k := by omega
  rw [e, List.getElem?_eq_getElem h, List.getD_eq_getElem?_getD, List.getElem?_eq_getElem h]
  rfl
theorem row_len' {m : Int} {r : List Int} (h : RowOk m r) : r.length ≤ m.toNat := by
  have := nd_len r (rgI 0 m) (h.1.imp fun h e => by omega) fun x hx => rgI_mem.mpr (h.2 x hx)
  rwa [rgI_len] at this
/-- the keys of a dict of what the first k blocks need that are not in lot -/
def NeedK (rows : List (List Int)) (lot : List Int) (k : Nat) (kvs : List (Key × D)) : Prop := (kvs.map (·.1)).Nodup ∧ kvs.length ≤ 64 * k ∧ ∀ key, key ∈ kvs.map (·.1) ↔ ∃ j x, j < k ∧ ¬ (0 + (j : Int)) ∈ lot ∧ x ∈ rows.getD j [] ∧ key = Sum.inl x
theorem trues_mem {ns : List Int} {key : Key} : key ∈ (mergeD [] (trues ns)).map (·.1) ↔ ∃ x ∈ ns, key = Sum.inl x := by
  have h := (mergeD_keys (trues ns) [] List.nodup_nil).2 key
  have e : (trues ns).map (·.1) = ns.map Sum.inl := by
    unfold trues
    rw [List.map_map]
    rfl
  rw [e] at h
  rw [h]
  constructor
  · rintro (h | h)
    · cases h
    · obtain ⟨x, hx, rfl⟩ := List.mem_map.mp h
      exact ⟨x, hx, rfl⟩
  · rintro ⟨x, hx, rfl⟩
    exact .inr (List.mem_map.mpr ⟨x, hx, rfl⟩)
abbrev f_lneeded (ds : List D) : D := match ds with
  | [.lst [.int m, .lst rs], .lst l] => .lst (dI (neededI m (rs.map rowsI') (l.map toI')))
  | _ => .non
abbrev f_lheld (ds : List D) : D := match ds with
  | [.lst [.int m, .lst rs], .lst l] => .int ((l.length : Int) + ((dI (neededI m (rs.map rowsI') (l.map toI'))).length : Int))
  | _ => .non
abbrev lneedPre (ds : List D) : Prop := ∃ m rows lot, ds = [recD m rows, .lst (dI lot)] ∧ ValidR m rows ∧ m < 64
abbrev sp_lneeded (K : PySem.W.Frag) (C : Addr) : Sp := SpD K C lneedPre f_lneeded 2
abbrev sp_lheld (K : PySem.W.Frag) (C : Addr) : Sp := SpD K C lneedPre f_lheld 2
section
variable {P : Program} {w : World} {K : PySem.W.Frag} {mg : Str → Option Value} {base : Heap} {f C : Addr} {fd : FuncData}
theorem sc_law_needed : FnScope ["_law_recipe_here", "_law_lot", "_law_found", "_law_block", "_law_late"] ["_law_recipe_here", "_law_lot"] (defScope (top 32)) := ⟨rfl, rfl, rfl, by decide +kernel, rfl, by decide +kernel, by decide +kernel⟩
-- slots: _law_recipe_here=0 _law_lot=1 _law_found=2 _law_block=3 _law_late=4
theorem ok_law_needed (B : BFree mg) (F : DefAt K mg "_law_needed" ["_law_recipe_here", "_law_lot"] (top 32) f fd) : DefOk P w K mg base "_law_needed" 1 ["_law_recipe_here", "_law_lot"] (sp_lneeded K C) := by
  refine okD F sc_law_needed fun cdv A outer s H E hr => ⟨_, (pss_cons (ps_set (i := 2) sc_law_needed.nd rfl (.inl rfl) pe_dnewK) (pss_cons (ps_for PassesOwn.never rfl (i_rng1 B (pa_cons (c_len (K := K) B (pa_cons (pe_ix (x_list (K := K)) (pv 0) pe_int (fun _ _ => rfl)) pa_nil)) pa_nil)) (pg_name (i := 3) sc_law_needed.nd rfl (.inl rfl)) (pss_one (ps_if (pt_cmpR (o_notIn (K := K)) (pv 3) (pv 1) (by rfl)) (pss_one (ps_expr (pe_bm PySem.F.plainAttrs_dict PySem.F.slot_dict_update PySem.F.type_dict_update mt_upd (pv 2) (pa_cons (c_dictP (K := K) B (pa_cons (pe_lc (own := [("_law_late", 4)]) rfl sc_law_needed.nd (i_list (K := K) (pe_ix (x_list (K := K)) (pe_ix (x_list (K := K)) (pv 0) pe_int (fun _ _ => rfl)) (pv 3) (fun _ _ => rfl))) (blkOk_by (own := [("_law_late", 4)]) (N := ["_law_recipe_here", "_law_lot", "_law_found", "_law_block", "_law_late"]) (sc := (defScope (top 32))) (by decide +kernel)) (fun _ _ _ _ _ => pg_name (i := 4) sc_law_needed.nd rfl (.inl rfl)) (fun _ _ _ _ _ => pts_nil) (fun _ _ _ _ _ => (pe_tup (pa_cons (pv 4) (pa_cons pe_bl pa_nil))))) pa_nil)) pa_nil)))) pss_nil))) (pss_one (ps_ret (c_sortedDI (K := K) B (pa_cons (pv 2) pa_nil)))))), ?_⟩
  rintro ds ⟨m, rows, lot, rfl, hv, hm⟩
  have e0 : f_lneeded [recD m rows, .lst (dI lot)] = .lst (dI (neededI m rows lot)) := by
    show D.lst (dI (neededI m ((rows.map fun r => D.lst (dI r)).map rowsI') ((dI lot).map toI'))) = _
    rw [toI'_dI, rowsI'_rows]
  rw [e0]
  have hr0 : ∀ r ∈ rows, RowOk m r := fun r h => (hv.2.2.2 r h).1
  have hl := hv.2.2.1
  refine StE.r (se_new endR_ok (by show 2 < 5; decide) (d := .dic []) ef_dic0 ?_)
  refine sn_wild (W := WD K C (NeedK rows lot 0)) (fun old h => WD.of ⟨List.nodup_nil, by decide, fun key => ⟨fun h => (by cases h), fun ⟨j, x, h, _⟩ => absurd h (Nat.not_lt_zero _)⟩⟩ old h) ?_
  refine swb_seq (swb_for (as := List.range rows.length) (g0 := fun (k : Nat) => D.int (0 + (k : Int))) (Wk := fun k => WD K C (NeedK rows lot k)) (δ' := [some (recD m rows), some (.lst (dI lot)), none, none, none]) (by decide) (ei_rng1 (j := (rows.length : Int)) (ea_cons (ev_is (z := .int rows.length) (ev_cb (ea_cons (rec_rows' rfl) ea_nil) rc_lenL) (by rw [List.length_map])) ea_nil) (by omega) (by omega)) ?_ WD.same (fun k a hk => ?_)) ?_
  · exact leD_some' (leD_some' (leD_none' (leD_none' (leD_none' leD_nil'))))
  · obtain ⟨hk1, hk2⟩ := List.getElem?_eq_some_iff.mp hk
    rw [List.length_range] at hk1
    rw [List.getElem_range] at hk2
    subst hk2
    have hrk : rows.getD k [] ∈ rows := by
      rw [List.getD_eq_getElem?_getD, List.getElem?_eq_getElem hk1]
      exact List.getElem_mem hk1
    have lr := row_len' (hr0 _ hrk)
    refine swb_le (swb_if (b := !decide ((0 + (k : Int)) ∈ lot)) (et_test (ev_op (ev_var rfl) (ev_var rfl) r2_notIn)) WD.same (fun h => swb_upd (more := mergeD [] (trues (rows.getD k []))) (en_cb (ea_cons (ev_is (z := .lst ((trues (rows.getD k [])).map pairD)) (en_lc1 (as := rows.getD k []) (g0 := D.int) (f := fun n => D.tup [.int n, .bl true]) (ei_list (ev_op (rec_rows' rfl) (ev_var rfl) (r2_ixL (row_at' hk1)))) (fun x hx => eg_name (by decide)) (fun x hx => (en_tup (ea_cons (ev_var rfl) (ea_cons ev_bl ea_nil)) (by show 2 ≤ 100000; decide)).toD) (by omega)).toD ?_) ea_nil) rn_dictP).toD (fun kvs hP => ?_)) (fun h => swb_next fun hw => hw.imp fun kvs hP => ?_)) ?_
    · unfold trues
      rw [List.map_map]
      rfl
    · have hk0 : ¬ (0 + (k : Int)) ∈ lot := by simpa using h
      have l1 := mergeD_len (trues (rows.getD k [])) []
      have l2 : (trues (rows.getD k [])).length = (rows.getD k []).length := List.length_map _
      have l3 := mergeD_len (mergeD [] (trues (rows.getD k []))) kvs
      obtain ⟨n1, n2⟩ := mergeD_keys (mergeD [] (trues (rows.getD k []))) kvs hP.1
      have l0 := hP.2.1
      rw [List.length_nil, Nat.zero_add] at l1
      refine ⟨⟨n1, by omega, fun key => ?_⟩, by omega⟩
      rw [n2, hP.2.2, trues_mem]
      constructor
      · rintro (⟨j, x, h1, h2, h3, h4⟩ | ⟨x, h3, h4⟩)
        · exact ⟨j, x, by omega, h2, h3, h4⟩
        · exact ⟨k, x, by omega, hk0, h3, h4⟩
      · rintro ⟨j, x, h1, h2, h3, h4⟩
        rcases Nat.lt_or_ge j k with q | q
        · exact .inl ⟨j, x, q, h2, h3, h4⟩
        · have e : j = k := by omega
          subst e
          exact .inr ⟨x, h3, h4⟩
    · have hk0 : (0 + (k : Int)) ∈ lot := by simpa using h
      refine ⟨hP.1, by have := hP.2.1; omega, fun key => (hP.2.2 key).trans ⟨fun ⟨j, x, h1, h2, h3⟩ => ⟨j, x, by omega, h2, h3⟩, fun ⟨j, x, h1, h2, h3⟩ => ?_⟩⟩
      rcases Nat.lt_or_ge j k with q | q
      · exact ⟨j, x, q, h2, h3⟩
      · have e : j = k := by omega
        subst e
        exact absurd hk0 h2
    · exact leD_some' (leD_some' (leD_none' (leD_none' (leD_none' leD_nil'))))
  refine sw_retSorted fun kvs hP => ?_
  rw [List.length_range] at hP
  obtain ⟨ks, hks⟩ := keys_ints (ks := kvs.map (·.1)) fun key h => by
    obtain ⟨j, x, _, _, _, e⟩ := (hP.2.2 key).mp h
    exact ⟨x, e⟩
  have nd : ks.Nodup := by
    have := hP.1
    rw [hks] at this
    exact (List.pairwise_map.mp this).imp fun h e => h (congrArg Sum.inl e)
  have mem : ∀ x, x ∈ ks ↔ x ∈ neededI m rows lot := fun x => by
    have e1 : x ∈ ks ↔ (Sum.inl x : Key) ∈ ks.map Sum.inl := by
      rw [List.mem_map]
      exact ⟨fun h => ⟨x, h, rfl⟩, fun ⟨y, h, e⟩ => by rw [← Sum.inl.inj e]; exact h⟩
    rw [e1, ← hks, hP.2.2, neededI_mem hr0, zip_rangeB]
    simp only [List.mem_map, List.mem_range]
    constructor
    · rintro ⟨j, y, h1, h2, h3, h4⟩
      cases h4
      exact ⟨_, ⟨j, h1, rfl⟩, by simpa using h2, h3⟩
    · rintro ⟨q, ⟨j, h1, rfl⟩, h2, h3⟩
      exact ⟨j, x, h1, by simpa using h2, h3, rfl⟩
  have es : srt ks = neededI m rows lot := lt_eq (srt_lt nd) neededI_lt fun x => (srt_perm ks).mem_iff.trans (mem x)
  refine ⟨ks, hks, ?_, es⟩
  have h1 := nd_len ks (rgI 0 m) nd fun x hx => (List.mem_filter.mp ((mem x).mp hx)).1
  rw [rgI_len] at h1
  have := hv.1
  omega
theorem sc_law_held : FnScope ["_law_recipe_here", "_law_lot"] ["_law_recipe_here", "_law_lot"] (defScope (top 33)) := ⟨rfl, rfl, rfl, by decide +kernel, rfl, by decide +kernel, by decide +kernel⟩
theorem ok_law_held (B : BFree mg) (D_law_needed : DefOk P w K mg base "_law_needed" 1 ["_law_recipe_here", "_law_lot"] (sp_lneeded K C)) (F : DefAt K mg "_law_held" ["_law_recipe_here", "_law_lot"] (top 33) f fd) : DefOk P w K mg base "_law_held" 2 ["_law_recipe_here", "_law_lot"] (sp_lheld K C) := by
  refine okD F sc_law_held fun cdv A outer s H E hr => ⟨_, (pss_one (ps_ret (pe_op op_add (c_len (K := K) B (pa_cons (pv 1) pa_nil)) (c_len (K := K) B (pa_cons (pe_def D_law_needed (hr.mono (by first | decide | omega)) (pa_cons (pv 0) (pa_cons (pv 1) pa_nil))) pa_nil))))), ?_⟩
  rintro ds ⟨m, rows, lot, rfl, hv, hm⟩
  exact sr_ret (ev_op (ev_cb (ea_cons (ev_var rfl) ea_nil) rc_lenL) (ev_cb (ea_cons (ev_is (z := .lst (dI (neededI m ((rows.map fun r => D.lst (dI r)).map rowsI') ((dI lot).map toI')))) (ev_call (ds := [recD m rows, .lst (dI lot)]) (ea_cons (ev_var rfl) (ea_cons (ev_var rfl) ea_nil)) rfl ⟨m, rows, lot, rfl, hv, hm⟩) rfl) ea_nil) rc_lenL) r2_Ii)
end
end Zm


set_option Elab.async false
set_option linter.all false
set_option maxRecDepth 100000
set_option maxHeartbeats 4000000
set_option autoImplicit false
namespace Zm
open PySem PySem.Spec L2
def heldI (m : Int) (rows : List (List Int)) (lot : List Int) : Int := (lot.length : Int) + ((neededI m rows lot).length : Int)
def comI (a b : List Int) : List Int := a.filter fun x => decide (x ∈ b)
def gainI (m : Int) (rows : List (List Int)) (a b : List Int) : Int := heldI m rows a + heldI m rows b - heldI m rows (canon (a ++ b)) - heldI m rows (comI a b)
abbrev gainPre (ds : List D) : Prop := ∃ m rows a b, ds = [.rcp m rows, .lst (dI a), .lst (dI b)] ∧ ValidR m rows ∧ m < 64 ∧ rows.length ≤ 8 ∧ RowOk rows.length a ∧ RowOk rows.length b
abbrev f_gain (ds : List D) : D := match ds with
  | [.rcp m rows, .lst a, .lst b] => .int (gainI m rows (a.map toI') (b.map toI'))
  | _ => .non
abbrev sp_gain (K : PySem.W.Frag) (C : Addr) : Sp := SpD K C gainPre f_gain 3
abbrev twoPre (ds : List D) : Prop := ∃ a b, ds = [.lst (dI a), .lst (dI b)] ∧ (∀ x ∈ a, Sm x) ∧ (∀ x ∈ b, Sm x) ∧ a.length ≤ 8 ∧ b.length ≤ 8 ∧ a.Pairwise (· < ·)
abbrev f_either (ds : List D) : D := match ds with
  | [.lst a, .lst b] => .lst (dI (canon (a.map toI' ++ b.map toI')))
  | _ => .non
abbrev f_both (ds : List D) : D := match ds with
  | [.lst a, .lst b] => .lst (dI (comI (a.map toI') (b.map toI')))
  | _ => .non
abbrev sp_either (K : PySem.W.Frag) (C : Addr) : Sp := SpD K C twoPre f_either 2
abbrev sp_both (K : PySem.W.Frag) (C : Addr) : Sp := SpD K C twoPre f_both 2
theorem f_held_eq {m : Int} {rows : List (List Int)} {lot : List Int} : f_held [.rcp m rows, .lst (dI lot)] = .int (heldI m rows lot) := by
  show D.int (((dI (neededI m rows ((dI lot).map toI'))).length : Int) + ((dI lot).length : Int)) = .int ((lot.length : Int) + ((neededI m rows lot).length : Int))
  rw [toI'_dI, dI, dI, List.length_map, List.length_map, Int.add_comm]
theorem row_sm {rows : List (List Int)} {a : List Int} (h : RowOk rows.length a) (h8 : rows.length ≤ 8) : ∀ x ∈ a, Sm x := fun x hx => by
  have := h.2 x hx
  exact ⟨this.1, by omega⟩
theorem row_len8 {rows : List (List Int)} {a : List Int} (h : RowOk rows.length a) (h8 : rows.length ≤ 8) : a.length ≤ 8 :=
  nd_small (h.1.imp fun h e => by omega) (row_sm h h8)
theorem or_row {n : Int} {a b : List Int} (ha : RowOk n a) (hb : RowOk n b) (hn : n ≤ 64) : RowOk n (canon (a ++ b)) := ⟨canon_lt, fun x hx => by
  have hab : ∀ x ∈ a ++ b, 0 ≤ x ∧ x < n := fun x hx => (List.mem_append.mp hx).elim (ha.2 x) (hb.2 x)
  exact hab x ((canon_mem fun x hx => by have := hab x hx; omega).mp hx)⟩
theorem com_row {n : Int} {a b : List Int} (ha : RowOk n a) : RowOk n (comI a b) := ⟨ha.1.filter _, fun x hx => ha.2 x (List.mem_filter.mp hx).1⟩
section
variable {P : Program} {w : World} {K : PySem.W.Frag} {mg : Str → Option Value} {base : Heap} {f C : Addr} {fd : FuncData}
theorem sc_either_lot : FnScope ["one", "other"] ["one", "other"] (defScope (top 20)) := ⟨rfl, rfl, rfl, by decide +kernel, rfl, by decide +kernel, by decide +kernel⟩
theorem ok_either_lot (B : BFree mg) (F : DefAt K mg "either_lot" ["one", "other"] (top 20) f fd) : DefOk P w K mg base "either_lot" 1 ["one", "other"] (sp_either K C) := by
  refine okD F sc_either_lot fun cdv A outer s H E hr => ⟨_, (pss_one (ps_ret (c_sortedS (K := K) B (pa_cons (pe_op or_setOr (c_setL (K := K) B (pa_cons (pv 0) pa_nil)) (c_setL (K := K) B (pa_cons (pv 1) pa_nil))) pa_nil)))), ?_⟩
  rintro ds ⟨a, b, rfl, ha, hb, la, lb, _⟩
  have e0 : f_either [.lst (dI a), .lst (dI b)] = .lst (dI (canon (a ++ b))) := by
    show D.lst (dI (canon ((dI a).map toI' ++ (dI b).map toI'))) = _
    rw [toI'_dI, toI'_dI]
  rw [e0]
  have hab : ∀ x ∈ a ++ b, 0 ≤ x ∧ x < 64 := fun x hx => by
    have := (List.mem_append.mp hx).elim (ha x) (hb x)
    unfold Sm at this
    omega
  exact sr_ret (EvN.toD (en_setOr (ns := a) (ms := b) (ks := canon (a ++ b)) (ev_var rfl) (ev_var rfl) ha hb (by omega) (by omega) canon_lt fun x => by rw [canon_mem hab, List.mem_append]))
theorem sc_both_lot : FnScope ["one", "other"] ["one", "other"] (defScope (top 21)) := ⟨rfl, rfl, rfl, by decide +kernel, rfl, by decide +kernel, by decide +kernel⟩
theorem ok_both_lot (B : BFree mg) (F : DefAt K mg "both_lot" ["one", "other"] (top 21) f fd) : DefOk P w K mg base "both_lot" 1 ["one", "other"] (sp_both K C) := by
  refine okD F sc_both_lot fun cdv A outer s H E hr => ⟨_, (pss_one (ps_ret (c_sortedS (K := K) B (pa_cons (pe_op or_setAnd (c_setL (K := K) B (pa_cons (pv 0) pa_nil)) (c_setL (K := K) B (pa_cons (pv 1) pa_nil))) pa_nil)))), ?_⟩
  rintro ds ⟨a, b, rfl, ha, hb, la, lb, lt⟩
  have e0 : f_both [.lst (dI a), .lst (dI b)] = .lst (dI (comI a b)) := by
    show D.lst (dI (comI ((dI a).map toI') ((dI b).map toI'))) = _
    rw [toI'_dI, toI'_dI]
  rw [e0]
  exact sr_ret (EvN.toD (en_setAnd (ns := a) (ms := b) (ks := comI a b) (ev_var rfl) (ev_var rfl) ha (by omega) (by omega) (lt.filter _) fun x => by unfold comI; rw [List.mem_filter, decide_eq_true_eq]))
theorem sc_gain : FnScope ["recipe", "one", "other", "either", "both"] ["recipe", "one", "other"] (defScope (top 19)) := ⟨rfl, rfl, rfl, by decide +kernel, rfl, by decide +kernel, by decide +kernel⟩
-- slots: recipe=0 one=1 other=2 either=3 both=4
theorem ok_gain (B : BFree mg) (D_check_recipe : DefOk P w K mg base "check_recipe" 1 ["recipe"] (sp_check_recipe K C)) (D_check_lot : DefOk P w K mg base "check_lot" 4 ["recipe", "lot"] (sp_check_lot K C)) (D_held : DefOk P w K mg base "held" 6 ["recipe", "lot"] (sp_held K C)) (D_either_lot : DefOk P w K mg base "either_lot" 1 ["one", "other"] (sp_either K C)) (D_both_lot : DefOk P w K mg base "both_lot" 1 ["one", "other"] (sp_both K C))
    (F : DefAt K mg "gain" ["recipe", "one", "other"] (top 19) f fd) : DefOk P w K mg base "gain" 7 ["recipe", "one", "other"] (sp_gain K C) := by
  refine okD F sc_gain fun cdv A outer s H E hr => ⟨_, (pss_cons (ps_expr (pe_def D_check_recipe (hr.mono (by first | decide | omega)) (pa_cons (pv 0) pa_nil))) (pss_cons (ps_expr (pe_def D_check_lot (hr.mono (by first | decide | omega)) (pa_cons (pv 0) (pa_cons (pv 1) pa_nil)))) (pss_cons (ps_expr (pe_def D_check_lot (hr.mono (by first | decide | omega)) (pa_cons (pv 0) (pa_cons (pv 2) pa_nil)))) (pss_cons (ps_set (i := 3) sc_gain.nd rfl (.inl rfl) (pe_def D_either_lot (hr.mono (by first | decide | omega)) (pa_cons (pv 1) (pa_cons (pv 2) pa_nil)))) (pss_cons (ps_set (i := 4) sc_gain.nd rfl (.inl rfl) (pe_def D_both_lot (hr.mono (by first | decide | omega)) (pa_cons (pv 1) (pa_cons (pv 2) pa_nil)))) (pss_one (ps_ret (pe_op op_sub (pe_op op_sub (pe_op op_add (pe_def D_held (hr.mono (by first | decide | omega)) (pa_cons (pv 0) (pa_cons (pv 1) pa_nil))) (pe_def D_held (hr.mono (by first | decide | omega)) (pa_cons (pv 0) (pa_cons (pv 2) pa_nil)))) (pe_def D_held (hr.mono (by first | decide | omega)) (pa_cons (pv 0) (pa_cons (pv 3) pa_nil)))) (pe_def D_held (hr.mono (by first | decide | omega)) (pa_cons (pv 0) (pa_cons (pv 4) pa_nil))))))))))), ?_⟩
  rintro ds ⟨m, rows, a, b, rfl, hv, hm, h8, ha, hb⟩
  have e0 : f_gain [.rcp m rows, .lst (dI a), .lst (dI b)] = .int (gainI m rows a b) := by
    show D.int (gainI m rows ((dI a).map toI') ((dI b).map toI')) = _
    rw [toI'_dI, toI'_dI]
  rw [e0]
  have hab : ∀ x ∈ a ++ b, 0 ≤ x ∧ x < 64 := fun x hx => by
    have := (List.mem_append.mp hx).elim (ha.2 x) (hb.2 x)
    omega
  have la := row_len8 ha h8
  have lb := row_len8 hb h8
  refine sr_seq (sx_drop (ev_call (ds := [.rcp m rows]) (ea_cons (ev_var rfl) ea_nil) rfl ⟨m, rows, rfl, hv⟩)) ?_
  refine sr_seq (sx_drop (ev_call (ds := [.rcp m rows, .lst (dI a)]) (ea_cons (ev_var rfl) (ea_cons (ev_var rfl) ea_nil)) rfl ⟨m, rows, a, rfl, hv, hm, ha⟩)) ?_
  refine sr_seq (sx_drop (ev_call (ds := [.rcp m rows, .lst (dI b)]) (ea_cons (ev_var rfl) (ea_cons (ev_var rfl) ea_nil)) rfl ⟨m, rows, b, rfl, hv, hm, hb⟩)) ?_
  refine sr_seq (sx_set (ev_is (z := .lst (dI (canon (a ++ b)))) (ev_call (ds := [.lst (dI a), .lst (dI b)]) (ea_cons (ev_var rfl) (ea_cons (ev_var rfl) ea_nil)) rfl ⟨a, b, rfl, row_sm ha h8, row_sm hb h8, la, lb, ha.1⟩) (by show D.lst (dI (canon ((dI a).map toI' ++ (dI b).map toI'))) = _; rw [toI'_dI, toI'_dI]))) ?_
  refine sr_seq (sx_set (ev_is (z := .lst (dI (comI a b))) (ev_call (ds := [.lst (dI a), .lst (dI b)]) (ea_cons (ev_var rfl) (ea_cons (ev_var rfl) ea_nil)) rfl ⟨a, b, rfl, row_sm ha h8, row_sm hb h8, la, lb, ha.1⟩) (by show D.lst (dI (comI ((dI a).map toI') ((dI b).map toI'))) = _; rw [toI'_dI, toI'_dI]))) ?_
  have he : ∀ {δ : Dl} {lot : List Int} {i : Nat} {E : XK}, RowOk rows.length lot → δ[0]? = some (some (.rcp m rows)) → δ[i]? = some (some (.lst (dI lot))) → EvD K C (tCall (sp_held K C) [] E (tCons (tVar 0) (tCons (tVar i) tNil))) δ (.int (heldI m rows lot)) := fun h h0 hi =>
    ev_is (ev_call (ds := [.rcp m rows, .lst (dI _)]) (ea_cons (ev_var h0) (ea_cons (ev_var hi) ea_nil)) rfl ⟨m, rows, _, rfl, hv, hm, h⟩) f_held_eq
  exact sr_ret (ev_op (ev_op (ev_op (he ha rfl rfl) (he hb rfl rfl) r2_Ii) (he (or_row ha hb (by omega)) rfl rfl) r2_Ii) (he (com_row ha) rfl rfl) r2_Ii)
end
end Zm


set_option Elab.async false
set_option linter.all false
set_option maxRecDepth 100000
set_option maxHeartbeats 4000000
set_option autoImplicit false
namespace Zm
open PySem PySem.Spec L2
/-- all lots of the first n blocks, as the law lays them -/
def lotsU : Nat → List (List Int)
  | 0 => [[]]
  | n + 1 => lotsU n ++ (lotsU n).map fun l => l ++ [(0 : Int) + (n : Int)]
def lotsI (n : Nat) : List (List Int) := (lotsU n).mergeSort rowLe
theorem lotsU_len : ∀ n, (lotsU n).length = 2 ^ n
  | 0 => rfl
  | n + 1 => by
    show (lotsU n ++ (lotsU n).map _).length = _
    rw [List.length_append, List.length_map, lotsU_len n, Nat.pow_succ]
    omega
theorem lotsU_row : ∀ n, ∀ r ∈ lotsU n, RowOk n r
  | 0, r, h => by
    rw [List.mem_singleton.mp h]
    exact ⟨.nil, fun x hx => by cases hx⟩
  | n + 1, r, h => by
    rcases List.mem_append.mp h with h | h
    · exact row_more (lotsU_row n r h) (by omega)
    · obtain ⟨l, hl, rfl⟩ := List.mem_map.mp h
      have := lotsU_row n l hl
      refine ⟨List.pairwise_append.mpr ⟨this.1, by simp, fun x hx y hy => ?_⟩, fun x hx => ?_⟩
      · rw [List.mem_singleton.mp hy]
        have := this.2 x hx
        omega
      · rcases List.mem_append.mp hx with hx | hx
        · have := this.2 x hx
          omega
        · rw [List.mem_singleton.mp hx]
          omega
theorem lotsI_row {n : Nat} : ∀ r ∈ lotsI n, RowOk n r := fun r h => lotsU_row n r ((List.mergeSort_perm _ _).mem_iff.mp h)
theorem lotsI_len {n : Nat} : (lotsI n).length = 2 ^ n := by
  unfold lotsI
  rw [List.length_mergeSort, lotsU_len]
abbrev f_lots (ds : List D) : D := match ds with
  | [.int n] => rowsL (lotsI n.toNat)
  | _ => .non
abbrev sp_lots (K : PySem.W.Frag) (C : Addr) : Sp := SpD K C (fun ds => ∃ n : Int, ds = [.int n] ∧ 0 ≤ n ∧ n ≤ 10) f_lots 1
section
variable {P : Program} {w : World} {K : PySem.W.Frag} {mg : Str → Option Value} {base : Heap} {f C : Addr} {fd : FuncData}
theorem sc_law_lots : FnScope ["_law_many", "_law_found", "_law_block", "_law_lot"] ["_law_many"] (defScope (top 34)) := ⟨rfl, rfl, rfl, by decide +kernel, rfl, by decide +kernel, by decide +kernel⟩
-- slots: _law_many=0 _law_found=1 _law_block=2 _law_lot=3
theorem ok_law_lots (B : BFree mg) (F : DefAt K mg "_law_lots" ["_law_many"] (top 34) f fd) : DefOk P w K mg base "_law_lots" 1 ["_law_many"] (sp_lots K C) := by
  refine okD F sc_law_lots fun cdv A outer s H E hr => ⟨_, (pss_cons (ps_set (i := 1) sc_law_lots.nd rfl (.inl rfl) (pe_lst (pa_cons (pe_lst pa_nil) pa_nil))) (pss_cons (ps_for PassesOwn.never rfl (i_rng1 B (pa_cons (pv 0) pa_nil)) (pg_name (i := 2) sc_law_lots.nd rfl (.inr rfl)) (pss_one (ps_set (i := 1) sc_law_lots.nd rfl (.inl rfl) (pe_op op_cat (pv 1) (pe_lc (own := [("_law_lot", 3)]) rfl sc_law_lots.nd (i_list (K := K) (pv 1)) (blkOk_by (own := [("_law_lot", 3)]) (N := ["_law_many", "_law_found", "_law_block", "_law_lot"]) (sc := (defScope (top 34))) (by decide +kernel)) (fun _ _ _ _ _ => pg_name (i := 3) sc_law_lots.nd rfl (.inl rfl)) (fun _ _ _ _ _ => pts_nil) (fun _ _ _ _ _ => (pe_op op_cat (pv 3) (pe_lst (pa_cons (pv 2) pa_nil))))))))) (pss_one (ps_ret (c_sortedD (K := K) B hr.units (pa_cons (pv 1) pa_nil)))))), ?_⟩
  rintro ds ⟨n, rfl, n0, n1⟩
  refine sr_seq (sx_set (ev_is (z := rowsL (lotsU 0)) (en_lst (ea_cons (en_lst ea_nil (by decide)).toD ea_nil) (by decide)).toD rfl)) ?_
  refine sr_seq (sx_for (as := List.range n.toNat) (g0 := fun (k : Nat) => D.int (0 + (k : Int))) (δs := fun i => [some (.int n), some (rowsL (lotsU i)), none, none]) (ei_rng1 (j := n) (ea_cons (ev_var rfl) ea_nil) (by omega) (by omega)) ?_ fun i a hi => ?_) ?_
  · exact leD_some (leD_some (leD_none (leD_none leD_nil)))
  · obtain ⟨hk1, hk2⟩ := List.getElem?_eq_some_iff.mp hi
    rw [List.length_range] at hk1
    rw [List.getElem_range] at hk2
    subst hk2
    refine ⟨_, ega_name, ?_⟩
    have hz : (lotsU i).length ≤ 1024 := by
      rw [lotsU_len]
      exact Nat.pow_le_pow_right (by decide) (by omega : i ≤ 10)
    refine sx_weak (sx_set (ev_is (z := rowsL (lotsU (i + 1))) (en_op (ev_var rfl) (en_lc1 (as := lotsU i) (g0 := fun r => D.lst (dI r)) (f := fun r => D.lst (dI (r ++ [0 + (i : Int)]))) (ei_list (ev_var rfl)) (fun r hr => eg_name (by decide)) (fun r hr => ev_is (en_op (ev_var rfl) (en_lst (ea_cons (ev_var rfl) ea_nil) (by show 1 ≤ 100000; decide)).toD (r2_cat ?_)).toD ?_) (by omega)).toD (r2_cat ?_)).toD ?_)) ?_
    · have := (lotsU_row i r hr)
      have hl := nd_len r (rgI 0 i) (this.1.imp fun h e => by omega) fun x hx => rgI_mem.mpr (this.2 x hx)
      rw [rgI_len] at hl
      show (dI r).length + 1 ≤ 100000
      rw [dI, List.length_map]
      omega
    · unfold dI
      rw [List.map_append]
      rfl
    · rw [List.length_map, List.length_map]
      omega
    · unfold rowsL
      show _ = D.lst ((lotsU i ++ (lotsU i).map fun l => l ++ [(0 : Int) + (i : Int)]).map fun r => D.lst (dI r))
      rw [List.map_append, List.map_map]
      rfl
    · exact leD_some (leD_some (leD_none (leD_none leD_nil)))
  · rw [List.length_range]
    exact sr_ret (EvN.toD (en_is (en_cb (ea_cons (ev_var rfl) ea_nil) (rn_sortedRows (rows := lotsU n.toNat) (by
      rw [lotsU_len]
      exact Nat.le_trans (Nat.pow_le_pow_right (by decide) (by omega : n.toNat ≤ 10)) (by decide)))) rfl))
end
end Zm


set_option Elab.async false
set_option linter.all false
set_option maxRecDepth 100000
set_option maxHeartbeats 4000000
set_option autoImplicit false
namespace Zm
open PySem PySem.Spec L2
theorem asc_iff {l : Int} : ∀ {ns : List Int} {last : Int}, asc l last (dI ns) = true ↔ (∀ x ∈ ns, 0 ≤ x ∧ x < l) ∧ (last :: ns).Pairwise (· < ·)
  | [], last => by
    unfold dI List.map asc
    simp
  | n :: ns, last => by
    have ih := asc_iff (l := l) (ns := ns) (last := n)
    show (decide (0 ≤ n) && decide (n < l) && decide (last < n) && asc l n (dI ns)) = true ↔ _
    rw [Bool.and_eq_true, Bool.and_eq_true, Bool.and_eq_true, decide_eq_true_eq, decide_eq_true_eq, decide_eq_true_eq, ih]
    constructor
    · rintro ⟨⟨⟨h1, h2⟩, h3⟩, h4, h5⟩
      refine ⟨fun x hx => ?_, List.pairwise_cons.mpr ⟨fun x hx => ?_, h5⟩⟩
      · rcases List.mem_cons.mp hx with e | e
        · rw [e]
          exact ⟨h1, h2⟩
        · exact h4 x e
      · rcases List.mem_cons.mp hx with e | e
        · rw [e]
          exact h3
        · have := (List.pairwise_cons.mp h5).1 x e
          omega
    · rintro ⟨h1, h2⟩
      obtain ⟨h3, h4⟩ := List.pairwise_cons.mp h2
      have h0 := h1 n (List.mem_cons_self ..)
      exact ⟨⟨⟨h0.1, h0.2⟩, h3 n (List.mem_cons_self ..)⟩, fun x hx => h1 x (List.mem_cons_of_mem _ hx), h4⟩
theorem asc_row {l : Int} {ns : List Int} : isAscD l (.lst (dI ns)) = true ↔ RowOk l ns := by
  have : isAscD l (.lst (dI ns)) = asc l (-1) (dI ns) := rfl
  rw [this, asc_iff]
  constructor
  · rintro ⟨h1, h2⟩
    exact ⟨(List.pairwise_cons.mp h2).2, h1⟩
  · rintro ⟨h1, h2⟩
    exact ⟨h2, List.pairwise_cons.mpr ⟨fun x hx => by have := h2 x hx; omega, h1⟩⟩
def isI : D → Bool
  | .int _ => true
  | _ => false
theorem asc_no {l : Int} : ∀ {ds : List D} {last : Int}, ds.all isI = false → asc l last ds = false
  | [], _, h => by cases h
  | d :: ds, last, h => by
    cases d with
    | int i =>
      have h' : ds.all isI = false := h
      show (decide (0 ≤ i) && decide (i < l) && decide (last < i) && asc l i ds) = false
      rw [asc_no h', Bool.and_false]
    | _ => rfl
theorem all_isI : ∀ {ds : List D}, ds.all isI = true → ∃ ns, ds = dI ns
  | [], _ => ⟨[], rfl⟩
  | d :: ds, h => by
    rw [List.all_cons, Bool.and_eq_true] at h
    obtain ⟨ns, rfl⟩ := all_isI h.2
    cases d with
    | int i => exact ⟨i :: ns, rfl⟩
    | _ => exact absurd h.1 Bool.false_ne_true
abbrev f_lis_lot (ds : List D) : D := match ds with
  | [.lst [_, .lst rs], v] => .bl (isAscD rs.length v)
  | _ => .non
def shortT : D → Prop
  | .lst ds => ds.length < 60
  | _ => True
abbrev sp_lis_lot (K : PySem.W.Frag) (C : Addr) : Sp := SpD K C (fun ds => ∃ m rows v, ds = [recD m rows, v] ∧ ValidR m rows ∧ plainT v ∧ itemsT v ∧ shortT v) f_lis_lot 2
theorem ev_chainI {K : PySem.W.Frag} {C : Addr} {δ : Dl} {ta tb tc : TE} {g g' : Int → Int → Bool} {i j l : Int} (h1 : EvD K C ta δ (.int i)) (h2 : EvD K C tb δ (.int j)) (h3 : EvD K C tc δ (.int l)) :
    EvD K C (tChain (rI0 fun i j => .bl (g i j)) (rI0 fun i j => .bl (g' i j)) ta tb tc) δ (.bl (g i j && g' j l)) := fun O σ H n Q q => h1 O σ H n _ fun x H1 s1 d1 => h2 O σ H1 (n.same s1) _ fun y H2 s2 d2 => by
  refine ⟨i, j, dat_int.mp d1, dat_int.mp d2, g i j, rfl, ?_⟩
  cases hg : g i j with
  | false =>
    exact iteF (q _ _ (s1.trans s2) (dat_bl.mpr (by rw [hg]; rfl)))
  | true =>
    refine iteT ?_
    exact h3 O σ H2 (n.same (s1.trans s2)) _ fun z H3 s3 d3 => ⟨j, l, dat_int.mp d2, dat_int.mp d3, q _ _ ((s1.trans s2).trans s3) (dat_bl.mpr (by rw [hg]; rfl))⟩
section
variable {P : Program} {w : World} {K : PySem.W.Frag} {mg : Str → Option Value} {base : Heap} {f C : Addr} {fd : FuncData}
theorem sc_law_is_lot : FnScope ["_law_recipe_here", "_law_value", "_law_block"] ["_law_recipe_here", "_law_value"] (defScope (top 36)) := ⟨rfl, rfl, rfl, by decide +kernel, rfl, by decide +kernel, by decide +kernel⟩
-- slots: _law_recipe_here=0 _law_value=1 _law_block=2
theorem ok_law_is_lot (B : BFree mg) (F : DefAt K mg "_law_is_lot" ["_law_recipe_here", "_law_value"] (top 36) f fd) : DefOk P w K mg base "_law_is_lot" 1 ["_law_recipe_here", "_law_value"] (sp_lis_lot K C) := by
  refine okD F sc_law_is_lot fun cdv A outer s H E hr => ⟨_, (pss_cons (ps_if (PW.pt (pw_or (pt_not (pt_val (c_isi (K := K) B (pa_cons (pv 1) (pa_cons (n_ty (n := "list") B) pa_nil))))) (pw_or1 (pt_not (pt_val (c_all (K := K) B (pa_cons (pe_lc (own := [("_law_block", 2)]) rfl sc_law_is_lot.nd (i_list (K := K) (pv 1)) (blkOk_by (own := [("_law_block", 2)]) (N := ["_law_recipe_here", "_law_value", "_law_block"]) (sc := (defScope (top 36))) (by decide +kernel)) (fun _ _ _ _ _ => pg_name (i := 2) sc_law_is_lot.nd rfl (.inl rfl)) (fun _ _ _ _ _ => pts_nil) (fun _ _ _ _ _ => (pe_and (c_isi (K := K) B (pa_cons (pv 2) (pa_cons (n_ty (n := "int") B) pa_nil))) (pe_one (pe_not (c_isi (K := K) B (pa_cons (pv 2) (pa_cons (n_ty (n := "bool") B) pa_nil)))))))) pa_nil))))))) (pss_one (ps_ret pe_bl)) pss_nil) (pss_one (ps_ret (pe_and (c_all (K := K) B (pa_cons (pe_lc (own := [("_law_block", 2)]) rfl sc_law_is_lot.nd (i_list (K := K) (pv 1)) (blkOk_by (own := [("_law_block", 2)]) (N := ["_law_recipe_here", "_law_value", "_law_block"]) (sc := (defScope (top 36))) (by decide +kernel)) (fun _ _ _ _ _ => pg_name (i := 2) sc_law_is_lot.nd rfl (.inl rfl)) (fun _ _ _ _ _ => pts_nil) (fun _ _ _ _ _ => (pe_chain op_le op_lt pe_int (pv 2) (c_len (K := K) B (pa_cons (pe_ix (x_list (K := K)) (pv 0) pe_int (fun _ _ => rfl)) pa_nil))))) pa_nil)) (pe_one (pe_cmpR (o_eq (K := K) (by exact hr.units)) (pv 1) (c_sortedDI (K := K) B (pa_cons (c_dictP (K := K) B (pa_cons (pe_lc (own := [("_law_block", 2)]) rfl sc_law_is_lot.nd (i_list (K := K) (pv 1)) (blkOk_by (own := [("_law_block", 2)]) (N := ["_law_recipe_here", "_law_value", "_law_block"]) (sc := (defScope (top 36))) (by decide +kernel)) (fun _ _ _ _ _ => pg_name (i := 2) sc_law_is_lot.nd rfl (.inl rfl)) (fun _ _ _ _ _ => pts_nil) (fun _ _ _ _ _ => (pe_tup (pa_cons (pv 2) (pa_cons pe_bl pa_nil))))) pa_nil)) pa_nil)) (nomark _))))))), ?_⟩
  rintro ds ⟨m, rows, v, rfl, hv, hp, hi, hs⟩
  have e0 : f_lis_lot [recD m rows, v] = .bl (isAscD rows.length v) := by
    show D.bl (isAscD (rows.map fun r => D.lst (dI r)).length v) = _
    rw [List.length_map]
  rw [e0]
  obtain ⟨sv, hsv⟩ := hp
  have isv : ∀ {δ : Dl}, δ[1]? = some (some v) → EvD K C (tCB (rIsi K) (tCons (tVar 1) (tCons (tC (.ty "list")) tNil))) δ (.bl (isTy v "list")) := fun h => ev_cb (ea_cons (ev_var h) (ea_cons ev_raw ea_nil)) (rc_isi hsv (by decide))
  by_cases hty : isTy v "list" = true
  case neg =>
    have e1 : isAscD rows.length v = false := by
      cases v with
      | lst ds => exact absurd rfl hty
      | _ => rfl
    rw [e1]
    exact sr_guard (b := true) (et_is (et_or (a := true) (b := true) (et_is (et_not (et_B (isv rfl))) (by simpa using hty)) (fun h => absurd h.symm Bool.false_ne_true)) rfl) (fun _ => sr_ret ev_bl) (fun h => absurd h.symm Bool.false_ne_true)
  cases v with
  | lst ds =>
    have hz : ds.length < 60 := hs
    have hit : ∀ d ∈ ds, plainT d := hi
    have allI : EvT K C (tB (tCB (rAll K) (tCons (tLc (iList K (tVar 1)) (gName 2) tYes (tAndV (tCB (rIsi K) (tCons (tVar 2) (tCons (tC (.ty "int")) tNil))) (tNotV (tCB (rIsi K) (tCons (tVar 2) (tCons (tC (.ty "bool")) tNil))))) [2]) tNil))) (startD ["_law_recipe_here", "_law_value", "_law_block"] [recD m rows, .lst ds]) (ds.all isI) := by
      refine et_B (ev_is (z := .bl (ds.all isI)) (ev_cb (ea_cons (ev_is (z := .lst (dB (ds.map isI))) (en_lc1 (as := ds) (g0 := id) (f := fun d => D.bl (isI d)) (by rw [List.map_id]; exact ei_list (ev_var rfl)) (fun a ha => eg_name (by decide)) (fun a ha => ?_) (by omega)).toD (by unfold dB; rw [List.map_map]; rfl)) ea_nil) rc_all) (by rw [List.all_map]; rfl))
      obtain ⟨sa, hsa⟩ := hit a ha
      refine ev_is (ev_andV (a := isTy a "int") (b := !isTy a "bool") (ev_cb (ea_cons (ev_var rfl) (ea_cons ev_raw ea_nil)) (rc_isi hsa (by decide))) (fun _ => ev_notV (ev_cb (ea_cons (ev_var rfl) (ea_cons ev_raw ea_nil)) (rc_isi hsa (by decide))))) ?_
      cases a <;> rfl
    refine sr_guard (b := !ds.all isI) (et_is (et_or (a := false) (b := !ds.all isI) (et_is (et_not (et_B (isv rfl))) rfl) (fun _ => et_not allI)) rfl) (fun h => ?_) (fun h => ?_)
    · have h' : ds.all isI = false := by simpa using h
      have e1 : isAscD rows.length (.lst ds) = false := asc_no h'
      rw [e1]
      exact sr_ret ev_bl
    · have h' : ds.all isI = true := by simpa using h
      obtain ⟨ns, rfl⟩ := all_isI h'
      have hn : ns.length < 60 := by rwa [dI, List.length_map] at hz
      obtain ⟨is, k1, k2, k3, k4⟩ := trues_keys ns
      have e1 : isAscD rows.length (.lst (dI ns)) = ((ns.all fun x => decide (0 ≤ x) && decide (x < (rows.length : Int))) && decide (ns = srt is)) := by
        rw [Bool.eq_iff_iff, asc_row, Bool.and_eq_true, List.all_eq_true, decide_eq_true_eq]
        constructor
        · intro h
          refine ⟨fun x hx => by have := h.2 x hx; simpa using this, ?_⟩
          exact lt_eq h.1 (srt_lt k2) fun x => by rw [(srt_perm is).mem_iff, k4]
        · rintro ⟨h1, h2⟩
          refine ⟨by rw [h2]; exact srt_lt k2, fun x hx => by simpa using h1 x hx⟩
      rw [e1]
      refine sr_ret (ev_andV (ev_is (z := .bl (ns.all fun x => decide (0 ≤ x) && decide (x < (rows.length : Int)))) (ev_cb (ea_cons (ev_is (z := .lst (dB (ns.map fun x => decide (0 ≤ x) && decide (x < (rows.length : Int))))) (en_lc1 (as := ns) (g0 := D.int) (f := fun x => D.bl (decide (0 ≤ x) && decide (x < (rows.length : Int)))) (ei_list (ev_var rfl)) (fun a ha => eg_name (by decide)) (fun a ha => ?_) (by omega)).toD (by unfold dB; rw [List.map_map]; rfl)) ea_nil) rc_all) (by rw [List.all_map]; rfl)) fun _ => ev_is (ev_op (ev_var rfl) (en_cb (ea_cons (en_cb (ea_cons (ev_is (z := .lst ((trues ns).map pairD)) (en_lc1 (as := ns) (g0 := D.int) (f := fun n => D.tup [.int n, .bl true]) (ei_list (ev_var rfl)) (fun x hx => eg_name (by decide)) (fun x hx => (en_tup (ea_cons (ev_var rfl) (ea_cons ev_bl ea_nil)) (by show 2 ≤ 100000; decide)).toD) (by omega)).toD ?_) ea_nil) rn_dictP).toD ea_nil) (rn_sortedDI k1 (by omega))).toD (r2_eq shp_row shp_row)) (by rw [eqD_row]))
      · refine ev_chainI (ev_int) (ev_var rfl) (ev_is (z := .int rows.length) (ev_cb (ea_cons (rec_rows rfl) ea_nil) rc_lenL) (by rw [List.length_map]))
      · unfold trues
        rw [List.map_map]
        rfl
  | _ => exact absurd hty Bool.false_ne_true
end
end Zm


set_option Elab.async false
set_option linter.all false
set_option maxRecDepth 100000
set_option maxHeartbeats 4000000
set_option autoImplicit false
namespace Zm
open PySem PySem.Spec L2
/-! ### draws in any slot: conditions, operations, arguments -/
section
variable {K : PySem.W.Frag} {C : Addr} {j : Nat}
def EvJA (K : PySem.W.Frag) (C : Addr) (j : Nat) (ta : TA) (δ : Dl) (c : Nat) (R : List D → Prop) : Prop := ∀ O σ H p n, AtJ K C j O H σ δ p n → n + c ≤ 1000000 → ∀ Q : List V → Hp → Prop, (∀ vs H' ds, But p H H' → PurseIs (n + c) H' p → R ds → Dats K C (hid O H') ds vs → Q vs H') → ta σ H Q
variable {δ δ' : Dl} {ta tb te : TE} {tr : TA} {tt : TT} {c c1 c2 : Nat} {d : D} {R R1 R2 : D → Prop}
theorem ej_d (h : EvD K C te δ d) : EvJ K C j te δ 0 (fun x => x = d) := fun O σ H p n x hn Q q => h O σ H x.at_ Q fun v H' s hd => q v H' d (But.of s) (x.purse.same s) rfl hd
theorem ej_ifB {b : Bool} (h : EvT K C tt δ b) (h1 : b = true → EvJ K C j ta δ c R) (h2 : b = false → EvJ K C j tb δ c R) : EvJ K C j (tIf tt ta tb) δ c R := fun O σ H p n x hn Q q => h O σ H x.at_ _ fun H' s => by
  have x' := x.same s
  cases b with
  | true => exact h1 rfl O σ H' p _ x' hn Q fun v H2 d s2 p2 r hd => q v H2 d ((But.of s).trans s2) p2 r hd
  | false => exact h2 rfl O σ H' p _ x' hn Q fun v H2 d s2 p2 r hd => q v H2 d ((But.of s).trans s2) p2 r hd
theorem ej_op {r : L2.R2} (ha : EvJ K C j ta δ c1 R1) (hb : EvJ K C j tb δ c2 R2) (hr : ∀ d e, R1 d → R2 e → ∃ z, R2D K C r d e z ∧ R z) : EvJ K C j (tOp r ta tb) δ (c1 + c2) R := fun O σ H p n x hn Q q =>
  ha O σ H p n x (by omega) _ fun v H1 d1 s1 p1 r1 hd1 => hb O σ H1 p _ (x.but s1 p1) (by omega) _ fun w H2 d2 s2 p2 r2 hd2 => by
    obtain ⟨z, k1, k2⟩ := hr d1 d2 r1 r2
    refine k1 O H2 v w (but_own (but_own x.at_.own s1 p1) s2 p2) (hd1.same (but_hid s2 x.own)) hd2 Q fun y H3 s3 hd3 => q y H3 z ((s1.trans s2).trans (But.of s3)) ?_ k2 hd3
    have e : n + c1 + c2 = n + (c1 + c2) := by omega
    rw [← e]
    exact p2.same s3
theorem eja_nil : EvJA K C j tNil δ 0 (fun ds => ds = []) := fun O σ H p n x hn Q q => q [] H [] (But.refl p H) x.purse rfl .nil
theorem eja_cons {Rs : List D → Prop} (ha : EvJ K C j ta δ c1 R1) (hr : EvJA K C j tr δ c2 Rs) : EvJA K C j (tCons ta tr) δ (c1 + c2) (fun ds => ∃ d es, ds = d :: es ∧ R1 d ∧ Rs es) := fun O σ H p n x hn Q q =>
  ha O σ H p n x (by omega) _ fun v H1 d1 s1 p1 r1 hd1 => hr O σ H1 p _ (x.but s1 p1) (by omega) _ fun vs H2 d2 s2 p2 r2 hd2 =>
    q _ H2 (d1 :: d2) (s1.trans s2) (by rw [← Nat.add_assoc]; exact p2) ⟨d1, d2, rfl, r1, r2⟩ (.cons (hd1.same (but_hid s2 x.own)) hd2)
/-- a call by data whose arguments draw -/
theorem ej_callA {pre : List D → Prop} {f : List D → D} {m : Nat} {Rs : List D → Prop} {E : XK} (h : EvJA K C j tr δ c Rs) (hp : ∀ ds, Rs ds → ds.length = m ∧ pre ds) : EvJ K C j (tCall (SpD K C pre f m) [] E tr) δ c (fun z => ∃ ds, Rs ds ∧ z = f ds) := fun O σ H p n x hn Q q => h O σ H p n x hn _ fun vs H1 ds s1 p1 r1 hd => by
  show SpD K C pre f m (vs ++ []) H1 Q E
  rw [List.append_nil]
  have o1 := but_own x.at_.own s1 p1
  obtain ⟨l, hpre⟩ := hp ds r1
  exact ⟨by rw [hd.length, l], O, ds, o1, hd, hpre, fun w H2 s2 d2 => q w H2 (f ds) (s1.trans (But.of s2)) (p1.same s2) ⟨ds, r1, rfl⟩ d2⟩
end
end Zm


set_option Elab.async false
set_option linter.all false
set_option maxRecDepth 100000
set_option maxHeartbeats 4000000
set_option autoImplicit false
namespace Zm
open PySem PySem.Spec L2
/-! mathematics: two lots hold at least what their common and their joined one hold -/
theorem cnt_two {α : Type} {P Q U V : α → Bool} (h : ∀ x, (U x).toNat + (V x).toNat ≤ (P x).toNat + (Q x).toNat) : ∀ l : List α, (l.filter U).length + (l.filter V).length ≤ (l.filter P).length + (l.filter Q).length
  | [] => Nat.le_refl _
  | x :: l => by
    have ih := cnt_two h l
    have hx := h x
    have e : ∀ (F : α → Bool), ((x :: l).filter F).length = (F x).toNat + (l.filter F).length := fun F => by
      rw [List.filter_cons]
      cases F x with
      | true =>
        rw [if_pos rfl, List.length_cons]
        show _ = 1 + _
        omega
      | false =>
        rw [if_neg Bool.false_ne_true]
        show _ = 0 + _
        omega
    rw [e, e, e, e]
    omega
theorem row_filter {a : List Int} (h : a.Pairwise (· < ·)) (g : ∀ x ∈ a, 0 ≤ x ∧ x < 64) : a = (rgI 0 64).filter fun k => decide (k ∈ a) :=
  lt_eq h (rgI_lt.filter _) fun x => by
    rw [List.mem_filter, rgI_mem, decide_eq_true_eq]
    exact ⟨fun q => ⟨g x q, q⟩, fun q => q.2⟩
theorem or_and_len {a b : List Int} (ha : a.Pairwise (· < ·)) (ga : ∀ x ∈ a, 0 ≤ x ∧ x < 64) (hb : b.Pairwise (· < ·)) (gb : ∀ x ∈ b, 0 ≤ x ∧ x < 64) : a.length + b.length = (canon (a ++ b)).length + (comI a b).length := by
  have ec : comI a b = (rgI 0 64).filter fun k => decide (k ∈ a) && decide (k ∈ b) := lt_eq (ha.filter _) (rgI_lt.filter _) fun x => by
    unfold comI
    rw [List.mem_filter, List.mem_filter, rgI_mem, decide_eq_true_eq, Bool.and_eq_true, decide_eq_true_eq, decide_eq_true_eq]
    exact ⟨fun q => ⟨ga x q.1, q⟩, fun q => q.2⟩
  have ea := congrArg List.length (row_filter ha ga)
  have eb := congrArg List.length (row_filter hb gb)
  have k1 := cnt_two (P := fun k => decide (k ∈ a)) (Q := fun k => decide (k ∈ b)) (U := fun k => decide (k ∈ a ++ b)) (V := fun k => decide (k ∈ a) && decide (k ∈ b)) (fun x => by
    by_cases h1 : x ∈ a <;> by_cases h2 : x ∈ b <;> simp [h1, h2]) (rgI 0 64)
  have k2 := cnt_two (U := fun k => decide (k ∈ a)) (V := fun k => decide (k ∈ b)) (P := fun k => decide (k ∈ a ++ b)) (Q := fun k => decide (k ∈ a) && decide (k ∈ b)) (fun x => by
    by_cases h1 : x ∈ a <;> by_cases h2 : x ∈ b <;> simp [h1, h2]) (rgI 0 64)
  rw [ec, ea, eb]
  show _ = ((rgI 0 64).filter fun k => decide (k ∈ a ++ b)).length + _
  omega
theorem gain_pos {m : Int} {rows : List (List Int)} {a b : List Int} (ha : a.Pairwise (· < ·)) (ga : ∀ x ∈ a, 0 ≤ x ∧ x < 64) (hb : b.Pairwise (· < ·)) (gb : ∀ x ∈ b, 0 ≤ x ∧ x < 64) : 0 ≤ gainI m rows a b := by
  have h1 := or_and_len ha ga hb gb
  have hab : ∀ x ∈ a ++ b, 0 ≤ x ∧ x < 64 := fun x hx => (List.mem_append.mp hx).elim (ga x) (gb x)
  have h2 : (neededI m rows (canon (a ++ b))).length + (neededI m rows (comI a b)).length ≤ (neededI m rows a).length + (neededI m rows b).length := by
    unfold neededI
    refine cnt_two (fun x => ?_) _
    have im : ∀ {p q : Prop} [Decidable p] [Decidable q], (p → q) → (decide p).toNat ≤ (decide q).toNat := fun {p q} _ _ h => by
      by_cases hp : p
      · rw [decide_eq_true hp, decide_eq_true (h hp)]
        exact Nat.le_refl _
      · rw [decide_eq_false hp]
        exact Nat.zero_le _
    let N := fun lot : List Int => rows.zipIdx.any fun q => !(decide ((q.2 : Int) ∈ lot)) && decide (x ∈ q.1)
    have nm : ∀ lot, N lot = true ↔ ∃ q ∈ rows.zipIdx, ¬ (q.2 : Int) ∈ lot ∧ x ∈ q.1 := fun lot => by
      show (rows.zipIdx.any fun q => !(decide ((q.2 : Int) ∈ lot)) && decide (x ∈ q.1)) = true ↔ _
      rw [List.any_eq_true]
      simp
    show (N (canon (a ++ b))).toNat + (N (comI a b)).toNat ≤ (N a).toNat + (N b).toNat
    have u1 : N (canon (a ++ b)) = true → N a = true ∧ N b = true := fun h => by
      obtain ⟨q, hq, h1, h2⟩ := (nm _).mp h
      rw [canon_mem hab] at h1
      exact ⟨(nm _).mpr ⟨q, hq, fun z => h1 (List.mem_append_left _ z), h2⟩, (nm _).mpr ⟨q, hq, fun z => h1 (List.mem_append_right _ z), h2⟩⟩
    have u2 : N (comI a b) = true → N a = true ∨ N b = true := fun h => by
      obtain ⟨q, hq, h1, h2⟩ := (nm _).mp h
      by_cases z : (q.2 : Int) ∈ a
      · refine .inr ((nm _).mpr ⟨q, hq, fun y => h1 (List.mem_filter.mpr ⟨z, by simpa using y⟩), h2⟩)
      · exact .inl ((nm _).mpr ⟨q, hq, z, h2⟩)
    cases e1 : N (canon (a ++ b)) with
    | true =>
      rw [(u1 e1).1, (u1 e1).2]
      cases N (comI a b) <;> decide
    | false =>
      cases e2 : N (comI a b) with
      | true =>
        rcases u2 e2 with h | h
        · rw [h]
          cases N b <;> decide
        · rw [h]
          cases N a <;> decide
      | false => exact Nat.zero_le _
  unfold gainI heldI
  omega
theorem gain_comm {m : Int} {rows : List (List Int)} {a b : List Int} (ha : a.Pairwise (· < ·)) (hb : b.Pairwise (· < ·)) : gainI m rows b a = gainI m rows a b := by
  have e1 : canon (b ++ a) = canon (a ++ b) := by
    unfold canon
    refine List.filter_congr fun x _ => ?_
    rw [Bool.eq_iff_iff, decide_eq_true_eq, decide_eq_true_eq, List.mem_append, List.mem_append]
    exact Or.comm
  have e2 : comI b a = comI a b := lt_eq (hb.filter _) (ha.filter _) fun x => by
    unfold comI
    rw [List.mem_filter, List.mem_filter, decide_eq_true_eq, decide_eq_true_eq]
    exact And.comm
  unfold gainI
  rw [e1, e2]
  omega
end Zm


set_option Elab.async false
set_option linter.all false
set_option maxRecDepth 100000
set_option maxHeartbeats 4000000
set_option autoImplicit false
namespace Zm
open PySem PySem.Spec L2
section
variable {K : PySem.W.Frag} {C : Addr} {E : EndP} {ts : TS} {δ : Dl} {i : Nat} {W : WP} {n : Nat}
theorem sw_last (h : StW K C E (tSeq ts tNext) δ i W) : StW K C E ts δ i W := h
end
theorem bnd_all {n : Nat} : ∀ {ds : List D}, (∀ d ∈ ds, BndD n d) → BndDs n ds
  | [], _ => by unfold BndDs; trivial
  | d :: ds, h => by
    unfold BndDs
    exact ⟨h d (List.mem_cons_self ..), bnd_all fun e he => h e (List.mem_cons_of_mem _ he)⟩
theorem bnd_row {n : Nat} {ns : List Int} (h : ns.length ≤ n) : BndD n (.lst (dI ns)) := by
  unfold BndD
  refine ⟨by unfold dI; rw [List.length_map]; exact h, bnd_all fun d hd => ?_⟩
  obtain ⟨i, _, rfl⟩ := List.mem_map.mp hd
  unfold BndD
  trivial
theorem plain_int {n : Nat} {i : Int} : Plain (n + 1) (.int i) := by
  unfold Plain
  trivial
theorem plain_bl {n : Nat} {i : Bool} : Plain (n + 1) (.bl i) := by
  unfold Plain
  trivial
theorem plain_lst {n : Nat} {ds : List D} (hl : ds.length ≤ 100000) (h : ∀ e ∈ ds, Plain n e) : Plain (n + 1) (.lst ds) := by
  unfold Plain
  exact ⟨hl, h⟩
theorem plain_dI {n : Nat} {ns : List Int} (hl : ns.length ≤ 100000) : Plain (n + 2) (.lst (dI ns)) := plain_lst (by unfold dI; rw [List.length_map]; exact hl) fun e he => by
  obtain ⟨i, _, rfl⟩ := List.mem_map.mp he
  exact plain_int
def SmallR (m : Int) (rows : List (List Int)) : Prop := ValidR m rows ∧ m ≤ 15 ∧ rows.length ≤ 8
theorem small_of {mn mo m : Int} {rows : List (List Int)} (h : RecOk mn mo m rows) (h1 : mn ≤ 8) (h2 : mo ≤ 8) : SmallR m rows := by
  obtain ⟨a, b, c, d, e⟩ := h
  exact ⟨⟨a, c, by omega, fun r hr => ⟨e r hr, by have := row_len' (e r hr); omega⟩⟩, by omega, by omega⟩
abbrev R_lot (ds : List D) (d : D) : Prop := match ds with
  | [.lst [_, .lst rs]] => ∃ lot, d = .lst (dI lot) ∧ RowOk rs.length lot
  | _ => False
abbrev sp_drawn_lot (K : PySem.W.Frag) (C : Addr) : Sp := SpP K C (fun ds => ∃ m rows, ds = [recD m rows] ∧ rows.length ≤ 8) 8 R_lot 1
abbrev R_great (_ : List D) (d : D) : Prop := ∃ m rows, d = recD m rows ∧ RecOk 8 8 m rows
abbrev sp_great (K : PySem.W.Frag) (C : Addr) : Sp := SpP K C (fun ds => ds = []) 400 R_great 0
abbrev f_common (ds : List D) : D := match ds with
  | [.lst a, .lst b] => .lst (dI (comI (a.map toI') (b.map toI')))
  | _ => .non
abbrev sp_common (K : PySem.W.Frag) (C : Addr) : Sp := SpD K C (fun ds => ∃ a b : List Int, ds = [.lst (dI a), .lst (dI b)] ∧ a.length ≤ 1000) f_common 2
abbrev sp_lot_right (K : PySem.W.Frag) (C : Addr) : Sp := SpD K C (fun ds => ∃ m rows lot, ds = [recD m rows, .rcp m rows, .lst (dI lot)] ∧ SmallR m rows ∧ RowOk rows.length lot) (fun _ => .bl true) 3
abbrev sp_two_right (K : PySem.W.Frag) (C : Addr) : Sp := SpD K C (fun ds => ∃ m rows a b, ds = [recD m rows, .rcp m rows, .lst (dI a), .lst (dI b)] ∧ SmallR m rows ∧ RowOk rows.length a ∧ RowOk rows.length b) (fun _ => .bl true) 4
theorem needed_eq (m : Int) (rows : List (List Int)) (lot : List Int) : f_needed [.rcp m rows, .lst (dI lot)] = .lst (dI (neededI m rows lot)) := by
  show D.lst (dI (neededI m rows ((dI lot).map toI'))) = _
  rw [toI'_dI]
theorem lneeded_eq (m : Int) (rows : List (List Int)) (lot : List Int) : f_lneeded [recD m rows, .lst (dI lot)] = .lst (dI (neededI m rows lot)) := by
  show D.lst (dI (neededI m ((rows.map fun r => D.lst (dI r)).map rowsI') ((dI lot).map toI'))) = _
  rw [toI'_dI, rowsI'_rows]
theorem lheld_eq (m : Int) (rows : List (List Int)) (lot : List Int) : f_lheld [recD m rows, .lst (dI lot)] = .int (heldI m rows lot) := by
  show D.int (((dI lot).length : Int) + ((dI (neededI m ((rows.map fun r => D.lst (dI r)).map rowsI') ((dI lot).map toI'))).length : Int)) = _
  rw [toI'_dI, rowsI'_rows]
  unfold dI heldI
  rw [List.length_map, List.length_map]
theorem union_eq (a b : List Int) : f_union [.lst (dI a), .lst (dI b)] = .lst (dI (canon (a ++ b))) := by
  show D.lst (dI (canon ((dI a ++ dI b).map toI))) = _
  rw [List.map_append, toI_dI, toI_dI]
theorem gain_eq (m : Int) (rows : List (List Int)) (a b : List Int) : f_gain [.rcp m rows, .lst (dI a), .lst (dI b)] = .int (gainI m rows a b) := by
  show D.int (gainI m rows ((dI a).map toI') ((dI b).map toI')) = _
  rw [toI'_dI, toI'_dI]
theorem common_eq (a b : List Int) : f_common [.lst (dI a), .lst (dI b)] = .lst (dI (comI a b)) := by
  show D.lst (dI (comI ((dI a).map toI') ((dI b).map toI'))) = _
  rw [toI'_dI, toI'_dI]
section
variable {P : Program} {w : World} {K : PySem.W.Frag} {mg : Str → Option Value} {base : Heap} {f C : Addr} {fd : FuncData}
theorem sc_law_drawn_lot : FnScope ["_law_purse_here", "_law_recipe_here", "_law_block"] ["_law_purse_here", "_law_recipe_here"] (defScope (top 38)) := ⟨rfl, rfl, rfl, by decide +kernel, rfl, by decide +kernel, by decide +kernel⟩
theorem ok_law_drawn_lot (B : BFree mg) (D_law_draw : DefOk P w K mg base "_law_draw" 2 ["_law_purse_here", "_law_many"] spDraw) (F : DefAt K mg "_law_drawn_lot" ["_law_purse_here", "_law_recipe_here"] (top 38) f fd) : DefOk P w K mg base "_law_drawn_lot" 3 ["_law_purse_here", "_law_recipe_here"] (sp_drawn_lot K C) := by
  refine okP F sc_law_drawn_lot rfl fun cdv A outer s H E hr => ⟨_, (pss_one (ps_ret (pe_lc (own := [("_law_block", 2)]) rfl sc_law_drawn_lot.nd (i_rng1 B (pa_cons (c_len (K := K) B (pa_cons (pe_ix (x_list (K := K)) (pv 1) pe_int (fun _ _ => rfl)) pa_nil)) pa_nil)) (blkOk_by (own := [("_law_block", 2)]) (N := ["_law_purse_here", "_law_recipe_here", "_law_block"]) (sc := (defScope (top 38))) (by decide +kernel)) (fun _ _ _ _ _ => pg_name (i := 2) sc_law_drawn_lot.nd rfl (.inl rfl)) (fun _ _ _ _ _ => pts_one (pt_cmpR (o_eq (K := K) (by exact hr.units)) (pe_def D_law_draw (hr.mono (by first | decide | omega)) (pa_cons (pv 0) (pa_cons pe_int pa_nil))) pe_int (nomark _))) (fun _ _ _ _ _ => (pv 2))))), ?_⟩
  rintro ds ⟨m, rows, rfl, hl⟩ _
  refine sp_ret (ep_imp (ep_lcR (n := (rows.length : Int)) (N := 8) (ct := 1) (ce := 0) (ev_is (z := .int rows.length) (ev_cb (ea_cons (rec_rows rfl) ea_nil) rc_lenL) (by rw [List.length_map])) (by decide) (by decide) (by omega) (by decide) (by omega) (fun k hk => ept_drEq (by decide) (by decide)) (fun k hk => ep_d (ev_var rfl))) (fun d h => ?_) (by decide))
  obtain ⟨ds, rfl, hp⟩ := h
  obtain ⟨ns, rfl, hs⟩ := picks_sub hp
  refine ⟨ns, rfl, ?_⟩
  rw [List.length_map]
  exact rowOk_sub (by omega : ((rows.length : Int).toNat : Int) = (rows.length : Int)) hs
theorem sc_law_great : FnScope ["_law_purse_here"] ["_law_purse_here"] (defScope (top 41)) := ⟨rfl, rfl, rfl, by decide +kernel, rfl, by decide +kernel, by decide +kernel⟩
theorem ok_law_great (D_law_recipe : DefOk P w K mg base "_law_recipe" 4 ["_law_purse_here", "_law_most_new", "_law_most_old"] (sp_recipe K C)) (F : DefAt K mg "_law_great" ["_law_purse_here"] (top 41) f fd) : DefOk P w K mg base "_law_great" 5 ["_law_purse_here"] (sp_great K C) := by
  refine okP F sc_law_great rfl fun cdv A outer s H E hr => ⟨_, (pss_one (ps_ret (pe_def D_law_recipe (hr.mono (by first | decide | omega)) (pa_cons (pv 0) (pa_cons pe_int (pa_cons pe_int pa_nil)))))), ?_⟩
  rintro ds rfl _
  exact sp_ret (ep_imp (ep_call (ds := [.int 8, .int 8]) (ea_cons ev_int (ea_cons ev_int ea_nil)) rfl ⟨8, 8, rfl, by decide, by decide, by decide, by decide⟩) (fun d h => h) (Nat.le_refl _))
theorem sc_law_common : FnScope ["_law_one", "_law_other", "_law_block"] ["_law_one", "_law_other"] (defScope (top 40)) := ⟨rfl, rfl, rfl, by decide +kernel, rfl, by decide +kernel, by decide +kernel⟩
theorem ok_law_common (F : DefAt K mg "_law_common" ["_law_one", "_law_other"] (top 40) f fd) : DefOk P w K mg base "_law_common" 1 ["_law_one", "_law_other"] (sp_common K C) := by
  refine okD F sc_law_common fun cdv A outer s H E hr => ⟨_, (pss_one (ps_ret (pe_lc (own := [("_law_block", 2)]) rfl sc_law_common.nd (i_list (K := K) (pv 0)) (blkOk_by (own := [("_law_block", 2)]) (N := ["_law_one", "_law_other", "_law_block"]) (sc := (defScope (top 40))) (by decide +kernel)) (fun _ _ _ _ _ => pg_name (i := 2) sc_law_common.nd rfl (.inl rfl)) (fun _ _ _ _ _ => pts_one (pt_cmpR (o_in (K := K)) (pv 2) (pv 1) (by rfl))) (fun _ _ _ _ _ => (pv 2))))), ?_⟩
  rintro ds ⟨a, b, rfl, hl⟩
  rw [common_eq]
  exact sr_ret (ev_is (en_lc (as := a) (g0 := D.int) (p := fun x => decide (x ∈ b)) (f := D.int) (ei_list (ev_var rfl)) (fun x hx => eg_name (by decide)) (fun x hx => et_test (ev_op (ev_var rfl) (ev_var rfl) r2_in)) (fun x hx _ => ev_var rfl) (by omega)).toD rfl)
theorem sc_law_lot_right : FnScope ["_law_recipe_here", "_law_made_here", "_law_lot", "_law_handed", "_law_turn", "_law_told"] ["_law_recipe_here", "_law_made_here", "_law_lot"] (defScope (top 42)) := ⟨rfl, rfl, rfl, by decide +kernel, rfl, by decide +kernel, by decide +kernel⟩
-- slots: _law_recipe_here=0 _law_made_here=1 _law_lot=2 _law_handed=3 _law_turn=4 _law_told=5
theorem ok_law_lot_right (B : BFree mg) (D_needed : DefOk P w K mg base "needed" 5 ["recipe", "lot"] (sp_needed K C)) (D_held : DefOk P w K mg base "held" 6 ["recipe", "lot"] (sp_held K C)) (D_is_lot : DefOk P w K mg base "is_lot" 4 ["recipe", "value"] (sp_is_lot K C)) (D_law_exact : DefOk P w K mg base "_law_exact" 5 ["_law_mine", "_law_theirs"] (sp_exact K C 5))
    (D_law_needed : DefOk P w K mg base "_law_needed" 1 ["_law_recipe_here", "_law_lot"] (sp_lneeded K C)) (D_law_held : DefOk P w K mg base "_law_held" 2 ["_law_recipe_here", "_law_lot"] (sp_lheld K C)) (F : DefAt K mg "_law_lot_right" ["_law_recipe_here", "_law_made_here", "_law_lot"] (top 42) f fd) : DefOk P w K mg base "_law_lot_right" 7 ["_law_recipe_here", "_law_made_here", "_law_lot"] (sp_lot_right K C) := by
  refine okD F sc_law_lot_right fun cdv A outer s H E hr => ⟨_, (pss_cons (ps_set (i := 3) sc_law_lot_right.nd rfl (.inl rfl) (c_list (K := K) B (pa_cons (pv 2) pa_nil))) (pss_cons (ps_for PassesOwn.never rfl (i_rng1 B (pa_cons pe_int pa_nil)) (pg_name (i := 4) sc_law_lot_right.nd rfl (.inl rfl)) (pss_cons (ps_set (i := 5) sc_law_lot_right.nd rfl (.inl rfl) (pe_def D_needed (hr.mono (by first | decide | omega)) (pa_cons (pv 1) (pa_cons (pv 3) pa_nil)))) (pss_cons (ps_if (pt_not (pt_val (pe_def D_law_exact (hr.mono (by first | decide | omega)) (pa_cons (pe_lst (pa_cons (pv 5) (pa_cons (pe_def D_held (hr.mono (by first | decide | omega)) (pa_cons (pv 1) (pa_cons (pv 3) pa_nil))) (pa_cons (pe_def D_is_lot (hr.mono (by first | decide | omega)) (pa_cons (pv 1) (pa_cons (pv 3) pa_nil))) (pa_cons (pv 3) pa_nil))))) (pa_cons (pe_lst (pa_cons (pe_def D_law_needed (hr.mono (by first | decide | omega)) (pa_cons (pv 0) (pa_cons (pv 2) pa_nil))) (pa_cons (pe_def D_law_held (hr.mono (by first | decide | omega)) (pa_cons (pv 0) (pa_cons (pv 2) pa_nil))) (pa_cons pe_bl (pa_cons (pv 2) pa_nil))))) pa_nil))))) (pss_one (ps_ret pe_bl)) pss_nil) (pss_one (ps_expr (pe_bm PySem.F.plainAttrs_list PySem.F.slot_list_append PySem.F.type_list_append mt_append (pv 5) (pa_cons pe_non pa_nil))))))) (pss_one (ps_ret pe_bl)))), ?_⟩
  rintro ds ⟨m, rows, lot, rfl, ⟨hv, m5, l5⟩, hl⟩
  have ll := row_len8 hl l5
  have ln := neededI_len (m := m) (rows := rows) (lot := lot)
  refine sr_seq (sx_set (en_cb (ea_cons (ev_var rfl) ea_nil) rn_listL).toD) ?_
  refine sr_seq (sx_for (as := List.range 2) (g0 := fun (k : Nat) => D.int (0 + (k : Int))) (δs := fun _ => [some (recD m rows), some (.rcp m rows), some (.lst (dI lot)), some (.lst (dI lot)), none, none]) (ei_rng1 (ea_cons ev_int ea_nil) (by decide) (by decide)) ?_ (fun k a ha => ⟨_, ega_name, StE.x ?_⟩)) (sr_ret ev_bl)
  · exact leD_some (leD_some (leD_some (leD_some (leD_none (leD_none leD_nil)))))
  refine se_new endX_ok (by show 5 < 6; decide) (d := .lst (dI (neededI m rows lot))) (ef_is (ef_call (ds := [.rcp m rows, .lst (dI lot)]) (ea_cons (ev_var rfl) (ea_cons (ev_var rfl) ea_nil)) rfl ⟨m, rows, lot, rfl, hv, by omega, hl⟩) (needed_eq m rows lot)) ?_
  refine snw_guard (et_is (et_not (et_B (ev_is (z := .bl true) (ev_call (ds := [.lst [.lst (dI (neededI m rows lot)), .int (heldI m rows lot), .bl true, .lst (dI lot)], .lst [.lst (dI (neededI m rows lot)), .int (heldI m rows lot), .bl true, .lst (dI lot)]]) (ea_cons (en_lst (ea_cons (ev_var rfl) (ea_cons (ev_is (ev_call (ds := [.rcp m rows, .lst (dI lot)]) (ea_cons (ev_var rfl) (ea_cons (ev_var rfl) ea_nil)) rfl ⟨m, rows, lot, rfl, hv, by omega, hl⟩) f_held_eq) (ea_cons (ev_is (ev_call (ds := [.rcp m rows, .lst (dI lot)]) (ea_cons (ev_var rfl) (ea_cons (ev_var rfl) ea_nil)) rfl ⟨m, rows, _, rfl, hv, plain_row.1, plain_row.2, len_row (by omega)⟩) ?isl) (ea_cons (ev_var rfl) ea_nil)))) (by show 4 ≤ 100000; decide)).toD
      (ea_cons (en_lst (ea_cons (ev_is (ev_call (ds := [recD m rows, .lst (dI lot)]) (ea_cons (ev_var rfl) (ea_cons (ev_var rfl) ea_nil)) rfl ⟨m, rows, lot, rfl, hv, by omega⟩) (lneeded_eq m rows lot)) (ea_cons (ev_is (ev_call (ds := [recD m rows, .lst (dI lot)]) (ea_cons (ev_var rfl) (ea_cons (ev_var rfl) ea_nil)) rfl ⟨m, rows, lot, rfl, hv, by omega⟩) (lheld_eq m rows lot)) (ea_cons ev_bl (ea_cons (ev_var rfl) ea_nil)))) (by show 4 ≤ 100000; decide)).toD ea_nil)) rfl ⟨_, rfl, ?pl⟩) rfl))) rfl) ?_
  case isl =>
    show D.bl (isAscD rows.length (.lst (dI lot))) = .bl true
    rw [isAsc_row hl]
  case pl =>
    refine plain_lst (by show 4 ≤ 100000; decide) fun e he => ?_
    simp only [List.mem_cons, List.mem_nil_iff, or_false] at he
    rcases he with rfl | rfl | rfl | rfl
    · exact plain_dI (by omega)
    · exact plain_int
    · exact plain_bl
    · exact plain_dI (by omega)
  refine sn_wild (W := Wild 100 (.lst (dI (neededI m rows lot)))) (fun old h => Wild.of old (bnd_row (by omega)) h) ?_
  exact sw_last (sw_app (by decide) ev_non (sw_fin endX_ok (se_x (sx_weak sx_next (leD_some (leD_some (leD_some (leD_some (leD_none (leD_none leD_nil))))))))))
theorem sc_law_two_right : FnScope ["_law_recipe_here", "_law_made_here", "_law_one", "_law_other", "_law_handed", "_law_due", "_law_told"] ["_law_recipe_here", "_law_made_here", "_law_one", "_law_other"] (defScope (top 43)) := ⟨rfl, rfl, rfl, by decide +kernel, rfl, by decide +kernel, by decide +kernel⟩
-- slots: _law_recipe_here=0 _law_made_here=1 _law_one=2 _law_other=3 _law_handed=4 _law_due=5 _law_told=6
theorem ok_law_two_right (B : BFree mg) (D_gain : DefOk P w K mg base "gain" 7 ["recipe", "one", "other"] (sp_gain K C)) (D_law_exact : DefOk P w K mg base "_law_exact" 5 ["_law_mine", "_law_theirs"] (sp_exact K C 5)) (D_law_held : DefOk P w K mg base "_law_held" 2 ["_law_recipe_here", "_law_lot"] (sp_lheld K C)) (D_law_union : DefOk P w K mg base "_law_union" 1 ["_law_one", "_law_other"] (sp_union K C)) (D_law_common : DefOk P w K mg base "_law_common" 1 ["_law_one", "_law_other"] (sp_common K C))
    (F : DefAt K mg "_law_two_right" ["_law_recipe_here", "_law_made_here", "_law_one", "_law_other"] (top 43) f fd) : DefOk P w K mg base "_law_two_right" 8 ["_law_recipe_here", "_law_made_here", "_law_one", "_law_other"] (sp_two_right K C) := by
  refine okD F sc_law_two_right fun cdv A outer s H E hr => ⟨_, (pss_cons (ps_set (i := 4) sc_law_two_right.nd rfl (.inl rfl) (pe_lst (pa_cons (c_list (K := K) B (pa_cons (pv 2) pa_nil)) (pa_cons (c_list (K := K) B (pa_cons (pv 3) pa_nil)) pa_nil)))) (pss_cons (ps_set (i := 5) sc_law_two_right.nd rfl (.inl rfl) (pe_op op_sub (pe_op op_sub (pe_op op_add (pe_def D_law_held (hr.mono (by first | decide | omega)) (pa_cons (pv 0) (pa_cons (pv 2) pa_nil))) (pe_def D_law_held (hr.mono (by first | decide | omega)) (pa_cons (pv 0) (pa_cons (pv 3) pa_nil)))) (pe_def D_law_held (hr.mono (by first | decide | omega)) (pa_cons (pv 0) (pa_cons (pe_def D_law_union (hr.mono (by first | decide | omega)) (pa_cons (pv 2) (pa_cons (pv 3) pa_nil))) pa_nil)))) (pe_def D_law_held (hr.mono (by first | decide | omega)) (pa_cons (pv 0) (pa_cons (pe_def D_law_common (hr.mono (by first | decide | omega)) (pa_cons (pv 2) (pa_cons (pv 3) pa_nil))) pa_nil))))) (pss_cons (ps_set (i := 6) sc_law_two_right.nd rfl (.inl rfl) (pe_lst (pa_cons (pe_def D_gain (hr.mono (by first | decide | omega)) (pa_cons (pv 1) (pa_cons (pe_ix (x_list (K := K)) (pv 4) pe_int (fun _ _ => rfl)) (pa_cons (pe_ix (x_list (K := K)) (pv 4) pe_int (fun _ _ => rfl)) pa_nil)))) (pa_cons (pe_def D_gain (hr.mono (by first | decide | omega)) (pa_cons (pv 1) (pa_cons (pe_ix (x_list (K := K)) (pv 4) pe_int (fun _ _ => rfl)) (pa_cons (pe_ix (x_list (K := K)) (pv 4) pe_int (fun _ _ => rfl)) pa_nil)))) pa_nil)))) (pss_one (ps_ret (pe_and (pe_cmpR op_ge (pv 5) pe_int (nomark _)) (pe_one (pe_def D_law_exact (hr.mono (by first | decide | omega)) (pa_cons (pe_lst (pa_cons (pv 6) (pa_cons (pv 4) pa_nil))) (pa_cons (pe_lst (pa_cons (pe_lst (pa_cons (pv 5) (pa_cons (pv 5) pa_nil))) (pa_cons (pe_lst (pa_cons (pv 2) (pa_cons (pv 3) pa_nil))) pa_nil))) pa_nil)))))))))), ?_⟩
  rintro ds ⟨m, rows, a, b, rfl, ⟨hv, m5, l5⟩, ha, hb⟩
  have la := row_len8 ha l5
  have lb := row_len8 hb l5
  have ga : ∀ x ∈ a, 0 ≤ x ∧ x < 64 := fun x hx => by have := ha.2 x hx; omega
  have gb : ∀ x ∈ b, 0 ≤ x ∧ x < 64 := fun x hx => by have := hb.2 x hx; omega
  refine sr_seq (sx_set (d := .lst [.lst (dI a), .lst (dI b)]) (en_lst (ea_cons (en_cb (ea_cons (ev_var rfl) ea_nil) rn_listL).toD (ea_cons (en_cb (ea_cons (ev_var rfl) ea_nil) rn_listL).toD ea_nil)) (by show 2 ≤ 100000; decide)).toD) ?_
  have hl : ∀ {δ : Dl} {te : TE} {lot : List Int} {E : XK}, δ[0]? = some (some (recD m rows)) → EvD K C te δ (.lst (dI lot)) → EvD K C (tCall (sp_lheld K C) [] E (tCons (tVar 0) (tCons te tNil))) δ (.int (heldI m rows lot)) := fun h0 h => ev_is (ev_call (ds := [recD m rows, .lst (dI _)]) (ea_cons (ev_var h0) (ea_cons h ea_nil)) rfl ⟨m, rows, _, rfl, hv, by omega⟩) (lheld_eq m rows _)
  refine sr_seq (sx_set (d := .int (gainI m rows a b)) (ev_op (ev_op (ev_op (hl rfl (ev_var rfl)) (hl rfl (ev_var rfl)) r2_Ii) (hl rfl (EvF.toD (ef_is (ef_call (ds := [.lst (dI a), .lst (dI b)]) (ea_cons (ev_var rfl) (ea_cons (ev_var rfl) ea_nil)) rfl ⟨a, b, rfl, by omega, ga, gb⟩) (union_eq a b)))) r2_Ii) (hl rfl (ev_is (ev_call (ds := [.lst (dI a), .lst (dI b)]) (ea_cons (ev_var rfl) (ea_cons (ev_var rfl) ea_nil)) rfl ⟨a, b, rfl, by omega⟩) (common_eq a b))) r2_Ii)) ?_
  have hd : ∀ {δ : Dl} {i : Int} {c : List Int}, δ[4]? = some (some (.lst [.lst (dI a), .lst (dI b)])) → atI [D.lst (dI a), .lst (dI b)] i = some (.lst (dI c)) → EvD K C (tOp (rIxL K) (tVar 4) (tC (.int i))) δ (.lst (dI c)) := fun h e => ev_op (ev_var h) ev_int (r2_ixL e)
  refine sr_seq (sx_set (d := .lst [.int (gainI m rows a b), .int (gainI m rows a b)]) (en_lst (ea_cons (ev_is (ev_call (ds := [.rcp m rows, .lst (dI a), .lst (dI b)]) (ea_cons (ev_var rfl) (ea_cons (hd rfl rfl) (ea_cons (hd rfl rfl) ea_nil))) rfl ⟨m, rows, a, b, rfl, hv, by omega, l5, ha, hb⟩) (gain_eq m rows a b))
    (ea_cons (ev_is (ev_call (ds := [.rcp m rows, .lst (dI b), .lst (dI a)]) (ea_cons (ev_var rfl) (ea_cons (hd rfl rfl) (ea_cons (hd rfl rfl) ea_nil))) rfl ⟨m, rows, b, a, rfl, hv, by omega, l5, hb, ha⟩) ((gain_eq m rows b a).trans (by rw [gain_comm ha.1 hb.1]))) ea_nil)) (by show 2 ≤ 100000; decide)).toD) ?_
  have hp : 0 ≤ gainI m rows a b := gain_pos ha.1 ga hb.1 gb
  refine sr_ret (ev_is (z := .bl true) (ev_andV (a := true) (b := true) (ev_is (z := .bl true) (ev_op (ev_var rfl) ev_int r2_Ib) (by rw [decide_eq_true (by omega)])) fun _ => ev_is (z := .bl true) (ev_call (ds := [.lst [.lst [.int (gainI m rows a b), .int (gainI m rows a b)], .lst [.lst (dI a), .lst (dI b)]], .lst [.lst [.int (gainI m rows a b), .int (gainI m rows a b)], .lst [.lst (dI a), .lst (dI b)]]]) (ea_cons (en_lst (ea_cons (ev_var rfl) (ea_cons (ev_var rfl) ea_nil)) (by show 2 ≤ 100000; decide)).toD (ea_cons (en_lst (ea_cons (en_lst (ea_cons (ev_var rfl) (ea_cons (ev_var rfl) ea_nil)) (by show 2 ≤ 100000; decide)).toD (ea_cons (en_lst (ea_cons (ev_var rfl) (ea_cons (ev_var rfl) ea_nil)) (by show 2 ≤ 100000; decide)).toD ea_nil)) (by show 2 ≤ 100000; decide)).toD ea_nil)) rfl ⟨_, rfl, ?_⟩) rfl) rfl)
  refine plain_lst (by show 2 ≤ 100000; decide) fun e he => ?_
  simp only [List.mem_cons, List.mem_nil_iff, or_false] at he
  rcases he with rfl | rfl
  · refine plain_lst (by show 2 ≤ 100000; decide) fun e he => ?_
    simp only [List.mem_cons, List.mem_nil_iff, or_false, or_self] at he
    subst he
    exact plain_int
  · refine plain_lst (by show 2 ≤ 100000; decide) fun e he => ?_
    simp only [List.mem_cons, List.mem_nil_iff, or_false] at he
    rcases he with rfl | rfl
    · exact plain_dI (by omega)
    · exact plain_dI (by omega)
end
end Zm


set_option Elab.async false
set_option linter.all false
set_option maxRecDepth 100000
set_option maxHeartbeats 4000000
set_option autoImplicit false
namespace Zm
open PySem PySem.Spec L2
def odds1 : List D := [.non, .int 0, .bl true, .str ("" : Str), .str ("0" : Str), .dic [], .tup [], .tup [.int 0], .lst [.non], .lst [.str ("0" : Str)], .lst [.bl true], .lst [.bl false], .lst [.int (-1)]]
def odds2 (n : Int) : List D := [.lst [.int n], .lst [.int 0, .int 0], .lst [.int 0, .int n], .lst [.lst [.int 0]], .lst [.tup [.int 0]], .lst [.int 0, .non], .dic [(Sum.inl 0, .int 0)], .lst (dI (rgI 0 n) ++ [.int 0])]
def odds3 (n : Int) : List D := if 1 < n then [.lst [.int 1, .int 0], .lst (dI (rgI 0 n)).reverse] else []
def oddsD (n : Int) : List D := odds1 ++ odds2 n ++ odds3 n
abbrev f_odd (ds : List D) : D := match ds with
  | [.lst [_, .lst rs]] => .lst (oddsD rs.length)
  | _ => .non
abbrev sp_odd (K : PySem.W.Frag) (C : Addr) : Sp := SpD K C (fun ds => ∃ m rows, ds = [recD m rows] ∧ SmallR m rows) f_odd 1
theorem en_disp1 {K : PySem.W.Frag} {C : Addr} {δ : Dl} {i j : Int} : EvN K C (tDisp [(tC (.int i), tC (.int j))]) δ (.dic [(Sum.inl i, .int j)]) := fun O σ H n Q q p hp => by
  refine ⟨upd_same, [(Sum.inl i, V.int j)], rfl, by show 1 ≤ 15; decide, q p _ (fun b u e => ?_) hp ?_⟩
  · rw [upd_ne (ne_of_none e hp), upd_ne (ne_of_none e hp)]
    exact e
  · refine dat_dic_iff.mpr ⟨p, [(Sum.inl i, V.int j)], rfl, ?_, datK_cons.mpr ⟨_, _, rfl, dat_int.mpr rfl, datK_nil.mpr rfl⟩⟩
    unfold hid
    rw [if_neg (fun z => n.own p z hp)]
    exact upd_same
section
variable {P : Program} {w : World} {K : PySem.W.Frag} {mg : Str → Option Value} {base : Heap} {f C : Addr} {fd : FuncData}
theorem sc_law_odd_lots : FnScope ["_law_recipe_here", "_law_many", "_law_found"] ["_law_recipe_here"] (defScope (top 37)) := ⟨rfl, rfl, rfl, by decide +kernel, rfl, by decide +kernel, by decide +kernel⟩
-- slots: _law_recipe_here=0 _law_many=1 _law_found=2
theorem ok_law_odd_lots (B : BFree mg) (F : DefAt K mg "_law_odd_lots" ["_law_recipe_here"] (top 37) f fd) : DefOk P w K mg base "_law_odd_lots" 1 ["_law_recipe_here"] (sp_odd K C) := by
  refine okD F sc_law_odd_lots fun cdv A outer s H E hr => ⟨_, (pss_cons (ps_set (i := 1) sc_law_odd_lots.nd rfl (.inl rfl) (c_len (K := K) B (pa_cons (pe_ix (x_list (K := K)) (pv 0) pe_int (fun _ _ => rfl)) pa_nil))) (pss_cons (ps_set (i := 2) sc_law_odd_lots.nd rfl (.inl rfl) (pe_lst (pa_cons pe_non (pa_cons pe_int (pa_cons pe_bl (pa_cons pe_str (pa_cons pe_str (pa_cons pe_dnewK (pa_cons (pe_tup pa_nil) (pa_cons (pe_tup (pa_cons pe_int pa_nil)) (pa_cons (pe_lst (pa_cons pe_non pa_nil)) (pa_cons (pe_lst (pa_cons pe_str pa_nil)) (pa_cons (pe_lst (pa_cons pe_bl pa_nil)) (pa_cons (pe_lst (pa_cons pe_bl pa_nil)) (pa_cons (pe_lst (pa_cons (pe_un un_neg pe_int) pa_nil)) pa_nil))))))))))))))) (pss_cons (ps_set (i := 2) sc_law_odd_lots.nd rfl (.inl rfl) (pe_op op_cat (pv 2) (pe_lst (pa_cons (pe_lst (pa_cons (pv 1) pa_nil)) (pa_cons (pe_lst (pa_cons pe_int (pa_cons pe_int pa_nil))) (pa_cons (pe_lst (pa_cons pe_int (pa_cons (pv 1) pa_nil))) (pa_cons (pe_lst (pa_cons (pe_lst (pa_cons pe_int pa_nil)) pa_nil)) (pa_cons (pe_lst (pa_cons (pe_tup (pa_cons pe_int pa_nil)) pa_nil)) (pa_cons (pe_lst (pa_cons pe_int (pa_cons pe_non pa_nil))) (pa_cons (pe_disp (pps_cons pe_int pe_int pps_nil) (by rfl) (by rfl) (by simp) (by decide)) (pa_cons (pe_op op_cat (c_listRg1 B (pv 1)) (pe_lst (pa_cons pe_int pa_nil))) pa_nil))))))))))) (pss_one (ps_ret (pe_op op_cat (pv 2) (pe_ifExp (pt_cmpR op_gt (pv 1) pe_int (nomark _)) (pe_lst (pa_cons (pe_lst (pa_cons pe_int (pa_cons pe_int pa_nil))) (pa_cons (e_revL (K := K) (c_listRg1 B (pv 1))) pa_nil))) (pe_lst pa_nil)))))))), ?_⟩
  rintro ds ⟨m, rows, rfl, hv, m5, l5⟩
  have e0 : f_odd [recD m rows] = .lst (oddsD rows.length) := by
    show D.lst (oddsD ((rows.map fun r => D.lst (dI r)).length : Nat)) = _
    rw [List.length_map]
  rw [e0]
  have l1 : ∀ {d : D}, ([d] : List D).length ≤ 100000 := fun {d} => by show 1 ≤ 100000; decide
  have l2 : ∀ {d e : D}, ([d, e] : List D).length ≤ 100000 := fun {d e} => by show 2 ≤ 100000; decide
  have one : ∀ {δ : Dl} {te : TE} {d : D}, EvD K C te δ d → EvD K C (tLst (tCons te tNil)) δ (.lst [d]) := fun h => (en_lst (ea_cons h ea_nil) l1).toD
  have two : ∀ {δ : Dl} {te tf : TE} {d e : D}, EvD K C te δ d → EvD K C tf δ e → EvD K C (tLst (tCons te (tCons tf tNil))) δ (.lst [d, e]) := fun h g => (en_lst (ea_cons h (ea_cons g ea_nil)) l2).toD
  have rg : (dI (rgI 0 (rows.length : Int))).length = rows.length := by
    unfold dI
    rw [List.length_map, rgI_len]
    omega
  refine sr_seq (sx_set (d := .int rows.length) (ev_is (ev_cb (ea_cons (rec_rows rfl) ea_nil) rc_lenL) (by rw [List.length_map]))) ?_
  refine sr_seq (sx_set (d := .lst odds1) (en_lst (ea_cons ev_non (ea_cons ev_int (ea_cons ev_bl (ea_cons ev_str (ea_cons ev_str (ea_cons (EvF.toD ef_dic0) (ea_cons (en_tup ea_nil (by decide)).toD (ea_cons (en_tup (ea_cons ev_int ea_nil) l1).toD (ea_cons (one ev_non) (ea_cons (one ev_str) (ea_cons (one ev_bl) (ea_cons (one ev_bl) (ea_cons (one (ev_un ev_int (r1_U (g := fun i => -i)))) ea_nil))))))))))))) (by decide)).toD) ?_
  refine sr_seq (sx_set (d := .lst (odds1 ++ odds2 rows.length)) (en_op (ev_var rfl) (en_lst (ea_cons (one (ev_var rfl)) (ea_cons (two ev_int ev_int) (ea_cons (two ev_int (ev_var rfl)) (ea_cons (one (one ev_int)) (ea_cons (one (en_tup (ea_cons ev_int ea_nil) l1).toD) (ea_cons (two ev_int ev_non) (ea_cons en_disp1.toD (ea_cons (en_op (en_listRg1 (j := (rows.length : Int)) (ev_var rfl) (RgOk.of_le (by omega) (by omega) (by omega) (by omega))).toD (one ev_int) (r2_cat (by rw [rg]; show _ + 1 ≤ _; omega))).toD ea_nil)))))))) (by show 8 ≤ 100000; decide)).toD (r2_cat (by show 13 + 8 ≤ 100000; decide))).toD) ?_
  refine sr_ret (en_op (ev_var rfl) (ev_if (b := decide ((1 : Int) < rows.length)) (z := .lst (odds3 rows.length)) (et_test (ev_op (ev_var rfl) ev_int r2_Ib)) (fun h => ev_is (d := .lst [.lst [.int 1, .int 0], .lst (dI (rgI 0 rows.length)).reverse]) (two (two ev_int ev_int) (en_revL (en_listRg1 (j := (rows.length : Int)) (ev_var rfl) (RgOk.of_le (by omega) (by omega) (by omega) (by omega))).toD).toD) ?_) (fun h => ev_is (d := .lst []) (en_lst ea_nil (by decide)).toD ?_)) (r2_cat ?_)).toD
  · unfold odds3
    rw [if_pos (of_decide_eq_true h)]
  · unfold odds3
    rw [if_neg (of_decide_eq_false h)]
  · unfold odds3
    split
    · show 21 + 2 ≤ 100000
      decide
    · show 21 + 0 ≤ 100000
      decide
end
end Zm


set_option Elab.async false
set_option linter.all false
set_option maxRecDepth 100000
set_option maxHeartbeats 4000000
set_option autoImplicit false
namespace Zm
open PySem PySem.Spec L2
def spPurses (K : PySem.W.Frag) : Sp := fun vs H Q _ => ∃ (a : Addr) (ns : List Int), vs = [.ref a, .int 1] ∧ SqL K H a (ns.map V.int) ∧
  ∀ l p H', Same H H' → H l = none → H p = none → l ≠ p → PurseIs 0 H' p → H' l = some (.lst [.ref p]) → Q (.ref l) H'
def spLaw (K : PySem.W.Frag) : Sp := fun vs H Q _ => ∃ (a : Addr) (ns : List Int), vs = [.ref a] ∧ SqL K H a (ns.map V.int) ∧ ∀ H', Q (.bl true) H'
section
variable {P : Program} {w : World} {K : PySem.W.Frag} {mg : Str → Option Value} {base : Heap} {f C : Addr} {fd : FuncData}
theorem sc_law_purses : FnScope ["_law_script", "_law_few", "_law_at"] ["_law_script", "_law_few"] (defScope (top 26)) := ⟨rfl, rfl, rfl, by decide +kernel, rfl, by decide +kernel, by decide +kernel⟩
theorem ok_law_purses (B : BFree mg) (D_law_purse : DefOk P w K mg base "_law_purse" 1 ["_law_script", "_law_at"] (spPurse K)) (F : DefAt K mg "_law_purses" ["_law_script", "_law_few"] (top 26) f fd) : DefOk P w K mg base "_law_purses" 2 ["_law_script", "_law_few"] (spPurses K) := by
  refine F.ok sc_law_purses (fun vs H Q E h => ?_) (fun cdv A outer s H vs Q E hr h => ?_)
  · obtain ⟨a, ns, rfl, _⟩ := h
    rfl
  · obtain ⟨a, ns, rfl, hS, hQ⟩ := h
    refine ⟨_, (pss_one (ps_ret (pe_lc (own := [("_law_at", 2)]) rfl sc_law_purses.nd (i_rng1 B (pa_cons (c_max2 (K := K) B (pa_cons pe_int (pa_cons (c_min2 (K := K) B (pa_cons (pv 1) (pa_cons (c_len (K := K) B (pa_cons (pv 0) pa_nil)) pa_nil))) pa_nil))) pa_nil)) (blkOk_by (own := [("_law_at", 2)]) (N := ["_law_script", "_law_few", "_law_at"]) (sc := (defScope (top 26))) (by decide +kernel)) (fun _ _ _ _ _ => pg_name (i := 2) sc_law_purses.nd rfl (.inl rfl)) (fun _ _ _ _ _ => pts_nil) (fun _ _ _ _ _ => (pe_def D_law_purse (hr.mono (by first | decide | omega)) (pa_cons (pv 0) (pa_cons (pv 2) pa_nil))))))), ?_⟩
    refine ⟨_, rfl, _, rfl, a, ns.map V.int, rfl, .inl hS, _, _, rfl, _, _, rfl, ?_⟩
    have e : (if (if ((ns.map V.int).length : Int) < 1 then ((ns.map V.int).length : Int) else 1) > 1 then (if ((ns.map V.int).length : Int) < 1 then ((ns.map V.int).length : Int) else 1) else 1) = (1 : Int) := by
      split <;> split <;> omega
    refine ⟨1, by rw [e], by decide, by decide, fun D hD => ?_⟩
    refine lc_range (lo := 0) (n := 1) (Qd := fun H' => Q (.ref D) H') (fun i H' => (i = 0 ∧ H' = upd H D (.lst [])) ∨ (i = 1 ∧ ∃ p, Same H H' ∧ H p = none ∧ D ≠ p ∧ PurseIs 0 H' p ∧ H' D = some (.lst [.ref p]))) (.inl ⟨rfl, rfl⟩) ?_ ?_
    · rintro i H' hi (⟨rfl, rfl⟩ | ⟨rfl, _⟩)
      · refine ⟨rfl, ?_⟩
        unfold tYes
        refine iteT ⟨_, rfl, _, rfl, a, ns, rfl, same_l (same_new hD) hS, fun p H2 s hp pu => ⟨[], s _ _ upd_same, by decide, .inr ⟨rfl, p, ?_, ?_, ?_, ?_, ?_⟩⟩⟩
        · exact same_mut ((same_new hD).trans s) hD
        · exact back_none (same_new hD) hp
        · intro z
          subst z
          rw [upd_same] at hp
          cases hp
        · refine pu.upd fun z => ?_
          subst z
          rw [upd_same] at hp
          cases hp
        · exact upd_same
      · omega
    · rintro H' (⟨h, _⟩ | ⟨_, p, s, hp, ne, pu, hl⟩)
      · omega
      · exact hQ D p H' s hD hp ne pu hl
theorem DefAt.okFn {k : Nat} {x : Str} {N ps : List Str} {st : Stmt} {sp : Sp} (F : DefAt K mg x ps st f fd) (S : FnScope N ps (defScope st)) (len : ∀ vs H Q E, sp vs H Q E → vs.length = ps.length)
    (hbody : ∀ (cdv : Value) (A : Around) (outer : List Env) (s : Shared) (H : Hp) (vs : List V) (Q : VK) (E : XK), Room k (A.deeper (PyProof.Rows.envOfC x (defScope st) s.heap.objs.size f cdv)) → sp vs H Q E →
      ∃ t, PSs (cxOf CX0 P w K mg base N x (defScope st) f cdv A outer s H E).nox (defBody st) t ∧ t { nx := fun _ H' => Q .non H', rt := Q } (L2.start N vs) H) : FnOk P w K mg base CX0 (k + 1) f fd ps sp := F.fn.ok S len fun cdv A outer s H vs Q E hr h => by
  obtain ⟨t, h1, h2⟩ := hbody cdv A outer s H vs Q E hr h
  exact ⟨t, PSs.nox h1, h2⟩
abbrev none12 : Dl := [none, none, none, none, none, none, none, none, none, none, none, none]
theorem short_len {d : D} (h : shortT d) : lenT d := by
  cases d with
  | lst ds =>
    have h' : ds.length < 60 := h
    show ds.length ≤ 100000
    omega
  | _ => trivial
def OddOk (d : D) : Prop := plainT d ∧ itemsT d ∧ shortT d ∧ Plain 4 d
theorem odd_row {ns : List Int} (h : ns.length < 60) : OddOk (.lst (dI ns)) := ⟨plain_row.1, plain_row.2, by
  show (dI ns).length < 60
  unfold dI
  rw [List.length_map]
  exact h, plain_dI (by omega)⟩
theorem odd_ok {n : Nat} (hn : n ≤ 8) : ∀ d ∈ oddsD n, OddOk d := fun d hd => by
  have rg : (rgI 0 (n : Int)).length = n := by
    rw [rgI_len]
    omega
  have st : shp (.str ("" : Str)) = true ∧ shp (.str ("0" : Str)) = true := by decide +kernel
  have a1 : ∀ {e : D}, plainT e → Plain 3 e → OddOk (.lst [e]) := fun h1 h2 => ⟨⟨_, rfl⟩, fun d hd => by rw [List.mem_singleton.mp hd]; exact h1, by show 1 < 60; decide, plain_lst (by show 1 ≤ 100000; decide) fun d hd => by rw [List.mem_singleton.mp hd]; exact h2⟩
  have a2 : ∀ {e f : D}, plainT e → Plain 3 e → plainT f → Plain 3 f → OddOk (.lst [e, f]) := fun h1 h2 h3 h4 => by
    refine ⟨⟨_, rfl⟩, fun d hd => ?_, by show 2 < 60; decide, plain_lst (by show 2 ≤ 100000; decide) fun d hd => ?_⟩
    · rcases List.mem_cons.mp hd with e | hd
      · rw [e]
        exact h1
      · rw [List.mem_singleton.mp hd]
        exact h3
    · rcases List.mem_cons.mp hd with e | hd
      · rw [e]
        exact h2
      · rw [List.mem_singleton.mp hd]
        exact h4
  have pI : ∀ {i : Int}, plainT (.int i) ∧ Plain 3 (.int i) := fun {i} => ⟨⟨_, rfl⟩, plain_int⟩
  have pN : plainT .non ∧ Plain 3 .non := ⟨⟨_, rfl⟩, by unfold Plain; trivial⟩
  have pT : Plain 3 (.tup [.int 0]) := by
    unfold Plain
    exact ⟨by decide, fun e he => by rw [List.mem_singleton.mp he]; exact plain_int⟩
  unfold oddsD at hd
  rcases List.mem_append.mp hd with hd | hd
  · rcases List.mem_append.mp hd with hd | hd
    · unfold odds1 at hd
      simp only [List.mem_cons, List.mem_nil_iff, or_false] at hd
      rcases hd with rfl | rfl | rfl | rfl | rfl | rfl | rfl | rfl | rfl | rfl | rfl | rfl | rfl
      · exact ⟨⟨_, rfl⟩, trivial, trivial, by unfold Plain; trivial⟩
      · exact ⟨⟨_, rfl⟩, trivial, trivial, by unfold Plain; trivial⟩
      · exact ⟨⟨_, rfl⟩, trivial, trivial, by unfold Plain; trivial⟩
      · exact ⟨⟨_, rfl⟩, trivial, trivial, by unfold Plain; exact st.1⟩
      · exact ⟨⟨_, rfl⟩, trivial, trivial, by unfold Plain; exact st.2⟩
      · exact ⟨⟨_, rfl⟩, trivial, trivial, by unfold Plain; exact ⟨by decide, .inl rfl⟩⟩
      · exact ⟨⟨_, rfl⟩, trivial, trivial, by unfold Plain; exact ⟨by decide, fun e he => by cases he⟩⟩
      · exact ⟨⟨_, rfl⟩, trivial, trivial, by unfold Plain; exact ⟨by decide, fun e he => by rw [List.mem_singleton.mp he]; exact plain_int⟩⟩
      · exact a1 pN.1 pN.2
      · exact a1 ⟨_, rfl⟩ (by unfold Plain; exact st.2)
      · exact a1 ⟨_, rfl⟩ plain_bl
      · exact a1 ⟨_, rfl⟩ plain_bl
      · exact a1 pI.1 pI.2
    · unfold odds2 at hd
      simp only [List.mem_cons, List.mem_nil_iff, or_false] at hd
      rcases hd with rfl | rfl | rfl | rfl | rfl | rfl | rfl | rfl
      · exact a1 pI.1 pI.2
      · exact a2 pI.1 pI.2 pI.1 pI.2
      · exact a2 pI.1 pI.2 pI.1 pI.2
      · exact a1 ⟨_, rfl⟩ (plain_lst (by show 1 ≤ 100000; decide) fun d hd => by rw [List.mem_singleton.mp hd]; exact plain_int)
      · exact a1 ⟨_, rfl⟩ pT
      · exact a2 pI.1 pI.2 pN.1 pN.2
      · exact ⟨⟨_, rfl⟩, trivial, trivial, by unfold Plain; exact ⟨by decide, .inr ⟨0, 0, rfl⟩⟩⟩
      · have e : dI (rgI 0 (n : Int)) ++ [.int 0] = dI (rgI 0 (n : Int) ++ [0]) := by
          unfold dI
          rw [List.map_append]
          rfl
        rw [e]
        exact odd_row (by rw [List.length_append, rg]; show n + 1 < 60; omega)
  · unfold odds3 at hd
    split at hd
    · simp only [List.mem_cons, List.mem_nil_iff, or_false] at hd
      rcases hd with rfl | rfl
      · exact a2 pI.1 pI.2 pI.1 pI.2
      · have e : (dI (rgI 0 (n : Int))).reverse = dI (rgI 0 (n : Int)).reverse := by
          unfold dI
          rw [List.map_reverse]
        rw [e]
        exact odd_row (by rw [List.length_reverse, rg]; omega)
    · cases hd
theorem cut_map {α β : Type} (f : α → β) (xs : List α) (lo hi : Option Int) : cutD (xs.map f) lo hi = (cutD xs lo hi).map f := by
  unfold cutD
  rw [List.length_map, List.map_take, List.map_drop]
theorem cut_mem {α : Type} {xs : List α} {lo hi : Option Int} {x : α} (h : x ∈ cutD xs lo hi) : x ∈ xs := List.mem_of_mem_drop (List.mem_of_mem_take h)
theorem cut_len {α : Type} (xs : List α) (lo hi : Option Int) : (cutD xs lo hi).length ≤ xs.length := by
  unfold cutD
  rw [List.length_take, List.length_drop]
  omega
theorem rows_of {R : List Int → Prop} : ∀ {ds : List D}, (∀ e ∈ ds, ∃ lot, e = .lst (dI lot) ∧ R lot) → ∃ lots : List (List Int), ds = lots.map (fun r => D.lst (dI r)) ∧ lots.length = ds.length ∧ ∀ l ∈ lots, R l
  | [], _ => ⟨[], rfl, rfl, fun l h => by cases h⟩
  | d :: ds, h => by
    obtain ⟨l, rfl, hl⟩ := h d (List.mem_cons_self ..)
    obtain ⟨ls, rfl, e, g⟩ := rows_of (ds := ds) fun e he => h e (List.mem_cons_of_mem _ he)
    exact ⟨l :: ls, rfl, by rw [List.length_cons, List.length_cons, e], fun x hx => (List.mem_cons.mp hx).elim (fun z => by rw [z]; exact hl) (g x)⟩
theorem leN {δ' δ : Dl} {x : Option D} (h : LeD δ' δ) : LeD (none :: δ') (x :: δ) := leD_none h
theorem leS {δ' δ : Dl} {d : D} (h : LeD δ' δ) : LeD (some d :: δ') (some d :: δ) := leD_some h
theorem le0 : LeD [] [] := leD_nil
theorem sj_run {K : PySem.W.Frag} {C : Addr} {j c n : Nat} {ts : TS} {δ δ' : Dl} {O : Addr → Bool} {σ : L2.St} {H : Hp} {p : Addr} {Z : Ends} (h : StJ K C j ts δ δ' c) (x : AtJ K C j O H σ δ p n) (hn : n + c ≤ 1000000)
    (q : ∀ σ' H', But p H H' → AtJ K C j O H' σ' δ' p (n + c) → Z.nx σ' H') : ts Z σ H := h O σ H p n x hn Z q
theorem sc_law : FnScope ["_law_script", "_law_purse_here", "_law_lot", "_law_made_here", "_law_every", "_law_at", "_law_some", "_law_turn", "_law_odd", "_law_recipe_here", "_law_shown", "_law_late"] ["_law_script"] (defScope (top 44)) := ⟨rfl, rfl, rfl, by decide +kernel, rfl, by decide +kernel, by decide +kernel⟩
-- slots: _law_script=0 _law_purse_here=1 _law_lot=2 _law_made_here=3 _law_every=4 _law_at=5 _law_some=6 _law_turn=7 _law_odd=8 _law_recipe_here=9 _law_shown=10 _law_late=11
theorem ok_law (B : BFree mg) (D_law_purses : DefOk P w K mg base "_law_purses" 2 ["_law_script", "_law_few"] (spPurses K)) (D_law_recipe : DefOk P w K mg base "_law_recipe" 4 ["_law_purse_here", "_law_most_new", "_law_most_old"] (sp_recipe K C)) (D_law_great : DefOk P w K mg base "_law_great" 5 ["_law_purse_here"] (sp_great K C)) (D_law_made : DefOk P w K mg base "_law_made" 7 ["_law_recipe_here"] (sp_made K C)) (D_law_lots : DefOk P w K mg base "_law_lots" 1 ["_law_many"] (sp_lots K C)) (D_law_drawn_lot : DefOk P w K mg base "_law_drawn_lot" 3 ["_law_purse_here", "_law_recipe_here"] (sp_drawn_lot K C)) (D_law_one_of : DefOk P w K mg base "_law_one_of" 3 ["_law_purse_here", "_law_some"] (sp_one K C))
    (D_law_lot_right : DefOk P w K mg base "_law_lot_right" 7 ["_law_recipe_here", "_law_made_here", "_law_lot"] (sp_lot_right K C)) (D_law_two_right : DefOk P w K mg base "_law_two_right" 8 ["_law_recipe_here", "_law_made_here", "_law_one", "_law_other"] (sp_two_right K C)) (D_law_odd_lots : DefOk P w K mg base "_law_odd_lots" 1 ["_law_recipe_here"] (sp_odd K C)) (D_law_same : DefOk P w K mg base "_law_same" 4 ["_law_thing"] (sp_same K C 4)) (D_law_exact : DefOk P w K mg base "_law_exact" 5 ["_law_mine", "_law_theirs"] (sp_exact K C 5))
    (D_is_lot : DefOk P w K mg base "is_lot" 4 ["recipe", "value"] (sp_is_lot K C)) (D_law_is_lot : DefOk P w K mg base "_law_is_lot" 1 ["_law_recipe_here", "_law_value"] (sp_lis_lot K C)) (F : DefAt K mg "law" ["_law_script"] (top 44) f fd) : FnOk P w K mg base CX0 9 f fd ["_law_script"] (spLaw K) := by
  refine DefAt.okFn F sc_law (fun vs H Q E h => ?_) (fun cdv A outer s H vs Q E hr h => ?_)
  · obtain ⟨a, ns, rfl, _⟩ := h
    rfl
  · obtain ⟨a, ns, rfl, hS, hQ⟩ := h
    refine ⟨_, (pss_cons (ps_for PassesOwn.never rfl (i_list (K := K) (pe_def D_law_purses (hr.mono (by first | decide | omega)) (pa_cons (pv 0) (pa_cons pe_int pa_nil)))) (pg_name (i := 1) sc_law.nd rfl (.inr rfl)) (pss_cons (ps_set (i := 2) sc_law.nd rfl (.inr rfl) (pe_lst (pa_cons (pe_def D_law_recipe (hr.mono (by first | decide | omega)) (pa_cons (pv 1) (pa_cons pe_int (pa_cons pe_int pa_nil)))) (pa_cons (pe_def D_law_great (hr.mono (by first | decide | omega)) (pa_cons (pv 1) pa_nil)) pa_nil)))) (pss_cons (ps_set (i := 3) sc_law.nd rfl (.inr rfl) (pe_lc (own := [("_law_recipe_here", 9)]) rfl sc_law.nd (i_list (K := K) (pv 2)) (blkOk_by (own := [("_law_recipe_here", 9)]) (N := ["_law_script", "_law_purse_here", "_law_lot", "_law_made_here", "_law_every", "_law_at", "_law_some", "_law_turn", "_law_odd", "_law_recipe_here", "_law_shown", "_law_late"]) (sc := (defScope (top 44))) (by decide +kernel)) (fun _ _ _ _ _ => pg_name (i := 9) sc_law.nd rfl (.inl rfl)) (fun _ _ _ _ _ => pts_nil) (fun _ _ _ _ _ => (pe_def D_law_made (hr.mono (by first | decide | omega)) (pa_cons (pv 9) pa_nil))))) (pss_cons (ps_set (i := 4) sc_law.nd rfl (.inl rfl) (pe_def D_law_lots (hr.mono (by first | decide | omega)) (pa_cons (c_len (K := K) B (pa_cons (pe_ix (x_list (K := K)) (pe_ix (x_list (K := K)) (pv 2) pe_int (fun _ _ => rfl)) pe_int (fun _ _ => rfl)) pa_nil)) pa_nil))) (pss_one (ps_for PassesOwn.never rfl (i_tup (K := K) (pe_tup (pa_cons pe_int (pa_cons pe_int (pa_cons pe_int pa_nil))))) (pg_name (i := 5) sc_law.nd rfl (.inr rfl)) (pss_cons (ps_set (i := 6) sc_law.nd rfl (.inl rfl) (pe_ifExp (pt_cmpR (o_eq (K := K) (by exact hr.units)) (pv 5) pe_int (nomark _)) (pv 4) (pe_op op_cat (pe_lc (own := [("_law_turn", 7)]) rfl sc_law.nd (i_rng1 B (pa_cons pe_int pa_nil)) (blkOk_by (own := [("_law_turn", 7)]) (N := ["_law_script", "_law_purse_here", "_law_lot", "_law_made_here", "_law_every", "_law_at", "_law_some", "_law_turn", "_law_odd", "_law_recipe_here", "_law_shown", "_law_late"]) (sc := (defScope (top 44))) (by decide +kernel)) (fun _ _ _ _ _ => pg_name (i := 7) sc_law.nd rfl (.inl rfl)) (fun _ _ _ _ _ => pts_nil) (fun _ _ _ _ _ => (pe_def D_law_drawn_lot (hr.mono (by first | decide | omega)) (pa_cons (pv 1) (pa_cons (pe_ix (x_list (K := K)) (pv 2) pe_int (fun _ _ => rfl)) pa_nil))))) (pe_lst (pa_cons (pe_lst pa_nil) (pa_cons (c_listRg1 B (c_len (K := K) B (pa_cons (pe_ix (x_list (K := K)) (pe_ix (x_list (K := K)) (pv 2) pe_int (fun _ _ => rfl)) pe_int (fun _ _ => rfl)) pa_nil))) pa_nil)))))) (pss_cons (ps_if (pt_not (pt_val (c_all (K := K) B (pa_cons (pe_lc (own := [("_law_late", 11)]) rfl sc_law.nd (i_list (K := K) (pv 6)) (blkOk_by (own := [("_law_late", 11)]) (N := ["_law_script", "_law_purse_here", "_law_lot", "_law_made_here", "_law_every", "_law_at", "_law_some", "_law_turn", "_law_odd", "_law_recipe_here", "_law_shown", "_law_late"]) (sc := (defScope (top 44))) (by decide +kernel)) (fun _ _ _ _ _ => pg_name (i := 11) sc_law.nd rfl (.inl rfl)) (fun _ _ _ _ _ => pts_nil) (fun _ _ _ _ _ => (pe_def D_law_lot_right (hr.mono (by first | decide | omega)) (pa_cons (pe_ix (x_list (K := K)) (pv 2) (pv 5) (fun _ _ => rfl)) (pa_cons (pe_ix (x_list (K := K)) (pv 3) (pv 5) (fun _ _ => rfl)) (pa_cons (pv 11) pa_nil)))))) pa_nil)))) (pss_one (ps_ret pe_bl)) pss_nil) (pss_cons (ps_for PassesOwn.never rfl (i_rng1 B (pa_cons pe_int pa_nil)) (pg_name (i := 7) sc_law.nd rfl (.inl rfl)) (pss_one (ps_if (pt_not (pt_val (pe_def D_law_two_right (hr.mono (by first | decide | omega)) (pa_cons (pe_ix (x_list (K := K)) (pv 2) (pv 5) (fun _ _ => rfl)) (pa_cons (pe_ix (x_list (K := K)) (pv 3) (pv 5) (fun _ _ => rfl)) (pa_cons (pe_def D_law_one_of (hr.mono (by first | decide | omega)) (pa_cons (pv 1) (pa_cons (pv 6) pa_nil))) (pa_cons (pe_def D_law_one_of (hr.mono (by first | decide | omega)) (pa_cons (pv 1) (pa_cons (pv 6) pa_nil))) pa_nil))))))) (pss_one (ps_ret pe_bl)) pss_nil))) (pss_one (ps_for PassesOwn.never rfl (i_list (K := K) (pe_op op_cat (pe_op op_cat (pe_def D_law_odd_lots (hr.mono (by first | decide | omega)) (pa_cons (pe_ix (x_list (K := K)) (pv 2) (pv 5) (fun _ _ => rfl)) pa_nil)) (pe_lc (own := [("_law_late", 11)]) rfl sc_law.nd (i_list (K := K) (pe_slice (x_sl (K := K)) (pv 6) po_none (po_some pe_int))) (blkOk_by (own := [("_law_late", 11)]) (N := ["_law_script", "_law_purse_here", "_law_lot", "_law_made_here", "_law_every", "_law_at", "_law_some", "_law_turn", "_law_odd", "_law_recipe_here", "_law_shown", "_law_late"]) (sc := (defScope (top 44))) (by decide +kernel)) (fun _ _ _ _ _ => pg_name (i := 11) sc_law.nd rfl (.inl rfl)) (fun _ _ _ _ _ => pts_nil) (fun _ _ _ _ _ => (e_revL (K := K) (pv 11))))) (pe_lc (own := [("_law_late", 11)]) rfl sc_law.nd (i_list (K := K) (pe_slice (x_sl (K := K)) (pv 6) po_none (po_some pe_int))) (blkOk_by (own := [("_law_late", 11)]) (N := ["_law_script", "_law_purse_here", "_law_lot", "_law_made_here", "_law_every", "_law_at", "_law_some", "_law_turn", "_law_odd", "_law_recipe_here", "_law_shown", "_law_late"]) (sc := (defScope (top 44))) (by decide +kernel)) (fun _ _ _ _ _ => pg_name (i := 11) sc_law.nd rfl (.inl rfl)) (fun _ _ _ _ _ => pts_nil) (fun _ _ _ _ _ => (pe_op op_cat (pv 11) (pe_slice (x_sl (K := K)) (pv 11) (po_some (pe_un un_neg pe_int)) po_none)))))) (pg_name (i := 8) sc_law.nd rfl (.inl rfl)) (pss_cons (ps_set (i := 10) sc_law.nd rfl (.inl rfl) (pe_def D_law_same (hr.mono (by first | decide | omega)) (pa_cons (pv 8) pa_nil))) (pss_one (ps_if (pt_not (pt_val (pe_def D_law_exact (hr.mono (by first | decide | omega)) (pa_cons (pe_lst (pa_cons (pe_def D_is_lot (hr.mono (by first | decide | omega)) (pa_cons (pe_ix (x_list (K := K)) (pv 3) (pv 5) (fun _ _ => rfl)) (pa_cons (pv 8) pa_nil))) (pa_cons (pv 8) pa_nil))) (pa_cons (pe_lst (pa_cons (pe_def D_law_is_lot (hr.mono (by first | decide | omega)) (pa_cons (pe_ix (x_list (K := K)) (pv 2) (pv 5) (fun _ _ => rfl)) (pa_cons (pv 8) pa_nil))) (pa_cons (pv 10) pa_nil))) pa_nil))))) (pss_one (ps_ret pe_bl)) pss_nil)))))))))))))) (pss_one (ps_ret pe_bl))), ?_⟩
    refine ⟨_, rfl, a, ns, rfl, hS, fun l p H1 s1 hl hp ne pu hl1 => ⟨l, rfl, ⟨_, .inl (.inl hl1)⟩, ?_⟩⟩
    refine ⟨fun i m σ2 H2 => m = 1 - i ∧ i ≤ 1 ∧ H2 l = some (.lst [.ref p]) ∧ (i = 0 → σ2 = L2.start ["_law_script", "_law_purse_here", "_law_lot", "_law_made_here", "_law_every", "_law_at", "_law_some", "_law_turn", "_law_odd", "_law_recipe_here", "_law_shown", "_law_late"] [.ref a] ∧ H2 = H1), ⟨1, rfl, by decide, hl1, fun _ => ⟨rfl, rfl⟩⟩, ?_⟩
    rintro i m σ2 H2 ⟨rfl, hi, hl2, h0⟩
    by_cases hlt : i = 1
    · subst hlt
      exact .inl ⟨⟨_, .inl (.inl hl2), by show 1 ≤ 1; decide⟩, hQ _⟩
    · have ei : i = 0 := by omega
      subst ei
      obtain ⟨rfl, rfl⟩ := h0 rfl
      refine .inr ⟨⟨_, _, .inl (.inl hl2), rfl⟩, fun _ H3 => H3 l = some (.lst [.ref p]), fun σ3 H3 h3 => ⟨0, by decide, rfl, by decide, h3, fun q => by cases q⟩, fun x H3 y => ?_⟩
      obtain ⟨rfl, y⟩ := y
      have ex := y _ (.inl (.inl hl2))
      cases (show V.ref p = x by simpa using ex)
      have x0 : AtJ K C 1 (fun b => decide (b = p)) H3 ((L2.start ["_law_script", "_law_purse_here", "_law_lot", "_law_made_here", "_law_every", "_law_at", "_law_some", "_law_turn", "_law_odd", "_law_recipe_here", "_law_shown", "_law_late"] [.ref a]).set 1 (some (.ref p))) none12 p 0 := ⟨⟨⟨fun b hb e => by
        have eb : b = p := of_decide_eq_true hb
        subst eb
        exact pu.some e, fun b o hb e => by
        have eb : b = p := of_decide_eq_true hb
        subst eb
        obtain ⟨a', b', c', d', h0', _⟩ := pu
        rw [h0'] at e
        cases e
        trivial⟩, rfl, fun k d hk => by
        match k, hk with
        | 0, hk => cases hk
        | 1, hk => cases hk
        | 2, hk => cases hk
        | 3, hk => cases hk
        | 4, hk => cases hk
        | 5, hk => cases hk
        | 6, hk => cases hk
        | 7, hk => cases hk
        | 8, hk => cases hk
        | 9, hk => cases hk
        | 10, hk => cases hk
        | 11, hk => cases hk
        | k + 12, hk => simp at hk⟩, decide_eq_true rfl, pu, rfl⟩
      show tSeq _ _ _ _ _
      refine sj_run (c := 400 + 400 + (0 + (0 + 3 * 88))) (δ' := none12) (sj_two (c1 := 400) (c2 := 400) (c3 := 0 + (0 + 3 * 88)) (R1 := fun d => ∃ m rows, d = recD m rows ∧ RecOk 4 5 m rows) (R2 := fun d => ∃ m rows, d = recD m rows ∧ RecOk 8 8 m rows) (by decide) (ej_call (ds := [.int 4, .int 5]) (ea_cons ev_int (ea_cons ev_int ea_nil)) rfl ?pre) (ej_imp (ej_call (ds := []) ea_nil rfl rfl) (fun d h => h) (Nat.le_refl _)) (fun d e hd he => ?_)) x0 (by decide) (fun σ' H' b y => b _ _ ne hl2)
      case pre => exact ⟨4, 5, rfl, by decide, by decide, by decide, by decide⟩
      obtain ⟨m1, r1, rfl, k1⟩ := hd
      obtain ⟨m2, r2, rfl, k2⟩ := he
      have s1' := small_of k1 (by decide) (by decide)
      have s2' := small_of k2 (by decide) (by decide)
      have l14 : (r1.length : Int) ≤ 4 := k1.2.2.2.1
      clear k1 k2
      have l28 := s2'.2.2
      refine sj_seq (sj_set (d := .lst [.rcp m1 r1, .rcp m2 r2]) (by decide) (ev_is (z := .lst [.rcp m1 r1, .rcp m2 r2]) (en_lc1 (as := [(m1, r1), (m2, r2)]) (g0 := fun q => recD q.1 q.2) (f := fun q => .rcp q.1 q.2) (ei_list (ev_var rfl)) (fun q hq => eg_name (by decide)) (fun q hq => EvF.toD (ef_is (ef_call (ds := [recD q.1 q.2]) (ea_cons (ev_var rfl) ea_nil) rfl ⟨_, _, rfl, ?val⟩) (f_made_eq q.1 q.2))) (by show 2 ≤ 100000; decide)).toD rfl)) ?_
      case val =>
        simp only [List.mem_cons, List.mem_nil_iff, or_false] at hq
        rcases hq with rfl | rfl
        · exact s1'.1
        · exact s2'.1
      refine sj_seq (sj_set (d := rowsL (lotsI r1.length)) (by decide) (ev_is (ev_call (ds := [.int r1.length]) (ea_cons (ev_is (ev_cb (ea_cons (ev_op (ev_op (ev_var rfl) ev_int (r2_ixL rfl)) ev_int (r2_ixL rfl)) ea_nil) rc_lenL) (by rw [List.length_map])) ea_nil) rfl ⟨_, rfl, by omega, by omega⟩) rfl)) ?_
      refine sj_le (sj_for (r := 5) (as := [(0 : Int), 1, 0]) (g0 := D.int) (c := 88) (δ' := [none, none, some (.lst [recD m1 r1, recD m2 r2]), some (.lst [.rcp m1 r1, .rcp m2 r2]), some (rowsL (lotsI r1.length)), none, none, none, none, none, none, none]) (by decide) (ei_tup (en_tup (ea_cons ev_int (ea_cons ev_int (ea_cons ev_int ea_nil))) (by show 3 ≤ 100000; decide)).toD)
        (leN (leN (leS (leS (leS (leN (leN (leN (leN (leN (leN (leN le0)))))))))))) (fun a ha => ?_)) (leN (leN (leN (leN (leN (leN (leN (leN (leN (leN (leN (leN le0)))))))))))) (by decide)
      have pick : ∃ m rows, atI [recD m1 r1, recD m2 r2] a = some (recD m rows) ∧ atI [D.rcp m1 r1, D.rcp m2 r2] a = some (.rcp m rows) ∧ SmallR m rows ∧ (a = 0 → rows = r1) ∧ (a ≠ 0 → rows = r2) := by
        simp only [List.mem_cons, List.mem_nil_iff, or_false] at ha
        rcases ha with rfl | rfl | rfl
        · exact ⟨m1, r1, rfl, rfl, s1', fun _ => rfl, fun h => absurd rfl h⟩
        · exact ⟨m2, r2, rfl, rfl, s2', fun h => absurd h (by decide), fun _ => rfl⟩
        · exact ⟨m1, r1, rfl, rfl, s1', fun _ => rfl, fun h => absurd rfl h⟩
      obtain ⟨m, rows, e1, e2, hv, ea0, ea1⟩ := pick
      refine sj_setJ (i := 6) (c1 := 64) (c2 := 24) (R := fun d => ∃ lots, d = rowsL lots ∧ lots ≠ [] ∧ lots.length ≤ 40 ∧ ∀ l ∈ lots, RowOk rows.length l) (by decide) ?some (fun d hd => ?_)
      case some =>
        refine ej_ifB (b := decide (a = 0)) (et_is (et_test (ev_op (ev_var rfl) ev_int (r2_eq shp_int shp_int))) (by rw [eqD_int])) (fun h => ej_imp (ej_d (ev_var rfl)) (fun d hd => ?_) (by decide)) (fun h => ?_)
        · subst hd
          rw [ea0 (of_decide_eq_true h)]
          have hz : (lotsI r1.length).length = 2 ^ r1.length := lotsI_len
          have hp := Nat.pow_le_pow_right (by decide : 0 < 2) (by omega : r1.length ≤ 4)
          refine ⟨_, rfl, fun z => ?_, by rw [hz]; exact Nat.le_trans hp (by decide), lotsI_row⟩
          rw [z, List.length_nil] at hz
          have := Nat.two_pow_pos r1.length
          omega
        · have er := ea1 (of_decide_eq_false h)
          have rg : (rgI 0 (r2.length : Int)).length = r2.length := by
            rw [rgI_len]
            omega
          refine ej_op (c1 := 8 * 8) (c2 := 0) (R2 := fun x => x = .lst [.lst [], .lst (dI (rgI 0 r2.length))]) (ej_lc (N := 8) (c := 8) (Re := fun d => ∃ lot, d = .lst (dI lot) ∧ RowOk r2.length lot) rfl ev_int (by decide) (by decide) (by decide) (fun b hb => ej_imp (ej_call (ds := [recD m2 r2]) (ea_cons (ev_op (ev_var rfl) ev_int (r2_ixL rfl)) ea_nil) rfl ⟨m2, r2, rfl, s2'.2.2⟩) (fun d hd => ?_) (Nat.le_refl _)))
            (ej_d (en_lst (ea_cons (en_lst ea_nil (by decide)).toD (ea_cons (en_listRg1 (j := (r2.length : Int)) (ev_is (ev_cb (ea_cons (ev_op (ev_op (ev_var rfl) ev_int (r2_ixL rfl)) ev_int (r2_ixL rfl)) ea_nil) rc_lenL) (by rw [List.length_map])) (RgOk.of_le (by omega) (by omega) (by have := s2'.2.2; omega) (by have := s2'.2.2; omega))).toD ea_nil)) (by show 2 ≤ 100000; decide)).toD) (fun d e hd he => ?_)
          · obtain ⟨lot, rfl, hl⟩ := hd
            rw [List.length_map] at hl
            exact ⟨lot, rfl, hl⟩
          · obtain ⟨ds, rfl, h8, hall⟩ := hd
            obtain ⟨lots, rfl, hlen, hr2⟩ := rows_of hall
            subst he
            refine ⟨_, (r2_cat (by rw [h8]; show 8 + 2 ≤ 100000; decide)).toD, lots ++ [[], rgI 0 r2.length], ?_, by simp, by rw [List.length_append, hlen, h8]; show 8 + 2 ≤ 40; decide, fun l hl => ?_⟩
            · unfold rowsL
              rw [List.map_append]
              rfl
            · rw [er]
              rcases List.mem_append.mp hl with hl | hl
              · exact hr2 l hl
              · simp only [List.mem_cons, List.mem_nil_iff, or_false] at hl
                rcases hl with rfl | rfl
                · exact ⟨.nil, fun x hx => by cases hx⟩
                · exact rowOk_rg (by omega) (by omega)
      obtain ⟨lots, rfl, ne0, l40, hl⟩ := hd
      have l58 := hv.2.2
      refine sj_le (c1 := 0 + (12 * 2 + (oddsD rows.length ++ ((cutD lots none (some 6)).map fun l => D.lst (dI l.reverse)) ++ ((cutD lots none (some 6)).map fun l => D.lst (dI (l ++ cutD l (some (-1)) none)))).length * 0))
        (δ2 := [none, none, some (.lst [recD m1 r1, recD m2 r2]), some (.lst [.rcp m1 r1, .rcp m2 r2]), some (rowsL (lotsI r1.length)), some (.int a), some (rowsL lots), none, none, none, none, none]) ?body (leN (leN (leS (leS (leS (leN (leN (leN (leN (leN (leN (leN le0)))))))))))) (by rw [Nat.mul_zero]; decide)
      case body =>
        refine sj_seq (sj_skip (ejt_of (et_is (et_not (et_B (ev_is (z := .bl true) (ev_cb (ea_cons (ev_is (z := .lst (dB (lots.map fun _ => true))) (en_lc1 (as := lots) (g0 := fun l => D.lst (dI l)) (f := fun _ => D.bl true) (ei_list (ev_var rfl)) (fun l hl => eg_name (by decide)) (fun l hl' => ev_is (ev_call (ds := [recD m rows, .rcp m rows, .lst (dI l)]) (ea_cons (ev_op (ev_var rfl) (ev_var rfl) (r2_ixL e1)) (ea_cons (ev_op (ev_var rfl) (ev_var rfl) (r2_ixL e2)) (ea_cons (ev_var rfl) ea_nil))) rfl ⟨m, rows, l, rfl, hv, hl l hl'⟩) rfl) (by omega)).toD (by unfold dB; rw [List.map_map]; rfl)) ea_nil) rc_all) ?allr))) rfl))) ?_
        case allr =>
          congr 1
          rw [List.all_map]
          exact List.all_eq_true.mpr fun _ _ => rfl
        refine sj_seq (sj_for (r := 7) (as := List.range 12) (g0 := fun (k : Nat) => D.int (0 + (k : Int))) (c := 2) (δ' := [none, none, some (.lst [recD m1 r1, recD m2 r2]), some (.lst [.rcp m1 r1, .rcp m2 r2]), some (rowsL (lotsI r1.length)), some (.int a), some (rowsL lots), none, none, none, none, none]) (by decide) (ei_rng1 (ea_cons ev_int ea_nil) (by decide) (by decide)) (leN (leN (leS (leS (leS (leS (leS (leN (leN (leN (leN (leN le0)))))))))))) (fun b hb => ?turn)) ?_
        case turn =>
          refine sj_le (sj_skip (ejt_not (b := true) (ejt_B (ej_imp (ej_callA (eja_cons (ej_d (ev_op (ev_var rfl) (ev_var rfl) (r2_ixL e1))) (eja_cons (ej_d (ev_op (ev_var rfl) (ev_var rfl) (r2_ixL e2))) (eja_cons (ej_call (ds := [rowsL lots]) (ea_cons (ev_var rfl) ea_nil) rfl ⟨_, rfl, ?ne, ?sz⟩) (eja_cons (ej_call (ds := [rowsL lots]) (ea_cons (ev_var rfl) ea_nil) rfl ⟨_, rfl, ?ne, ?sz⟩) eja_nil)))) (fun ds h => ?pre)) (fun d hd => ?ans) (Nat.le_refl _))))) (leN (leN (leS (leS (leS (leS (leS (leN (leN (leN (leN (leN le0)))))))))))) (by decide)
          case ne => simpa using ne0
          case sz => rw [List.length_map]; omega
          case pre =>
            obtain ⟨d1, es1, rfl, rfl, d2, es2, rfl, rfl, d3, es3, rfl, h3, d4, es4, rfl, h4, rfl⟩ := h
            obtain ⟨x, hx, rfl⟩ := List.mem_map.mp h3
            obtain ⟨y, hy, rfl⟩ := List.mem_map.mp h4
            exact ⟨rfl, m, rows, x, y, rfl, hv, hl x hx, hl y hy⟩
          case ans =>
            obtain ⟨ds, _, rfl⟩ := hd
            rfl
        have hall : ∀ d ∈ oddsD rows.length ++ ((cutD lots none (some 6)).map fun l => D.lst (dI l.reverse)) ++ ((cutD lots none (some 6)).map fun l => D.lst (dI (l ++ cutD l (some (-1)) none))), OddOk d := fun d hd => by
          rcases List.mem_append.mp hd with hd | hd
          · rcases List.mem_append.mp hd with hd | hd
            · exact odd_ok l58 d hd
            · obtain ⟨l, hl', rfl⟩ := List.mem_map.mp hd
              have := row_len8 (hl l (cut_mem hl')) l58
              exact odd_row (by rw [List.length_reverse]; omega)
          · obtain ⟨l, hl', rfl⟩ := List.mem_map.mp hd
            have := row_len8 (hl l (cut_mem hl')) l58
            have := cut_len l (some (-1)) none
            exact odd_row (by rw [List.length_append]; omega)
        refine sj_for (r := 8) (as := oddsD rows.length ++ ((cutD lots none (some 6)).map fun l => D.lst (dI l.reverse)) ++ ((cutD lots none (some 6)).map fun l => D.lst (dI (l ++ cutD l (some (-1)) none)))) (g0 := id) (c := 0) (by decide) (ei_list ?lst) (leN (leN (leS (leS (leS (leS (leS (leN (leN (leN (leN (leN le0)))))))))))) (fun d hd => ?odd)
        case lst =>
          have lo : (oddsD (rows.length : Int)).length ≤ 23 := by
            unfold oddsD odds3
            split
            · show 21 + 2 ≤ 23
              decide
            · show 21 + 0 ≤ 23
              decide
          have l6 := cut_len lots none (some 6)
          have six : ∀ {δ : Dl}, δ[6]? = some (some (rowsL lots)) → EvD K C (tSl (rSlL K) (tVar 6) tNoPart (tPart (tC (.int 6)))) δ (.lst ((cutD lots none (some 6)).map fun r => D.lst (dI r))) := fun h => ev_is (en_sl (ev_var h) eo_none (eo_some ev_int)).toD (by rw [cut_map])
          refine ev_is (en_op (en_op (ev_is (ev_call (ds := [recD m rows]) (ea_cons (ev_op (ev_var rfl) (ev_var rfl) (r2_ixL e1)) ea_nil) rfl ⟨m, rows, rfl, hv⟩) (?oe : f_odd [recD m rows] = .lst (oddsD rows.length))) (en_lc1 (as := cutD lots none (some 6)) (g0 := fun l => D.lst (dI l)) (f := fun l => D.lst (dI l.reverse)) (ei_list (six rfl)) (fun l hl => eg_name (by decide)) (fun l hl => ev_is (en_revL (ev_var rfl)).toD (by unfold dI; rw [List.map_reverse])) (by omega)).toD (r2_cat ?c1)).toD
            (en_lc1 (as := cutD lots none (some 6)) (g0 := fun l => D.lst (dI l)) (f := fun l => D.lst (dI (l ++ cutD l (some (-1)) none))) (ei_list (six rfl)) (fun l hl => eg_name (by decide)) (fun l hl' => ev_is (en_op (ev_var rfl) (ev_is (en_sl (ev_var rfl) (eo_some (ev_un ev_int (r1_U (g := fun i => -i)))) eo_none).toD (by unfold dI; rw [cut_map])) (r2_cat (es := dI (cutD l (some (-1)) none)) ?c3)).toD (by unfold dI; rw [List.map_append])) (by omega)).toD (r2_cat ?c2)).toD (by rw [List.map_id])
          case oe =>
            show D.lst (oddsD ((rows.map fun r => D.lst (dI r)).length : Nat)) = _
            rw [List.length_map]
          case c1 =>
            rw [List.length_map]
            omega
          case c2 =>
            rw [List.length_append, List.length_map, List.length_map]
            omega
          case c3 =>
            have := row_len8 (hl l (cut_mem hl')) l58
            have := cut_len l (some (-1)) none
            unfold dI
            rw [List.length_map, List.length_map]
            omega
        case odd =>
          obtain ⟨o1, o2, o3, o4⟩ := hall d hd
          refine sj_le (sj_seq (sj_set (d := d) (by decide) (EvF.toD (ef_is (ef_call (ds := [d]) (ea_cons (ev_var rfl) ea_nil) rfl ⟨d, rfl, o4⟩) rfl))) (sj_skip (ejt_of (et_is (et_not (et_B (ev_is (z := .bl true) (ev_call (ds := [.lst [.bl (isAscD rows.length d), d], .lst [.bl (isAscD rows.length d), d]]) (ea_cons (en_lst (ea_cons (ev_is (ev_call (ds := [.rcp m rows, d]) (ea_cons (ev_op (ev_var rfl) (ev_var rfl) (r2_ixL e2)) (ea_cons (ev_var rfl) ea_nil)) rfl ⟨m, rows, d, rfl, hv.1, o1, o2, short_len o3⟩) rfl) (ea_cons (ev_var rfl) ea_nil)) (by show 2 ≤ 100000; decide)).toD
            (ea_cons (en_lst (ea_cons (ev_is (ev_call (ds := [recD m rows, d]) (ea_cons (ev_op (ev_var rfl) (ev_var rfl) (r2_ixL e1)) (ea_cons (ev_var rfl) ea_nil)) rfl ⟨m, rows, d, rfl, hv.1, o1, o2, o3⟩) ?lis) (ea_cons (ev_var rfl) ea_nil)) (by show 2 ≤ 100000; decide)).toD ea_nil)) rfl ⟨_, rfl, ?pl⟩) rfl))) rfl)))) (leN (leN (leS (leS (leS (leS (leS (leN (leN (leN (leN (leN le0)))))))))))) (by decide)
          case lis =>
            show D.bl (isAscD (rows.map fun r => D.lst (dI r)).length d) = _
            rw [List.length_map]
          case pl =>
            refine plain_lst (by show 2 ≤ 100000; decide) fun e he => ?_
            simp only [List.mem_cons, List.mem_nil_iff, or_false] at he
            rcases he with rfl | rfl
            · exact plain_bl
            · exact o4
end
end Zm


set_option Elab.async false
set_option linter.all false
set_option maxRecDepth 100000
set_option maxHeartbeats 0
namespace Zm
open PySem PySem.Spec PyProof.Rows L2
abbrev RowK : PySem.W.OpenRow := PySem.W.OpenLaw.row PySem.Challenge.rw_sparecells_k06_whole_lots_and_what_they
def df (x : Str) (i : Nat) : He.DefD := ⟨(x, none), x, x, defArgs (top i), defBody (top i), defScope (top i), [], []⟩
def mt (C m q : Str) (i j : Nat) : He.DefD := ⟨(C, some m), m, q, defArgs (inClass (top i) j), defBody (inClass (top i) j), defScope (inClass (top i) j), [], []⟩
def mtD (C q : Str) (i j : Nat) : He.DefD := ⟨(C, some "__init__"), "__init__", q, defArgs (inClass (top i) j), defBody (inClass (top i) j), defScope (inClass (top i) j), [.non], []⟩
def fnK : List He.DefD := [df "is_count" 7, df "is_ascending" 8, df "is_ascending_below" 9, df "check_lot" 10, df "_are_needs" 13, df "check_recipe" 14, df "is_lot" 16, df "needed" 17, df "held" 18, df "gain" 19, df "either_lot" 20, df "both_lot" 21, df "_law_purse" 23, df "_law_mixed" 24, df "_law_draw" 25, df "_law_purses" 26, df "_law_one_of" 27, df "_law_same" 28, df "_law_exact" 29, df "_law_row" 30, df "_law_recipe" 31, df "_law_needed" 32, df "_law_held" 33, df "_law_lots" 34, df "_law_made" 35, df "_law_is_lot" 36, df "_law_odd_lots" 37, df "_law_drawn_lot" 38, df "_law_union" 39, df "_law_common" 40, df "_law_great" 41, df "_law_lot_right" 42, df "_law_two_right" 43, df "law" 44, mt "Recipe" "__init__" "Recipe.__init__" 12 0, mt "Recipe" "many" "Recipe.many" 12 1, mt "Recipe" "needs" "Recipe.needs" 12 2, mt "Recipe" "size" "Recipe.size" 12 3, mt "Recipe" "__eq__" "Recipe.__eq__" 12 4]
def glos : List Str := [("is_count" : Str), ("is_ascending" : Str), ("is_ascending_below" : Str), ("check_lot" : Str), ("_are_needs" : Str), ("check_recipe" : Str), ("is_lot" : Str), ("needed" : Str), ("held" : Str), ("gain" : Str), ("either_lot" : Str), ("both_lot" : Str), ("_law_purse" : Str), ("_law_mixed" : Str), ("_law_draw" : Str), ("_law_purses" : Str), ("_law_one_of" : Str), ("_law_same" : Str), ("_law_exact" : Str), ("_law_row" : Str), ("_law_recipe" : Str), ("_law_needed" : Str), ("_law_held" : Str), ("_law_lots" : Str), ("_law_made" : Str), ("_law_is_lot" : Str), ("_law_odd_lots" : Str), ("_law_drawn_lot" : Str), ("_law_union" : Str), ("_law_common" : Str), ("_law_great" : Str), ("_law_lot_right" : Str), ("_law_two_right" : Str), ("law" : Str), ("Recipe" : Str)]
def faK : List He.Fa := glos.map He.Fa.glo ++ bNames.map He.Fa.free ++ [.cls "Recipe", .mkr "Recipe", .noat "Recipe" "_many", .noat "Recipe" "_needs", .meth "Recipe" "many", .meth "Recipe" "needs", .meth "Recipe" "size", .meth "Recipe" "__eq__"]
/-- what else is asked of the classes -/
def moreK (K : PySem.W.Frag) : Bool := He.eqO (PySem.W.findIn K (.ref (He.ga K "Recipe")) "__class__") (some (some (.builtin "object.__class__"))) && (He.eqO (PySem.W.specialIn K (.builtin "object.__class__") "__get__") (some (some (.builtin "getset_descriptor.__get__"))) &&
  (decide (PySem.W.takesIn K (.builtin "object.__class__") = some true) && (decide (PySem.W.mroIn K (He.ga K "Recipe") (.type "object") = some true) && ((tyNames.all fun s => decide (PySem.W.kitOne K (.type s) (.ref (He.ga K "Recipe")) = some false)) &&
    (He.eqO (PySem.W.findIn K (.ref (He.ga K "Recipe")) "__ne__") (some (some (.builtin "object.__ne__"))) && (true))))))
abbrev AlE : Type := Bool × He.AlD
def obsE (K : PySem.W.Frag) : AlE := (moreK K, He.obsD faK fnK K)
def hkK : PySem.W.Hook where
  α := AlE
  obs := fun s => obsE (He.frG s.heap.get? (He.asD s.heap.get? 4 ++ [cStatics]))
  val := fun _ => (true, He.valD fnK)
  says := fun _ h => ∃ K : PySem.W.Frag, K.In h ∧ obsE K = (true, He.valD fnK)
  of := fun _ _ e => ⟨_, He.frG_in, e⟩
  keeps := fun _ _ _ ⟨K, hK, c⟩ k => ⟨K, PySem.W.Frag.In.keeps hK k, c⟩
def obK (s : PySem.W.SharedT) : AlE := obsE (He.frG (HandSHeadRun.getT s) (He.asD (HandSHeadRun.getT s) 4 ++ [cStatics]))
theorem obK_eq (s : PySem.W.SharedT) : obK s = hkK.obs s.abs := by
  have e : HandSHeadRun.getT s = s.abs.heap.get? := funext (HandSHeadRun.getT_eq s)
  unfold obK
  rw [e]
  rfl
def others : List Str := [("CellsError" : Str), ("InvalidCount" : Str), ("InvalidNeeds" : Str), ("InvalidRecipe" : Str), ("InvalidLot" : Str), ("is_count" : Str), ("is_ascending" : Str), ("is_ascending_below" : Str), ("check_lot" : Str), ("Recipe" : Str), ("_are_needs" : Str), ("check_recipe" : Str), ("is_lot" : Str), ("needed" : Str), ("held" : Str), ("gain" : Str), ("either_lot" : Str), ("both_lot" : Str), ("_law_purse" : Str), ("_law_mixed" : Str), ("_law_draw" : Str), ("_law_purses" : Str), ("_law_one_of" : Str), ("_law_same" : Str), ("_law_exact" : Str), ("_law_row" : Str), ("_law_recipe" : Str), ("_law_needed" : Str), ("_law_held" : Str), ("_law_lots" : Str), ("_law_made" : Str), ("_law_is_lot" : Str), ("_law_odd_lots" : Str), ("_law_drawn_lot" : Str), ("_law_union" : Str), ("_law_common" : Str), ("_law_great" : Str), ("_law_lot_right" : Str), ("_law_two_right" : Str)]
theorem runK (w : World) : HandSHeadRun.RunEq RowK (PySem.W.view RowK.prog [44]) hkK obK 6000 others w := by
  intro os
  kernel_rfl
theorem factsK {P : Program} {w : World} {K : PySem.W.Frag} {h : Heap} {mg : Str → Option Value} {f : Addr} (X : K.In h) (G : h.Ns mainGlobals mg) (hfa : mg ("law" : Str) = some (.ref f)) (all : obsE K = (true, He.valD fnK)) :
    ∃ fd : FuncData, (∀ (s : Shared) (v : Value), BindsTo s fd ⟨[v], []⟩ [("_law_script", v)]) ∧ ∀ base : Heap, K.In base → base.Ns mainGlobals mg → FnOk P w K mg base CX0 9 f fd ["_law_script"] (spLaw K) := by
  have c : He.SaysD faK fnK K := congrArg (fun z : AlE => z.2) all
  have more : moreK K = true := congrArg (fun z : AlE => z.1) all
  have fact : ∀ x ∈ faK, x.ok K = true := fun x hx => by
    obtain ⟨i, hi⟩ := List.mem_iff_getElem?.mp hx
    exact c.fact i hi
  have glo : ∀ x ∈ glos, mg x = some (.ref (He.ga K x)) := fun x hx => He.glo_ok X G (fact (.glo x) (List.mem_append_left _ (List.mem_append_left _ (List.mem_map.mpr ⟨x, hx, rfl⟩))))
  have B : BFree mg := fun x hx => He.free_ok X G (fact (.free x) (List.mem_append_left _ (List.mem_append_right _ (List.mem_map.mpr ⟨x, hx, rfl⟩))))
  have last : ∀ x ∈ [He.Fa.cls "Recipe", .mkr "Recipe", .noat "Recipe" "_many", .noat "Recipe" "_needs", .meth "Recipe" "many", .meth "Recipe" "needs", .meth "Recipe" "size", .meth "Recipe" "__eq__"], x.ok K = true := fun x hx => fact x (List.mem_append_right _ hx)
  obtain ⟨e1, more⟩ := He.ba more
  obtain ⟨e2, more⟩ := He.ba more
  obtain ⟨e3, more⟩ := He.ba more
  obtain ⟨e4, more⟩ := He.ba more
  obtain ⟨e5, more⟩ := He.ba more
  obtain ⟨e6, e7⟩ := He.ba more
  have R : RecFacts K (He.ga K "Recipe") := ⟨He.cls_ok (last (.cls "Recipe") (by simp)), He.noat_ok (last (.noat "Recipe" "_many") (by simp)), He.noat_ok (last (.noat "Recipe" "_needs") (by simp)), He.eqO_ok e1, He.eqO_ok e2, of_decide_eq_true e3, of_decide_eq_true e4, fun s hs => of_decide_eq_true (List.all_eq_true.mp e5 s hs)⟩
  have hne := He.eqO_ok e6
  have GR := glo "Recipe" (by decide +kernel)
  obtain ⟨fd_is_count, F_is_count⟩ := c.def_ 0 (d := df "is_count" 7) rfl
  have A_is_count : DefAt K mg "is_count" ["value"] (top 7) (He.ga K "is_count") fd_is_count := ⟨F_is_count, glo "is_count" (by decide +kernel), F_is_count.bindsN fun _ _ _ _ _ _ us hl => match us, hl with | [_], _ => rfl⟩
  obtain ⟨fd_is_ascending, F_is_ascending⟩ := c.def_ 1 (d := df "is_ascending" 8) rfl
  have A_is_ascending : DefAt K mg "is_ascending" ["value"] (top 8) (He.ga K "is_ascending") fd_is_ascending := ⟨F_is_ascending, glo "is_ascending" (by decide +kernel), F_is_ascending.bindsN fun _ _ _ _ _ _ us hl => match us, hl with | [_], _ => rfl⟩
  obtain ⟨fd_is_ascending_below, F_is_ascending_below⟩ := c.def_ 2 (d := df "is_ascending_below" 9) rfl
  have A_is_ascending_below : DefAt K mg "is_ascending_below" ["value", "limit"] (top 9) (He.ga K "is_ascending_below") fd_is_ascending_below := ⟨F_is_ascending_below, glo "is_ascending_below" (by decide +kernel), F_is_ascending_below.bindsN fun _ _ _ _ _ _ us hl => match us, hl with | [_, _], _ => rfl⟩
  obtain ⟨fd_check_lot, F_check_lot⟩ := c.def_ 3 (d := df "check_lot" 10) rfl
  have A_check_lot : DefAt K mg "check_lot" ["recipe", "lot"] (top 10) (He.ga K "check_lot") fd_check_lot := ⟨F_check_lot, glo "check_lot" (by decide +kernel), F_check_lot.bindsN fun _ _ _ _ _ _ us hl => match us, hl with | [_, _], _ => rfl⟩
  obtain ⟨fd_are_needs, F_are_needs⟩ := c.def_ 4 (d := df "_are_needs" 13) rfl
  have A_are_needs : DefAt K mg "_are_needs" ["many", "needs"] (top 13) (He.ga K "_are_needs") fd_are_needs := ⟨F_are_needs, glo "_are_needs" (by decide +kernel), F_are_needs.bindsN fun _ _ _ _ _ _ us hl => match us, hl with | [_, _], _ => rfl⟩
  obtain ⟨fd_check_recipe, F_check_recipe⟩ := c.def_ 5 (d := df "check_recipe" 14) rfl
  have A_check_recipe : DefAt K mg "check_recipe" ["recipe"] (top 14) (He.ga K "check_recipe") fd_check_recipe := ⟨F_check_recipe, glo "check_recipe" (by decide +kernel), F_check_recipe.bindsN fun _ _ _ _ _ _ us hl => match us, hl with | [_], _ => rfl⟩
  obtain ⟨fd_is_lot, F_is_lot⟩ := c.def_ 6 (d := df "is_lot" 16) rfl
  have A_is_lot : DefAt K mg "is_lot" ["recipe", "value"] (top 16) (He.ga K "is_lot") fd_is_lot := ⟨F_is_lot, glo "is_lot" (by decide +kernel), F_is_lot.bindsN fun _ _ _ _ _ _ us hl => match us, hl with | [_, _], _ => rfl⟩
  obtain ⟨fd_needed, F_needed⟩ := c.def_ 7 (d := df "needed" 17) rfl
  have A_needed : DefAt K mg "needed" ["recipe", "lot"] (top 17) (He.ga K "needed") fd_needed := ⟨F_needed, glo "needed" (by decide +kernel), F_needed.bindsN fun _ _ _ _ _ _ us hl => match us, hl with | [_, _], _ => rfl⟩
  obtain ⟨fd_held, F_held⟩ := c.def_ 8 (d := df "held" 18) rfl
  have A_held : DefAt K mg "held" ["recipe", "lot"] (top 18) (He.ga K "held") fd_held := ⟨F_held, glo "held" (by decide +kernel), F_held.bindsN fun _ _ _ _ _ _ us hl => match us, hl with | [_, _], _ => rfl⟩
  obtain ⟨fd_gain, F_gain⟩ := c.def_ 9 (d := df "gain" 19) rfl
  have A_gain : DefAt K mg "gain" ["recipe", "one", "other"] (top 19) (He.ga K "gain") fd_gain := ⟨F_gain, glo "gain" (by decide +kernel), F_gain.bindsN fun _ _ _ _ _ _ us hl => match us, hl with | [_, _, _], _ => rfl⟩
  obtain ⟨fd_either_lot, F_either_lot⟩ := c.def_ 10 (d := df "either_lot" 20) rfl
  have A_either_lot : DefAt K mg "either_lot" ["one", "other"] (top 20) (He.ga K "either_lot") fd_either_lot := ⟨F_either_lot, glo "either_lot" (by decide +kernel), F_either_lot.bindsN fun _ _ _ _ _ _ us hl => match us, hl with | [_, _], _ => rfl⟩
  obtain ⟨fd_both_lot, F_both_lot⟩ := c.def_ 11 (d := df "both_lot" 21) rfl
  have A_both_lot : DefAt K mg "both_lot" ["one", "other"] (top 21) (He.ga K "both_lot") fd_both_lot := ⟨F_both_lot, glo "both_lot" (by decide +kernel), F_both_lot.bindsN fun _ _ _ _ _ _ us hl => match us, hl with | [_, _], _ => rfl⟩
  obtain ⟨fd_law_purse, F_law_purse⟩ := c.def_ 12 (d := df "_law_purse" 23) rfl
  have A_law_purse : DefAt K mg "_law_purse" ["_law_script", "_law_at"] (top 23) (He.ga K "_law_purse") fd_law_purse := ⟨F_law_purse, glo "_law_purse" (by decide +kernel), F_law_purse.bindsN fun _ _ _ _ _ _ us hl => match us, hl with | [_, _], _ => rfl⟩
  obtain ⟨fd_law_mixed, F_law_mixed⟩ := c.def_ 13 (d := df "_law_mixed" 24) rfl
  have A_law_mixed : DefAt K mg "_law_mixed" ["_law_seed", "_law_spin", "_law_at"] (top 24) (He.ga K "_law_mixed") fd_law_mixed := ⟨F_law_mixed, glo "_law_mixed" (by decide +kernel), F_law_mixed.bindsN fun _ _ _ _ _ _ us hl => match us, hl with | [_, _, _], _ => rfl⟩
  obtain ⟨fd_law_draw, F_law_draw⟩ := c.def_ 14 (d := df "_law_draw" 25) rfl
  have A_law_draw : DefAt K mg "_law_draw" ["_law_purse_here", "_law_many"] (top 25) (He.ga K "_law_draw") fd_law_draw := ⟨F_law_draw, glo "_law_draw" (by decide +kernel), F_law_draw.bindsN fun _ _ _ _ _ _ us hl => match us, hl with | [_, _], _ => rfl⟩
  obtain ⟨fd_law_purses, F_law_purses⟩ := c.def_ 15 (d := df "_law_purses" 26) rfl
  have A_law_purses : DefAt K mg "_law_purses" ["_law_script", "_law_few"] (top 26) (He.ga K "_law_purses") fd_law_purses := ⟨F_law_purses, glo "_law_purses" (by decide +kernel), F_law_purses.bindsN fun _ _ _ _ _ _ us hl => match us, hl with | [_, _], _ => rfl⟩
  obtain ⟨fd_law_one_of, F_law_one_of⟩ := c.def_ 16 (d := df "_law_one_of" 27) rfl
  have A_law_one_of : DefAt K mg "_law_one_of" ["_law_purse_here", "_law_some"] (top 27) (He.ga K "_law_one_of") fd_law_one_of := ⟨F_law_one_of, glo "_law_one_of" (by decide +kernel), F_law_one_of.bindsN fun _ _ _ _ _ _ us hl => match us, hl with | [_, _], _ => rfl⟩
  obtain ⟨fd_law_same, F_law_same⟩ := c.def_ 17 (d := df "_law_same" 28) rfl
  have A_law_same : DefAt K mg "_law_same" ["_law_thing"] (top 28) (He.ga K "_law_same") fd_law_same := ⟨F_law_same, glo "_law_same" (by decide +kernel), F_law_same.bindsN fun _ _ _ _ _ _ us hl => match us, hl with | [_], _ => rfl⟩
  obtain ⟨fd_law_exact, F_law_exact⟩ := c.def_ 18 (d := df "_law_exact" 29) rfl
  have A_law_exact : DefAt K mg "_law_exact" ["_law_mine", "_law_theirs"] (top 29) (He.ga K "_law_exact") fd_law_exact := ⟨F_law_exact, glo "_law_exact" (by decide +kernel), F_law_exact.bindsN fun _ _ _ _ _ _ us hl => match us, hl with | [_, _], _ => rfl⟩
  obtain ⟨fd_law_row, F_law_row⟩ := c.def_ 19 (d := df "_law_row" 30) rfl
  have A_law_row : DefAt K mg "_law_row" ["_law_purse_here", "_law_old", "_law_way"] (top 30) (He.ga K "_law_row") fd_law_row := ⟨F_law_row, glo "_law_row" (by decide +kernel), F_law_row.bindsN fun _ _ _ _ _ _ us hl => match us, hl with | [_, _, _], _ => rfl⟩
  obtain ⟨fd_law_recipe, F_law_recipe⟩ := c.def_ 20 (d := df "_law_recipe" 31) rfl
  have A_law_recipe : DefAt K mg "_law_recipe" ["_law_purse_here", "_law_most_new", "_law_most_old"] (top 31) (He.ga K "_law_recipe") fd_law_recipe := ⟨F_law_recipe, glo "_law_recipe" (by decide +kernel), F_law_recipe.bindsN fun _ _ _ _ _ _ us hl => match us, hl with | [_, _, _], _ => rfl⟩
  obtain ⟨fd_law_needed, F_law_needed⟩ := c.def_ 21 (d := df "_law_needed" 32) rfl
  have A_law_needed : DefAt K mg "_law_needed" ["_law_recipe_here", "_law_lot"] (top 32) (He.ga K "_law_needed") fd_law_needed := ⟨F_law_needed, glo "_law_needed" (by decide +kernel), F_law_needed.bindsN fun _ _ _ _ _ _ us hl => match us, hl with | [_, _], _ => rfl⟩
  obtain ⟨fd_law_held, F_law_held⟩ := c.def_ 22 (d := df "_law_held" 33) rfl
  have A_law_held : DefAt K mg "_law_held" ["_law_recipe_here", "_law_lot"] (top 33) (He.ga K "_law_held") fd_law_held := ⟨F_law_held, glo "_law_held" (by decide +kernel), F_law_held.bindsN fun _ _ _ _ _ _ us hl => match us, hl with | [_, _], _ => rfl⟩
  obtain ⟨fd_law_lots, F_law_lots⟩ := c.def_ 23 (d := df "_law_lots" 34) rfl
  have A_law_lots : DefAt K mg "_law_lots" ["_law_many"] (top 34) (He.ga K "_law_lots") fd_law_lots := ⟨F_law_lots, glo "_law_lots" (by decide +kernel), F_law_lots.bindsN fun _ _ _ _ _ _ us hl => match us, hl with | [_], _ => rfl⟩
  obtain ⟨fd_law_made, F_law_made⟩ := c.def_ 24 (d := df "_law_made" 35) rfl
  have A_law_made : DefAt K mg "_law_made" ["_law_recipe_here"] (top 35) (He.ga K "_law_made") fd_law_made := ⟨F_law_made, glo "_law_made" (by decide +kernel), F_law_made.bindsN fun _ _ _ _ _ _ us hl => match us, hl with | [_], _ => rfl⟩
  obtain ⟨fd_law_is_lot, F_law_is_lot⟩ := c.def_ 25 (d := df "_law_is_lot" 36) rfl
  have A_law_is_lot : DefAt K mg "_law_is_lot" ["_law_recipe_here", "_law_value"] (top 36) (He.ga K "_law_is_lot") fd_law_is_lot := ⟨F_law_is_lot, glo "_law_is_lot" (by decide +kernel), F_law_is_lot.bindsN fun _ _ _ _ _ _ us hl => match us, hl with | [_, _], _ => rfl⟩
  obtain ⟨fd_law_odd_lots, F_law_odd_lots⟩ := c.def_ 26 (d := df "_law_odd_lots" 37) rfl
  have A_law_odd_lots : DefAt K mg "_law_odd_lots" ["_law_recipe_here"] (top 37) (He.ga K "_law_odd_lots") fd_law_odd_lots := ⟨F_law_odd_lots, glo "_law_odd_lots" (by decide +kernel), F_law_odd_lots.bindsN fun _ _ _ _ _ _ us hl => match us, hl with | [_], _ => rfl⟩
  obtain ⟨fd_law_drawn_lot, F_law_drawn_lot⟩ := c.def_ 27 (d := df "_law_drawn_lot" 38) rfl
  have A_law_drawn_lot : DefAt K mg "_law_drawn_lot" ["_law_purse_here", "_law_recipe_here"] (top 38) (He.ga K "_law_drawn_lot") fd_law_drawn_lot := ⟨F_law_drawn_lot, glo "_law_drawn_lot" (by decide +kernel), F_law_drawn_lot.bindsN fun _ _ _ _ _ _ us hl => match us, hl with | [_, _], _ => rfl⟩
  obtain ⟨fd_law_union, F_law_union⟩ := c.def_ 28 (d := df "_law_union" 39) rfl
  have A_law_union : DefAt K mg "_law_union" ["_law_one", "_law_other"] (top 39) (He.ga K "_law_union") fd_law_union := ⟨F_law_union, glo "_law_union" (by decide +kernel), F_law_union.bindsN fun _ _ _ _ _ _ us hl => match us, hl with | [_, _], _ => rfl⟩
  obtain ⟨fd_law_common, F_law_common⟩ := c.def_ 29 (d := df "_law_common" 40) rfl
  have A_law_common : DefAt K mg "_law_common" ["_law_one", "_law_other"] (top 40) (He.ga K "_law_common") fd_law_common := ⟨F_law_common, glo "_law_common" (by decide +kernel), F_law_common.bindsN fun _ _ _ _ _ _ us hl => match us, hl with | [_, _], _ => rfl⟩
  obtain ⟨fd_law_great, F_law_great⟩ := c.def_ 30 (d := df "_law_great" 41) rfl
  have A_law_great : DefAt K mg "_law_great" ["_law_purse_here"] (top 41) (He.ga K "_law_great") fd_law_great := ⟨F_law_great, glo "_law_great" (by decide +kernel), F_law_great.bindsN fun _ _ _ _ _ _ us hl => match us, hl with | [_], _ => rfl⟩
  obtain ⟨fd_law_lot_right, F_law_lot_right⟩ := c.def_ 31 (d := df "_law_lot_right" 42) rfl
  have A_law_lot_right : DefAt K mg "_law_lot_right" ["_law_recipe_here", "_law_made_here", "_law_lot"] (top 42) (He.ga K "_law_lot_right") fd_law_lot_right := ⟨F_law_lot_right, glo "_law_lot_right" (by decide +kernel), F_law_lot_right.bindsN fun _ _ _ _ _ _ us hl => match us, hl with | [_, _, _], _ => rfl⟩
  obtain ⟨fd_law_two_right, F_law_two_right⟩ := c.def_ 32 (d := df "_law_two_right" 43) rfl
  have A_law_two_right : DefAt K mg "_law_two_right" ["_law_recipe_here", "_law_made_here", "_law_one", "_law_other"] (top 43) (He.ga K "_law_two_right") fd_law_two_right := ⟨F_law_two_right, glo "_law_two_right" (by decide +kernel), F_law_two_right.bindsN fun _ _ _ _ _ _ us hl => match us, hl with | [_, _, _, _], _ => rfl⟩
  obtain ⟨fd_law, F_law⟩ := c.def_ 33 (d := df "law" 44) rfl
  have A_law : DefAt K mg "law" ["_law_script"] (top 44) (He.ga K "law") fd_law := ⟨F_law, glo "law" (by decide +kernel), F_law.bindsN fun _ _ _ _ _ _ us hl => match us, hl with | [_], _ => rfl⟩
  obtain ⟨fd_m_init, F_m_init⟩ := c.def_ 34 (d := mt "Recipe" "__init__" "Recipe.__init__" 12 0) rfl
  have B_m_init : Binds K fd_m_init ["self", "many", "needs"] [] := F_m_init.bindsN fun _ _ _ _ _ _ us hl => match us, hl with | [_, _, _], _ => rfl
  obtain ⟨fd_m_many, F_m_many⟩ := c.def_ 35 (d := mt "Recipe" "many" "Recipe.many" 12 1) rfl
  have A_m_many : MethAt K (He.ga K "Recipe") "many" "Recipe.many" ["self"] (inClass (top 12) 1) _ fd_m_many := ⟨F_m_many, He.meth_ok (last (.meth "Recipe" "many") (by simp)), F_m_many.bindsN fun _ _ _ _ _ _ us hl => match us, hl with | [_], _ => rfl⟩
  obtain ⟨fd_m_needs, F_m_needs⟩ := c.def_ 36 (d := mt "Recipe" "needs" "Recipe.needs" 12 2) rfl
  have A_m_needs : MethAt K (He.ga K "Recipe") "needs" "Recipe.needs" ["self"] (inClass (top 12) 2) _ fd_m_needs := ⟨F_m_needs, He.meth_ok (last (.meth "Recipe" "needs") (by simp)), F_m_needs.bindsN fun _ _ _ _ _ _ us hl => match us, hl with | [_], _ => rfl⟩
  obtain ⟨fd_m_size, F_m_size⟩ := c.def_ 37 (d := mt "Recipe" "size" "Recipe.size" 12 3) rfl
  have A_m_size : MethAt K (He.ga K "Recipe") "size" "Recipe.size" ["self"] (inClass (top 12) 3) _ fd_m_size := ⟨F_m_size, He.meth_ok (last (.meth "Recipe" "size") (by simp)), F_m_size.bindsN fun _ _ _ _ _ _ us hl => match us, hl with | [_], _ => rfl⟩
  obtain ⟨fd_m_eq, F_m_eq⟩ := c.def_ 38 (d := mt "Recipe" "__eq__" "Recipe.__eq__" 12 4) rfl
  have A_m_eq : MethAt K (He.ga K "Recipe") "__eq__" "Recipe.__eq__" ["self", "other"] (inClass (top 12) 4) _ fd_m_eq := ⟨F_m_eq, He.meth_ok (last (.meth "Recipe" "__eq__") (by simp)), F_m_eq.bindsN fun _ _ _ _ _ _ us hl => match us, hl with | [_, _], _ => rfl⟩
  refine ⟨fd_law, fun s v => FunD.bindsA (ps := ["_law_script"]) F_law (fun _ _ _ _ _ _ us hl => match us, hl with | [_], _ => rfl) s [v] rfl, fun base _ _ => ?_⟩
  have e := hfa.symm.trans A_law.at_
  cases e
  have D1 := ok_is_count (P := P) (w := w) (base := base) (C := He.ga K "Recipe") B A_is_count
  have D3a := ok_is_ascending B D1 A_is_ascending
  have D3 := ok_is_ascending_below B D3a A_is_ascending_below
  have D4 := ok_are_needs B D3 A_are_needs
  have M1 := ok_many (P := P) (w := w) (mg := mg) (base := base) R.cl R.na A_m_many
  have M2 := ok_size (P := P) (w := w) (base := base) B R.cl R.na2 A_m_size
  have M3 := ok_needs (P := P) (w := w) (base := base) B R.cl R.na2 A_m_needs
  have MR := ok_init B R.cl R.na R.na2 D1 D4 (He.mkr_ok (last (.mkr "Recipe") (by simp))) GR F_m_init B_m_init
  have D5 := ok_check_recipe (P := P) (w := w) (base := base) B R GR A_check_recipe
  have D5l := ok_check_lot B D3 M2 A_check_lot
  have DN := ok_needed B D5 D5l M3 A_needed
  have DH := ok_held B DN A_held
  have DL := ok_is_lot D5 D3 M2 A_is_lot
  have DE := ok_either_lot (P := P) (w := w) (base := base) (C := He.ga K "Recipe") B A_either_lot
  have DB := ok_both_lot (P := P) (w := w) (base := base) (C := He.ga K "Recipe") B A_both_lot
  have DG := ok_gain B D5 D5l DH DE DB A_gain
  have L1 := ok_law_purse (P := P) (w := w) (base := base) B A_law_purse
  have L2 := ok_law_purses B L1 A_law_purses
  have L3 := ok_law_mixed (P := P) (w := w) (base := base) (C := He.ga K "Recipe") B A_law_mixed
  have L4 := ok_law_draw B L3 A_law_draw
  have L5 := ok_law_one_of (C := He.ga K "Recipe") B L4 A_law_one_of
  have L6 := ok_law_row (C := He.ga K "Recipe") B L4 A_law_row
  have L7 := ok_law_recipe B L4 L5 L6 A_law_recipe
  have L8 := ok_law_made B MR A_law_made
  have L9 := ok_law_union (P := P) (w := w) (base := base) (C := He.ga K "Recipe") B A_law_union
  have LE := ok_law_exact (P := P) (w := w) (base := base) (C := He.ga K "Recipe") B A_law_exact 5
  have LS := ok_law_same (P := P) (w := w) (base := base) (C := He.ga K "Recipe") B A_law_same 4
  have LN := ok_law_needed (P := P) (w := w) (base := base) (C := He.ga K "Recipe") B A_law_needed
  have LH := ok_law_held B LN A_law_held
  have LL := ok_law_lots (P := P) (w := w) (base := base) (C := He.ga K "Recipe") B A_law_lots
  have LI := ok_law_is_lot (P := P) (w := w) (base := base) (C := He.ga K "Recipe") B A_law_is_lot
  have LO := ok_law_odd_lots (P := P) (w := w) (base := base) (C := He.ga K "Recipe") B A_law_odd_lots
  have LD := ok_law_drawn_lot (C := He.ga K "Recipe") B L4 A_law_drawn_lot
  have LC := ok_law_common (P := P) (w := w) (base := base) (C := He.ga K "Recipe") A_law_common
  have LG := ok_law_great L7 A_law_great
  have LR := ok_law_lot_right B DN DH DL LE LN LH A_law_lot_right
  have LT := ok_law_two_right B DG LE LH L9 LC A_law_two_right
  exact ok_law B L2 L7 LG L8 LL LD L5 LR LT LO LS LE DL LI A_law
end Zm
open PySem PySem.W PySem.Calls PyProof.Rows
theorem PySem.Challenge.cw_sparecells_k06_whole_lots_and_what_they_holds : PySem.Challenge.rw_sparecells_k06_whole_lots_and_what_they.Holds := by
  w_on; o_law
  refine HandSHeadRun.head_any (r := Zm.RowK) (q := view (Zm.RowK).prog [44]) (H := Zm.hkK) (ob := Zm.obK) (M := 6000) (loose := Zm.others) (d := HandSHeadRun.topDef (Zm.RowK).prog 44) (kwd := []) Zm.obK_eq
    (by kernel_rfl) (fun s => by kernel_rfl) Zm.runK (by kernel_rfl) (by kernel_rfl) (by kernel_rfl) (by rfl) (by first | assumption | decide +kernel) (by decide +kernel) ⟨rfl, rfl, rfl, rfl, rfl, by decide +kernel⟩ ?hw ?hc
  case hw => w_witness2
  case hc =>
    refine L2.walk_ofE (l := PySem.Challenge.rw_sparecells_k06_whole_lots_and_what_they) (n := 63) (k := 9) (x := "_law_script") (CX := L2.CX0) rfl (by decide) (by kernel_rfl) ⟨rfl, by decide, by decide⟩ ?F (fun _ _ _ _ z => z)
    intro w mg fa h Y G hmg0
    obtain ⟨K, KX, c⟩ := Y
    have hmg : mg ("law" : PySem.Str) = some (.ref fa) := by
      have e : (HandSHeadRun.topDef (Zm.RowK).prog 44).name = ("law" : PySem.Str) := by kernel_rfl
      rw [← e]
      exact hmg0
    obtain ⟨fd, hb, hF⟩ := Zm.factsK (P := (PySem.Challenge.rw_sparecells_k06_whole_lots_and_what_they).prog) (w := w) KX G hmg c
    exact ⟨K, fd, Zm.spLaw K, KX, hb, fun H a ns hl _ hS => ⟨a, ns, rfl, hS, fun _ => rfl⟩, hF⟩

