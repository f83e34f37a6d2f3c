import PyProof.Rows.All
import Wide.All
import OpenK.AllK
import Wide.FinOn
import HandS.ForMost
import HandS.Wide
import HandS.Evl
import HandS.Defaults
import HandS.Style
import HandS.Walk
import HandS.IsInst
import HandS.WideBits
import HandS.TupAny
import KE.GoesEnum
import HandS.TupMul
import KE.KDictDisplayH
import KE.DataMinMax
import HandS.DictComp
import HandS.Conv
import HandS.More
import HandS.CallLocal
import PySem.Challenge.RW_truebeat_k27_whole_states_that_can_be
set_option Elab.async false
set_option linter.all false
set_option maxRecDepth 100000
set_option maxHeartbeats 1000000
namespace TB
open PySem L2 PySem.W
theorem cxK {CX : CXT} {P : Program} {w : World} {K : PySem.W.Frag} {mg : Str → Option Value} {base : Heap} {N : List Str} {qual : Str} {scope : Scope} {f : Addr} {cd : Value} {A : Around} {outer : List Env} {s : Shared} {H : Hp} {E : XK} : (cxOf CX P w K mg base N qual scope f cd A outer s H E).K = K := rfl
/-! ### what is read off by rewriting -/
theorem ex_eq_l {α : Sort _} {a : α} {p : α → Prop} : (∃ x, a = x ∧ p x) = p a := propext ⟨fun ⟨_, e, h⟩ => e ▸ h, fun h => ⟨_, rfl, h⟩⟩
theorem lit_eq {p q : V} : (some (some p) = some (some q)) = (p = q) := by simp
theorem scal_ii {i j : Int} : scal (.int i) (.int j) = true := rfl
theorem scal_bb {i j : Bool} : scal (.bl i) (.bl j) = true := rfl
theorem scal_ss {i j : Str} : scal (.str i) (.str j) = true := rfl
theorem scal_nn {v : V} : scal .non v = scal .non v := rfl
abbrev Ex := Evl.Ex
theorem Ex.refl (H : Hp) : Ex H H := fun _ _ h => h
theorem ex_upd {H : Hp} {p : Addr} {o : HO} (h : H p = none) : Ex H (upd H p o) := Evl.Ex.new h
/-! ### values and their kinds -/
def isI : V → Bool
  | .int i => decide (-(10 ^ 60) < i ∧ i < 10 ^ 60)
  | _ => false
def kinds : List String := ["int", "bool", "NoneType", "str", "list", "tuple", "dict"]
/-- a value whose type is known -/
def Typd (K : PySem.W.Frag) (H : Hp) (v : V) : Prop := ∃ n, n ∈ kinds ∧ TyX K H v (.type n)
theorem Typd.int {K : PySem.W.Frag} {H : Hp} {i : Int} : Typd K H (.int i) := ⟨"int", by decide, .base (.int i)⟩
def vInt : V → Int
  | .int i => i
  | _ => 0
/-- between two bounds -/
def btw (v : V) (lo hi : Int) : Bool := isI v && (decide (lo ≤ vInt v) && decide (vInt v ≤ hi))
theorem isi_to {K : PySem.W.Frag} {H : Hp} {v : V} {n m : String} {b : Bool} {Q : VK} (hv : TyX K H v (.type n)) (e : kitB n m = some b) (h : Q (.bl b) H) : rIsi K [v, .ty m] H Q :=
  ⟨v, .ty m, .type n, .type m, b, rfl, ClsV.ty m, hv, kit_ty e, h⟩
theorem ty_ne {a b : String} (h : Value.type a = Value.type b) (d : a ≠ b) : False := d (by injection h)
theorem isI_not {K : PySem.W.Frag} {H : Hp} {v : V} {n : String} (h : TyX K H v (.type n)) (hn : n ≠ "int") : isI v = false := by
  cases v with
  | int i =>
    generalize hT : Value.type n = T at h
    cases h with
    | base h =>
      cases h with
      | int => exact (ty_ne hT hn).elim
  | _ => rfl
theorem int_of {K : PySem.W.Frag} {H : Hp} {v : V} (h : TyX K H v (.type "int")) : ∃ i, v = .int i := by
  generalize hT : Value.type "int" = T at h
  cases h with
  | base h =>
    cases h with
    | int i => exact ⟨i, rfl⟩
    | ins => cases hT
    | _ => exact (ty_ne hT (by decide)).elim
  | _ => exact (ty_ne hT (by decide)).elim
theorem btw_if {i lo hi : Int} (e : isI (.int i) = true) : btw (.int i) lo hi = if lo ≤ i then decide (i ≤ hi) else false := by
  unfold btw
  rw [e]
  show (true && (decide (lo ≤ i) && decide (i ≤ hi))) = _
  by_cases h : lo ≤ i
  · rw [decide_eq_true h, if_pos h]; rfl
  · rw [decide_eq_false h, if_neg h]; rfl
theorem btw_not {v : V} {lo hi : Int} (e : isI v = false) : btw v lo hi = false := by
  unfold btw
  rw [e]; rfl
/-- an int within its bounds -/
theorem btw_ok {i lo hi : Int} (h1 : lo ≤ i) (h2 : i ≤ hi) (h3 : -(10 ^ 60) < i) (h4 : i < 10 ^ 60) : btw (.int i) lo hi = true := by
  rw [btw_if (decide_eq_true ⟨h3, h4⟩), if_pos h1]
  exact decide_eq_true h2
theorem pow_le {n m : Nat} (h : n ≤ m) : (2 : Int) ^ n ≤ 2 ^ m := by
  have := Nat.pow_le_pow_right (show 0 < 2 by decide) h
  exact_mod_cast this
theorem pow_pos' (n : Nat) : (0 : Int) < 2 ^ n := by
  have := Nat.pow_pos (n := n) (show 0 < 2 by decide)
  exact_mod_cast this
theorem pow64 {n : Nat} (h : n ≤ 64) : (2 : Int) ^ n ≤ 18446744073709551616 := Int.le_trans (pow_le h) (by decide)
/-! ### powers of great numbers -/
def CPowW (i j : Int) : Prop := 0 ≤ j ∧ (Builtin.Int.intBits i : Int) * j ≤ 2 ^ 27
theorem op_powW {X : Cx} : OpR X (binaryOp .Pow) (rI CPowW fun i j => .int (i ^ j.toNat)) := opI fun _ _ _ _ _ _ _ hc q => PyProof.Rows.pow_int hc.1 hc.2 q
/-! ### dice -/
def dice3 (l m n : Int) : HO := .lst [.int l, .int m, .int n]
def DiceAt (H : Hp) (d : Addr) : Prop := ∃ l m n : Int, 0 ≤ l ∧ 0 ≤ m ∧ 0 ≤ n ∧ H d = some (dice3 l m n)
theorem mulw {i j : Int} (a b : Nat) (ha : i.natAbs < 2 ^ a) (hb : j.natAbs < 2 ^ b) (h0 : 0 < a := by decide) (h1 : 0 < b := by decide) (h : a + b ≤ 1000000 := by decide) : CMulW i j := wide_mul ha hb h0 h1 h
theorem divw {i j : Int} (b : Nat) (h : 0 < j) (hb : j.natAbs < 2 ^ b) (h0 : 0 < b := by decide) (h9 : b ≤ 9000 := by decide) : CDivW i j := wide_div h hb h0 h9
def CMulA (i j : Int) : Prop := CMul i j ∨ CMulW i j
theorem op_mulA {X : Cx} : OpR X (binaryOp .Mult) (rI CMulA fun i j => .int (i * j)) := opI fun _ _ _ _ _ _ _ hc q => by
  rcases hc with h | h
  · exact PyProof.Rows.mul_int q h.ok
  · exact PyProof.Rows.mul_int q h.ok
theorem mulL {i j : Int} (h : i.natAbs < 2 ^ 64) : CMulA i j := .inl (.inl ⟨by omega, by omega⟩)
theorem mulR {i j : Int} (h : j.natAbs < 2 ^ 64) : CMulA i j := .inl (.inr ⟨by omega, by omega⟩)
theorem mulA {i j : Int} (a b : Nat) (ha : i.natAbs < 2 ^ a) (hb : j.natAbs < 2 ^ b) (h0 : 0 < a := by decide) (h1 : 0 < b := by decide) (h : a + b ≤ 1000000 := by decide) : CMulA i j := .inr (wide_mul ha hb h0 h1 h)
theorem ixL {K : PySem.W.Frag} {a : Addr} {H : Hp} {xs : List V} {k : Int} {v : V} {Q : VK} (h : SqL K H a xs) (hv : atI xs k = some v) (q : Q v H) : rIxL K (.ref a) (.int k) H Q := ⟨a, xs, k, v, rfl, rfl, h, hv, q⟩
theorem ixM {K : PySem.W.Frag} {a : Addr} {H : Hp} {xs : List V} {k : Int} {v : V} {Q : VK} (h : H a = some (.lst xs)) (hv : atI xs k = some v) (q : Q v H) : rIxL K (.ref a) (.int k) H Q := ixL (SqL.of h) hv q
theorem ixT {K : PySem.W.Frag} {a : Addr} {H : Hp} {xs : List V} {k : Int} {v : V} {Q : VK} (h : SqT K H a xs) (hv : atI xs k = some v) (q : Q v H) : rIxT K (.ref a) (.int k) H Q := ⟨a, xs, k, v, rfl, rfl, h, hv, q⟩
theorem setL {a : Addr} {H : Hp} {xs : List V} {k : Int} {j : Nat} {v : V} {Q : Hp → Prop} (h : H a = some (.lst xs)) (hj : ixN xs.length k = some j) (q : Q (upd H a (.lst (xs.set j v)))) : rSetL (.ref a) (.int k) v H Q := ⟨a, xs, k, j, rfl, rfl, h, hj, q⟩
theorem mod_bd {a b : Int} (h : 0 < b) : 0 ≤ a % b ∧ a % b < b := ⟨Int.emod_nonneg _ (by omega), Int.emod_lt_of_pos _ h⟩
/-! ### loops -/
/-- what is left of a for once its walk is told -/
def Lp (J : It) (g : TG) (tb : TS) (D : Ends) (σ : St) (H : Hp) : Prop := ∃ W : Nat → Nat → St → Hp → Prop, (∃ m, W 0 m σ H) ∧ ∀ i m σ H, W i m σ H →
  (J.stop i H ∧ D.nx σ H) ∨ (J.go i H ∧ ∃ N : St → Hp → Prop, (∀ σ' H', N σ' H' → ∃ m', m' < m ∧ W (i + 1) m' σ' H') ∧ ∀ x H', J.yld i H x H' → g x σ H' fun σ2 H2 => tb { D with nx := N, ct := N, bk := D.nx } σ2 H2)
theorem tFor_eq {wi : TI} {g : TG} {tb : TS} {D : Ends} {σ : St} {H : Hp} : tFor wi g tb D σ H = wi σ H (fun J H1 => Lp J g tb D σ H1) := rfl
section
variable {K : PySem.W.Frag} {g : TG} {tb : TS} {D : Ends} {σ : St} {H : Hp}
theorem lpR (n : Nat) (Pv : Nat → St → Hp → Prop) (h0 : Pv 0 σ H) (hs : ∀ (i : Nat) σ' H', i < n → Pv i σ' H' → g (.int i) σ' H' fun σ2 H2 => tb { D with nx := Pv (i + 1), ct := Pv (i + 1), bk := D.nx } σ2 H2)
    (hd : ∀ σ' H', Pv n σ' H' → D.nx σ' H') : Lp (Itr 0 n) g tb D σ H :=
  for_range (lo := 0) (n := n) Pv h0 (fun i σ' H' hi p => by rw [Int.zero_add]; exact hs i σ' H' hi p) hd
theorem lpR2 (lo : Int) (n : Nat) (Pv : Nat → St → Hp → Prop) (h0 : Pv 0 σ H) (hs : ∀ (i : Nat) σ' H', i < n → Pv i σ' H' → g (.int (lo + i)) σ' H' fun σ2 H2 => tb { D with nx := Pv (i + 1), ct := Pv (i + 1), bk := D.nx } σ2 H2)
    (hd : ∀ σ' H', Pv n σ' H' → D.nx σ' H') : Lp (Itr lo n) g tb D σ H := for_range (lo := lo) (n := n) Pv h0 hs hd
theorem lpL {a : Addr} {xs : List V} (Pv : Nat → St → Hp → Prop) (h0 : Pv 0 σ H) (hl : ∀ i σ' H', i ≤ xs.length → Pv i σ' H' → SqL K H' a xs)
    (hs : ∀ i x σ' H', xs[i]? = some x → Pv i σ' H' → g x σ' H' fun σ2 H2 => tb { D with nx := Pv (i + 1), ct := Pv (i + 1), bk := D.nx } σ2 H2) (hd : ∀ σ' H', Pv xs.length σ' H' → D.nx σ' H') : Lp (Itl K a) g tb D σ H := for_list Pv h0 hl hs hd
theorem lpT {a : Addr} {xs : List V} (Pv : Nat → St → Hp → Prop) (h0 : Pv 0 σ H) (hl : ∀ i σ' H', i ≤ xs.length → Pv i σ' H' → SqT K H' a xs)
    (hs : ∀ i x σ' H', xs[i]? = some x → Pv i σ' H' → g x σ' H' fun σ2 H2 => tb { D with nx := Pv (i + 1), ct := Pv (i + 1), bk := D.nx } σ2 H2) (hd : ∀ σ' H', Pv xs.length σ' H' → D.nx σ' H') : Lp (Itt K a) g tb D σ H := for_tup Pv h0 hl hs hd
/-- for i, x in enumerate(list): the pair is a new tuple -/
theorem lpE {a : Addr} {xs : List V} (Pv : Nat → St → Hp → Prop) (h0 : Pv 0 σ H) (hl : ∀ i σ' H', i ≤ xs.length → Pv i σ' H' → SqL K H' a xs)
    (hs : ∀ i x T σ' H', xs[i]? = some x → Pv i σ' H' → H' T = none → g (.ref T) σ' (upd H' T (.tup [.int i, x])) fun σ2 H2 => tb { D with nx := Pv (i + 1), ct := Pv (i + 1), bk := D.nx } σ2 H2) (hd : ∀ σ' H', Pv xs.length σ' H' → D.nx σ' H') : Lp (Ite K a) g tb D σ H :=
  for_it walk_enum Pv h0 hl (fun i x σ' H' H2 hi p y => by
    obtain ⟨T, x1, x2, rfl, hT, rfl, e1, e2⟩ := y
    cases e1
    exact hs i x2 T σ' H' e2 p hT) hd
/-- for x, y in zip(list, list) -/
theorem lpZ {a b : Addr} {xs ys : List V} (he : xs.length = ys.length) (Pv : Nat → St → Hp → Prop) (h0 : Pv 0 σ H)
    (hl : ∀ i σ' H', i ≤ xs.length → Pv i σ' H' → SqL K H' a xs ∧ SqL K H' b ys)
    (hs : ∀ i x y T σ' H', xs[i]? = some x → ys[i]? = some y → Pv i σ' H' → H' T = none → g (.ref T) σ' (upd H' T (.tup [x, y])) fun σ2 H2 => tb { D with nx := Pv (i + 1), ct := Pv (i + 1), bk := D.nx } σ2 H2) (hd : ∀ σ' H', Pv xs.length σ' H' → D.nx σ' H') : Lp (Itz K a b) g tb D σ H :=
  for_it (walk_zip (n := xs.length) (by omega)) Pv h0 hl (fun i x σ' H' H2 hi p z => by
    obtain ⟨T, x1, x2, rfl, hT, rfl, e1, e2⟩ := z
    exact hs i x1 x2 T σ' H' e1 e2 p hT) hd
end
/-! ### bits -/
def bitsL (n : Nat) (i : Int) : List Int := (List.range n).map fun k => i / 2 ^ k % 2
theorem bitsL_succ (n : Nat) (i : Int) : bitsL (n + 1) i = bitsL n i ++ [i / 2 ^ n % 2] := by
  unfold bitsL
  rw [List.range_succ, List.map_append]; rfl
theorem bitsL_len (n : Nat) (i : Int) : (bitsL n i).length = n := by
  unfold bitsL
  rw [List.length_map, List.length_range]
/-- the number with these bits, the lowest one first -/
def ofB : List Int → Int
  | [] => 0
  | b :: bs => 2 * ofB bs + b
/-- a list of ints at a -/
abbrev LI (K : PySem.W.Frag) (H : Hp) (a : Addr) (ns : List Int) : Prop := SqL K H a (ns.map V.int)

theorem ofB_app (xs : List Int) (b : Int) : ofB (xs ++ [b]) = ofB xs + 2 ^ xs.length * b := by
  induction xs with
  | nil => show 2 * 0 + b = 0 + 1 * b; omega
  | cons x xs ih =>
    show 2 * ofB (xs ++ [b]) + x = 2 * ofB xs + x + 2 ^ (xs.length + 1) * b
    rw [ih, Int.pow_succ, Int.mul_add, Int.mul_comm (2 ^ xs.length) 2, Int.mul_assoc]
    omega
theorem emod_two_mul {i A : Int} (h : 0 < A) : i % (A * 2) = i % A + A * (i / A % 2) := by
  have h1 : i / (A * 2) = i / A / 2 := (Int.ediv_ediv_of_nonneg (Int.le_of_lt h)).symm
  rw [Int.emod_def i (A * 2), Int.emod_def i A, Int.emod_def (i / A) 2, h1, Int.mul_sub, ← Int.mul_assoc]
  omega
theorem ofB_bits (n : Nat) (i : Int) : ofB (bitsL n i) = i % 2 ^ n := by
  induction n with
  | zero => show (0 : Int) = i % 1; omega
  | succ n ih =>
    rw [bitsL_succ, ofB_app, ih, bitsL_len, Int.pow_succ]
    have hp := pow_pos' n
    exact (emod_two_mul (i := i) hp).symm
theorem atI_nat' {α : Type} {xs : List α} {j : Nat} (h : j < xs.length) : atI xs (j : Int) = some xs[j] := atI_nat (by simp [h])
/-- ints read out of a list of ints -/
theorem ints_get {ns : List Int} {i : Nat} {x : V} (h : (ns.map V.int)[i]? = some x) : ∃ z, ns[i]? = some z ∧ x = .int z := by
  rw [List.getElem?_map] at h
  cases e : ns[i]? with
  | none => rw [e] at h; cases h
  | some z => rw [e] at h; exact ⟨z, rfl, (Option.some.inj h).symm⟩
/-! ### data compared -/
def tupD (ns : List Int) : PyData := .tuple (ns.map .int)
def lstD (ns : List Int) : PyData := .list (ns.map .int)
theorem dpAll_ints {K : PySem.W.Frag} {H : Hp} : ∀ ns : List Int, DpAll K H (ns.map V.int) (ns.map PyData.int)
  | [] => .nil
  | n :: ns => .cons (.int n) (dpAll_ints ns)
theorem dp_tup {K : PySem.W.Frag} {H : Hp} {a : Addr} {ns : List Int} (h : SqT K H a (ns.map V.int)) : Dp K H (.ref a) (tupD ns) := .tup h (dpAll_ints ns)
theorem dp_lst {K : PySem.W.Frag} {H : Hp} {a : Addr} {ns : List Int} (h : SqL K H a (ns.map V.int)) : Dp K H (.ref a) (lstD ns) := .lst h (dpAll_ints ns)
theorem eqvAll_ints : ∀ ns ms : List Int, PyData.eqvAll (ns.map PyData.int) (ms.map PyData.int) = decide (ns = ms)
  | [], [] => rfl
  | [], _ :: _ => rfl
  | _ :: _, [] => rfl
  | n :: ns, m :: ms => by
    show ((n == m) && PyData.eqvAll (ns.map PyData.int) (ms.map PyData.int)) = _
    rw [eqvAll_ints ns ms]
    by_cases h : n = m
    · subst h; simp
    · simp [h]
theorem eqv_tupD (ns ms : List Int) : PyData.eqv (tupD ns) (tupD ms) = decide (ns = ms) := eqvAll_ints ns ms
theorem eqv_lstD (ns ms : List Int) : PyData.eqv (lstD ns) (lstD ms) = decide (ns = ms) := eqvAll_ints ns ms
/-! ### heaps that differ at the dice alone -/
def ExD (d : Addr) (H H' : Hp) : Prop := ∀ a o, a ≠ d → H a = some o → H' a = some o
theorem ExD.refl {d : Addr} (H : Hp) : ExD d H H := fun _ _ _ h => h
theorem ExD.trans {d : Addr} {H H1 H2 : Hp} (a : ExD d H H1) (b : ExD d H1 H2) : ExD d H H2 := fun x o n h => b x o n (a x o n h)
theorem exd_upd {d : Addr} {H : Hp} {o : HO} : ExD d H (upd H d o) := fun a u n h => by rw [upd_ne n]; exact h
theorem exd_new {d p : Addr} {H : Hp} {o : HO} (h : H p = none) : ExD d H (upd H p o) := fun a u n e => by rw [upd_ne (ne_of_none e h)]; exact e
theorem ExD.of {d : Addr} {H H' : Hp} (e : Ex H H') : ExD d H H' := fun a o _ h => e a o h
theorem dice_upd {H : Hp} {d : Addr} {l m n : Int} (hl : 0 ≤ l) (hm : 0 ≤ m) (hn : 0 ≤ n) : DiceAt (upd H d (dice3 l m n)) d := ⟨l, m, n, hl, hm, hn, upd_same⟩
theorem DiceAt.ne {H : Hp} {d p : Addr} (h : DiceAt H d) (hp : H p = none) : d ≠ p := by
  obtain ⟨l, m, n, _, _, _, e⟩ := h
  exact ne_of_none e hp
theorem DiceAt.ex {H H' : Hp} {d : Addr} (h : DiceAt H d) (e : Ex H H') : DiceAt H' d := by
  obtain ⟨l, m, n, a, b, c, x⟩ := h
  exact ⟨l, m, n, a, b, c, e _ _ x⟩
theorem DiceAt.new {H : Hp} {d p : Addr} {o : HO} (h : DiceAt H d) (hp : H p = none) : DiceAt (upd H p o) d := h.ex (ex_upd hp)
theorem sq_upd {K : PySem.W.Frag} {H : Hp} {a d : Addr} {o : HO} {xs : List V} (n : a ≠ d) (h : SqL K H a xs) : SqL K (upd H d o) a xs := by
  rcases h with (h | ⟨u, h⟩) | h
  · exact .inl (.inl (by rw [upd_ne n]; exact h))
  · exact .inl (.inr ⟨u, by rw [upd_ne n]; exact h⟩)
  · exact .inr h
theorem ExD.seq {K : PySem.W.Frag} {H H' : Hp} {a d : Addr} {xs : List V} (e : ExD d H H') (n : a ≠ d) (h : SqL K H a xs) : SqL K H' a xs := by
  rcases h with (h | ⟨u, h⟩) | h
  · exact .inl (.inl (e _ _ n h))
  · exact .inl (.inr ⟨u, e _ _ n h⟩)
  · exact .inr h
theorem _root_.Evl.Ex.seq {K : PySem.W.Frag} {H H' : Hp} {a : Addr} {xs : List V} (e : Ex H H') (h : SqL K H a xs) : SqL K H' a xs := Evl.ex_l e h
/-- the signed number of a word -/
def sgn (n : Nat) (i : Int) : Int := i - i / 2 ^ (n - 1) * 2 ^ n
theorem _root_.Evl.Ex.fresh {H H' : Hp} {p : Addr} (e : Evl.Ex H H') (h : H' p = none) : H p = none := Evl.fresh_back e h
/-- one step of a division, bit by bit: x's rest and quotient from those of x / 2 -/
theorem quot_step (x j : Int) (h : 0 < j) : x % j = (if j ≤ 2 * (x / 2 % j) + x % 2 then 2 * (x / 2 % j) + x % 2 - j else 2 * (x / 2 % j) + x % 2) ∧
    x / j = 2 * (x / 2 / j) + (if j ≤ 2 * (x / 2 % j) + x % 2 then 1 else 0) := by
  have h1 := mod_bd (a := x / 2) h
  have h2 := Int.mul_ediv_add_emod (x / 2) j
  have h3 : x % 2 = 0 ∨ x % 2 = 1 := by omega
  have h4 : x = 2 * (x / 2) + x % 2 := by omega
  generalize x / 2 % j = r at *
  generalize x / 2 / j = q at *
  generalize x % 2 = b at *
  generalize x / 2 = y at *
  by_cases hc : j ≤ 2 * r + b
  · rw [if_pos hc, if_pos hc]
    have e : x = (2 * r + b - j) + j * (2 * q + 1) := by rw [Int.mul_add, Int.mul_one, ← Int.mul_assoc, Int.mul_comm j 2, Int.mul_assoc]; omega
    constructor
    · rw [e, Int.add_mul_emod_self_left, Int.emod_eq_of_lt (by omega) (by omega)]
    · rw [e, Int.add_mul_ediv_left _ _ (by omega), Int.ediv_eq_zero_of_lt (by omega) (by omega)]; omega
  · rw [if_neg hc, if_neg hc]
    have e : x = (2 * r + b) + j * (2 * q) := by rw [← Int.mul_assoc, Int.mul_comm j 2, Int.mul_assoc]; omega
    constructor
    · rw [e, Int.add_mul_emod_self_left, Int.emod_eq_of_lt (by omega) (by omega)]
    · rw [e, Int.add_mul_ediv_left _ _ (by omega), Int.ediv_eq_zero_of_lt (by omega) (by omega)]; omega
/-! ### cuts -/
theorem cut_to {xs : List V} (k : Nat) : cutV xs none (some (k : Int)) = xs.take k := by
  unfold cutV
  rw [HT.sIx_nat, HT.sIx_none, List.drop_zero, Nat.sub_zero]
  by_cases h : k ≤ xs.length
  · rw [Nat.min_eq_left h]
  · rw [Nat.min_eq_right (by omega), List.take_of_length_le (Nat.le_refl _), List.take_of_length_le (by omega)]
theorem cut_from {xs : List V} (k : Nat) : cutV xs (some (k : Int)) none = xs.drop k := by
  unfold cutV
  rw [HT.sIx_nat, HT.sIx_none]
  by_cases h : k ≤ xs.length
  · rw [Nat.min_eq_left h, List.take_of_length_le (by rw [List.length_drop]; omega)]
  · rw [Nat.min_eq_right (by omega), Nat.sub_self, List.take_zero, List.drop_of_length_le (by omega)]
theorem bitsL_get {n k : Nat} {i : Int} (h : k < n) : (bitsL n i)[k]? = some (i / 2 ^ k % 2) := by
  unfold bitsL
  rw [List.getElem?_map, List.getElem?_range h]; rfl
theorem bitsL_none {n k : Nat} {i : Int} (h : n ≤ k) : (bitsL n i)[k]? = none := List.getElem?_eq_none (by rw [bitsL_len]; exact h)
theorem pow_split {a b : Nat} (h : a ≤ b) : (2 : Int) ^ b = 2 ^ a * 2 ^ (b - a) := by
  rw [← Int.pow_add]; congr 1; omega
theorem shl_bits (n k : Nat) (i : Int) : (List.replicate k 0 ++ bitsL n i).take n = bitsL n (i * 2 ^ k) := by
  apply List.ext_getElem?
  intro m
  rw [List.getElem?_take]
  by_cases hm : m < n
  · rw [if_pos hm, bitsL_get hm]
    by_cases hk : m < k
    · rw [List.getElem?_append_left (by rw [List.length_replicate]; exact hk), List.getElem?_replicate, if_pos hk]
      have e : k - m = (k - m - 1) + 1 := by omega
      rw [pow_split (Nat.le_of_lt hk), Int.mul_comm (2 ^ m), ← Int.mul_assoc, Int.mul_ediv_cancel _ (Int.ne_of_gt (pow_pos' m)), e, Int.pow_succ, ← Int.mul_assoc, Int.mul_emod_left]
    · rw [List.getElem?_append_right (by rw [List.length_replicate]; omega), List.length_replicate, bitsL_get (by omega)]
      rw [pow_split (show k ≤ m by omega), Int.mul_comm i, Int.mul_ediv_mul_of_pos _ _ (pow_pos' k)]
  · rw [if_neg hm, bitsL_none (by omega)]
theorem shr_bits (n k : Nat) (i : Int) (h0 : 0 ≤ i) (h : i < 2 ^ n) : ofB ((bitsL n i).drop k) = i / 2 ^ k := by
  by_cases hk : k ≤ n
  · have e : (bitsL n i).drop k = bitsL (n - k) (i / 2 ^ k) := by
      apply List.ext_getElem?
      intro m
      rw [List.getElem?_drop]
      by_cases hm : m < n - k
      · rw [bitsL_get hm, bitsL_get (by omega), Int.ediv_ediv_of_nonneg (Int.le_of_lt (pow_pos' k)), Int.pow_add]
      · rw [bitsL_none (by omega), bitsL_none (by omega)]
    rw [e, ofB_bits]
    refine Int.emod_eq_of_lt (Int.ediv_nonneg h0 (Int.le_of_lt (pow_pos' k))) ?_
    refine Int.ediv_lt_of_lt_mul (pow_pos' k) ?_
    rw [Int.mul_comm, ← pow_split hk]; exact h
  · rw [List.drop_of_length_le (by rw [bitsL_len]; omega)]
    rw [Int.ediv_eq_zero_of_lt h0 (Int.lt_of_lt_of_le h (pow_le (by omega)))]; rfl
theorem flat_rep {α : Type} (k : Nat) (x : α) : (List.replicate k [x]).flatten = List.replicate k x := by
  induction k with
  | zero => rfl
  | succ k ih => rw [List.replicate_succ, List.flatten_cons, ih, List.replicate_succ]; rfl
theorem sh_tup (ns : List Int) : SeqAt.shaped (tupD ns) = true := by
  unfold SeqAt.shaped tupD
  have h1 : (PyData.tuple (ns.map .int)).canLay0 = true := PyProof.Rows.canLayAll_ints ns
  have h2 : (PyData.tuple (ns.map .int)).depth = 1 + 0 := by simp only [PyData.depth, PyProof.Rows.depthAll_ints]
  rw [h1, h2]; rfl
theorem sh_lst (ns : List Int) : SeqAt.shaped (lstD ns) = true := by
  unfold SeqAt.shaped lstD
  have h1 : (PyData.list (ns.map .int)).canLay0 = true := PyProof.Rows.canLayAll_ints ns
  have h2 : (PyData.list (ns.map .int)).depth = 1 + 0 := by simp only [PyData.depth, PyProof.Rows.depthAll_ints]
  rw [h1, h2]; rfl
theorem neT {K : PySem.W.Frag} {H : Hp} {a b : Addr} {ns ms : List Int} {Q : VK} (h1 : SqT K H a (ns.map V.int)) (h2 : SqT K H b (ms.map V.int)) (q : Q (.bl (!decide (ns = ms))) H) : rNeD K (.ref a) (.ref b) H Q :=
  ⟨_, _, dp_tup h1, dp_tup h2, sh_tup _, sh_tup _, by rw [eqv_tupD]; exact q⟩
theorem eqT {K : PySem.W.Frag} {H : Hp} {a b : Addr} {ns ms : List Int} {Q : VK} (h1 : SqT K H a (ns.map V.int)) (h2 : SqT K H b (ms.map V.int)) (q : Q (.bl (decide (ns = ms))) H) : rEqD K (.ref a) (.ref b) H Q :=
  ⟨_, _, dp_tup h1, dp_tup h2, sh_tup _, sh_tup _, by rw [eqv_tupD]; exact q⟩
/-- data that is told by itself -/
theorem eqD {K : PySem.W.Frag} {H : Hp} {x y : V} {d e : PyData} {Q : VK} (h1 : Dp K H x d) (h2 : Dp K H y e) (s1 : SeqAt.shaped d = true) (s2 : SeqAt.shaped e = true) {b : Bool} (hb : PyData.eqv d e = b) (q : Q (.bl b) H) : rEqD K x y H Q :=
  ⟨_, _, h1, h2, s1, s2, by rw [hb]; exact q⟩
theorem neD {K : PySem.W.Frag} {H : Hp} {x y : V} {d e : PyData} {Q : VK} (h1 : Dp K H x d) (h2 : Dp K H y e) (s1 : SeqAt.shaped d = true) (s2 : SeqAt.shaped e = true) {b : Bool} (hb : PyData.eqv d e = b) (q : Q (.bl (!b)) H) : rNeD K x y H Q :=
  ⟨_, _, h1, h2, s1, s2, by rw [hb]; exact q⟩
theorem _root_.Evl.Ex.lst {H H' : Hp} {a : Addr} {o : HO} (e : Evl.Ex H H') (h : H a = some o) : H' a = some o := e a o h
/-- the signed numbers' product is that of the words -/
theorem sgn_mul (n : Nat) (i j : Int) : sgn n i * sgn n j % 2 ^ n = i * j % 2 ^ n := by
  have a1 : sgn n i % 2 ^ n = i % 2 ^ n := by unfold sgn; rw [Int.sub_emod, Int.mul_emod_left, Int.sub_zero, Int.emod_emod]
  have a2 : sgn n j % 2 ^ n = j % 2 ^ n := by unfold sgn; rw [Int.sub_emod, Int.mul_emod_left, Int.sub_zero, Int.emod_emod]
  rw [Int.mul_emod, a1, a2, ← Int.mul_emod]
theorem sgn_bd {n : Nat} {i : Int} (h1 : 1 ≤ n) (h0 : 0 ≤ i) (h : i < 2 ^ n) : -(2 ^ n) ≤ sgn n i ∧ sgn n i < 2 ^ n := by
  unfold sgn
  have hq := pow_pos' (n - 1)
  have e : (2 : Int) ^ n = 2 ^ (n - 1) * 2 := by rw [← Int.pow_succ]; congr 1; omega
  have b1 : 0 ≤ i / 2 ^ (n - 1) := Int.ediv_nonneg h0 (Int.le_of_lt hq)
  have b2 : i / 2 ^ (n - 1) < 2 := Int.ediv_lt_of_lt_mul hq (by rw [Int.mul_comm, ← e]; exact h)
  have b3 : i / 2 ^ (n - 1) = 0 ∨ i / 2 ^ (n - 1) = 1 := by omega
  rcases b3 with b | b <;> rw [b] <;> omega
/-! ### the lowest bit -/
theorem op_and1 {X : Cx} : OpR X (binaryOp .BitAnd) (fun x y H Q => ∃ i : Int, x = .int i ∧ y = .int 1 ∧ Q (.int (i % 2)) H) := by
  intro pins s σ H x y v u Q I rx ry h
  obtain ⟨i, rfl, rfl, q⟩ := h
  exact op_andM pins s σ H (.int i) (.int 1) v u Q I rx ry ⟨i, 1, rfl, rfl, q⟩
/-! ### carries -/
def cy (i j c : Int) (k : Nat) : Int := (i % 2 ^ k + j % 2 ^ k + c) / 2 ^ k
def cyL (n : Nat) (i j c : Int) : List Int := (List.range n).map (cy i j c)
theorem cyL_len (n : Nat) (i j c : Int) : (cyL n i j c).length = n := by unfold cyL; rw [List.length_map, List.length_range]
theorem cyL_succ (n : Nat) (i j c : Int) : cyL (n + 1) i j c = cyL n i j c ++ [cy i j c n] := by
  unfold cyL; rw [List.range_succ, List.map_append]; rfl
theorem cyL_get {n k : Nat} {i j c : Int} (h : k < n) : (cyL n i j c)[k]? = some (cy i j c k) := by
  unfold cyL; rw [List.getElem?_map, List.getElem?_range h]; rfl
theorem cy_zero (i j c : Int) : cy i j c 0 = c := by
  unfold cy; rw [Int.pow_zero, Int.emod_one, Int.emod_one, Int.ediv_one]; omega
theorem cy_succ (i j c : Int) (k : Nat) : cy i j c (k + 1) = (i / 2 ^ k % 2 + j / 2 ^ k % 2 + cy i j c k) / 2 := by
  unfold cy
  have hp := pow_pos' k
  rw [Int.pow_succ, emod_two_mul hp, emod_two_mul hp, ← Int.ediv_ediv_of_nonneg (Int.le_of_lt hp)]
  have e : i % 2 ^ k + 2 ^ k * (i / 2 ^ k % 2) + (j % 2 ^ k + 2 ^ k * (j / 2 ^ k % 2)) + c = (i % 2 ^ k + j % 2 ^ k + c) + 2 ^ k * (i / 2 ^ k % 2 + j / 2 ^ k % 2) := by
    rw [Int.mul_add]; omega
  rw [e, Int.add_mul_ediv_left _ _ (Int.ne_of_gt hp)]
  congr 1; omega
/-- the bits of a sum, by its carries -/
theorem sum_bit (i j c : Int) (k : Nat) : (i / 2 ^ k % 2 + j / 2 ^ k % 2 + cy i j c k) % 2 = (i + j + c) / 2 ^ k % 2 := by
  unfold cy
  have hp := pow_pos' k
  have e : i + j + c = (i % 2 ^ k + j % 2 ^ k + c) + 2 ^ k * (i / 2 ^ k + j / 2 ^ k) := by
    have h1 := Int.mul_ediv_add_emod i (2 ^ k)
    have h2 := Int.mul_ediv_add_emod j (2 ^ k)
    rw [Int.mul_add]; omega
  rw [e, Int.add_mul_ediv_left _ _ (Int.ne_of_gt hp)]
  omega
theorem cy_bd {i j c : Int} (h0 : 0 ≤ c) (h1 : c ≤ 1) (k : Nat) : 0 ≤ cy i j c k ∧ cy i j c k ≤ 1 := by
  unfold cy
  have hp := pow_pos' k
  have a := mod_bd (a := i) hp
  have b := mod_bd (a := j) hp
  constructor
  · exact Int.ediv_nonneg (by omega) (Int.le_of_lt hp)
  · have := Int.ediv_lt_of_lt_mul (a := i % 2 ^ k + j % 2 ^ k + c) (b := 2) hp (by omega)
    omega
theorem cy_top {i j c : Int} {n : Nat} (hi0 : 0 ≤ i) (hi : i < 2 ^ n) (hj0 : 0 ≤ j) (hj : j < 2 ^ n) : cy i j c n = (i + j + c) / 2 ^ n := by
  unfold cy; rw [Int.emod_eq_of_lt hi0 hi, Int.emod_eq_of_lt hj0 hj]
/-- words with their top bits turned -/
theorem sgn_turned {n : Nat} {i : Int} (h1 : 1 ≤ n) (h0 : 0 ≤ i) (h : i < 2 ^ n) : sgn n i = (i + 2 ^ (n - 1)) % 2 ^ n - 2 ^ (n - 1) := by
  unfold sgn
  have hq := pow_pos' (n - 1)
  have e : (2 : Int) ^ n = 2 ^ (n - 1) * 2 := by rw [← Int.pow_succ]; congr 1; omega
  have b1 : 0 ≤ i / 2 ^ (n - 1) := Int.ediv_nonneg h0 (Int.le_of_lt hq)
  have b2 : i / 2 ^ (n - 1) < 2 := Int.ediv_lt_of_lt_mul hq (by rw [Int.mul_comm, ← e]; exact h)
  have b3 : i / 2 ^ (n - 1) = 0 ∨ i / 2 ^ (n - 1) = 1 := by omega
  have h2 := Int.mul_ediv_add_emod i (2 ^ (n - 1))
  have h3 := mod_bd (a := i) hq
  rcases b3 with b | b
  · rw [b] at h2 ⊢
    have : (i + 2 ^ (n - 1)) % 2 ^ n = i + 2 ^ (n - 1) := Int.emod_eq_of_lt (by omega) (by omega)
    rw [this]; omega
  · rw [b] at h2 ⊢
    have : (i + 2 ^ (n - 1)) % 2 ^ n = i + 2 ^ (n - 1) - 2 ^ n := by
      rw [show i + 2 ^ (n - 1) = (i + 2 ^ (n - 1) - 2 ^ n) + 2 ^ n by omega, Int.add_emod_right]
      rw [Int.emod_eq_of_lt (by omega) (by omega)]
      omega
    rw [this]; omega
/-! ### comprehensions -/
def Lc (J : It) (g : TG) (tt : TT) (te : TE) (vs : List Nat) (σ : St) (H1 : Hp) (D : Addr) (Qd : Hp → Prop) : Prop := ∃ W : Nat → Nat → Hp → Prop, (∃ m, W 0 m (upd H1 D (.lst []))) ∧ ∀ i m H, W i m H →
  (J.stop i H ∧ Qd H) ∨ (J.go i H ∧ ∃ Nx : Hp → Prop, (∀ H', Nx H' → ∃ m', m' < m ∧ W (i + 1) m' H') ∧ ∀ x H', J.yld i H x H' → g x (wipe σ vs) H' fun σ2 H2 => wipe σ2 vs = wipe σ vs ∧ tt σ2 H2 fun b H3 =>
    if b = true then te σ2 H3 fun y H4 => ∃ acc, H4 D = some (.lst acc) ∧ acc.length < sizeLine ∧ Nx (upd H4 D (.lst (acc ++ [y]))) else Nx H3)
theorem tLc_eq {wi : TI} {g : TG} {tt : TT} {te : TE} {vs : List Nat} {σ : St} {H : Hp} {Q : VK} : tLc wi g tt te vs σ H Q = wi σ H (fun J H1 => ∀ D, H1 D = none → Lc J g tt te vs σ H1 D (fun H' => Q (.ref D) H')) := rfl
/-- what is kept of n turns -/
def kept (n : Nat) (keep : Nat → Bool) (f : Nat → V) : List V := ((List.range n).filter keep).map f
theorem kept_yes {n : Nat} {k : Nat → Bool} {f : Nat → V} (h : k n = true) : kept (n + 1) k f = kept n k f ++ [f n] := by
  unfold kept
  rw [List.range_succ, List.filter_append, List.map_append, List.filter_cons, if_pos h] <;> rfl
theorem kept_no {n : Nat} {k : Nat → Bool} {f : Nat → V} (h : k n = false) : kept (n + 1) k f = kept n k f := by
  unfold kept
  rw [List.range_succ, List.filter_append, List.map_append, List.filter_cons, if_neg (by rw [h]; decide)]
  show _ ++ [] = _
  rw [List.append_nil]
theorem kept_len (n : Nat) (k : Nat → Bool) (f : Nat → V) : (kept n k f).length ≤ n := by
  unfold kept
  rw [List.length_map]
  have h := List.length_filter_le k (List.range n)
  rwa [List.length_range] at h
theorem kept_all {n : Nat} {f : Nat → V} : kept n (fun _ => true) f = (List.range n).map f := by
  unfold kept
  rw [List.filter_eq_self.mpr (fun _ _ => rfl)]
theorem lc_go {J : It} {n : Nat} {G : Hp → Prop} {Y : Nat → Hp → V → Hp → Prop} {g : TG} {tt : TT} {te : TE} {vs : List Nat} {σ : St} {H1 : Hp} {D : Addr} {Qd : Hp → Prop} (w : Walk J n G Y) (keep : Nat → Bool) (f : Nat → V) (hn : n ≤ 50000) (hD : H1 D = none) (hG : ∀ H', Ex H1 H' → G H')
    (hs : ∀ i x H' H2, i < n → Ex H1 H' → Y i H' x H2 → ∀ (Qe : VK) (Qn : Hp → Prop), (∀ H5, Ex H' H5 → keep i = true → Qe (f i) H5) → (∀ H5, Ex H' H5 → keep i = false → Qn H5) →
      g x (wipe σ vs) H2 fun σ2 H3 => wipe σ2 vs = wipe σ vs ∧ tt σ2 H3 fun b H4 => if b = true then te σ2 H4 Qe else Qn H4)
    (hd : ∀ H', Ex H1 H' → H' D = some (.lst (kept n keep f)) → Qd H') : Lc J g tt te vs σ H1 D Qd := by
  refine lc_it w (fun i H' => Ex H1 H' ∧ H' D = some (.lst (kept i keep f))) ⟨ex_upd hD, upd_same⟩ (fun i H' _ p => hG H' p.1) (fun i x H' H2 hi p y => ?_) (fun H' p => hd H' p.1 p.2)
  have hlen : (kept i keep f).length < sizeLine := Nat.lt_of_le_of_lt (kept_len i keep f) (by rw [sizeLine_eq]; omega)
  refine hs i x H' H2 hi p.1 y _ _ (fun H5 e5 hk => ⟨_, e5 _ _ p.2, hlen, (p.1.trans e5).mut hD, ?_⟩) (fun H5 e5 hk => ⟨p.1.trans e5, ?_⟩)
  · rw [upd_same, kept_yes hk]
  · rw [kept_no hk]; exact e5 _ _ p.2
/-- all turns kept -/
theorem lc_map {J : It} {n : Nat} {G : Hp → Prop} {Y : Nat → Hp → V → Hp → Prop} {g : TG} {te : TE} {vs : List Nat} {σ : St} {H1 : Hp} {D : Addr} {Qd : Hp → Prop} (w : Walk J n G Y) (f : Nat → V) (hn : n ≤ 50000) (hD : H1 D = none) (hG : ∀ H', Ex H1 H' → G H')
    (hs : ∀ i x H' H2, i < n → Ex H1 H' → Y i H' x H2 → ∀ (Qe : VK), (∀ H5, Ex H' H5 → Qe (f i) H5) → g x (wipe σ vs) H2 fun σ2 H3 => wipe σ2 vs = wipe σ vs ∧ te σ2 H3 Qe)
    (hd : ∀ H', Ex H1 H' → H' D = some (.lst ((List.range n).map f)) → Qd H') : Lc J g tYes te vs σ H1 D Qd := by
  refine lc_it w (fun i H' => Ex H1 H' ∧ H' D = some (.lst ((List.range i).map f))) ⟨ex_upd hD, upd_same⟩ (fun i H' _ p => hG H' p.1) (fun i x H' H2 hi p y => ?_) (fun H' p => hd H' p.1 p.2)
  have hlen : ((List.range i).map f).length < sizeLine := by rw [List.length_map, List.length_range, sizeLine_eq]; omega
  refine hs i x H' H2 hi p.1 y _ (fun H5 e5 => ⟨_, e5 _ _ p.2, hlen, (p.1.trans e5).mut hD, ?_⟩)
  rw [upd_same, List.range_succ, List.map_append]; rfl
theorem call_repr_bl {X : Cx} : CallR X (.builtin "repr") (fun xs H Q => ∃ b, xs = [.bl b] ∧ Q (.str (if b then "True" else "False")) H) := by
  intro pins s σ H xs us Q I r h
  obtain ⟨b, rfl, q⟩ := h
  obtain ⟨u, rfl, rfl⟩ := vals1 r
  exact PySem.P.repr_of_bool ⟨.str _, H, I.tok _, ⟨_, rfl⟩, q⟩
section
open PySem.Spec PyProof.Rows
/-! ### enumerate over what an iterator begins (a tuple) -/
theorem enumB_new {v : Value} {o : Obj} {G : Heap → Prop} (B : Begins v o G) : Meets (Builtin.«enumerate.__new__» ⟨[.type "enumerate", v], []⟩) (fun _ R s => G s.heap ∧
    R (.ok (.ret (.ref (s.heap.push o).objs.size))) { s with heap := (s.heap.push o).push { cls := .type "enumerate", data := .fields #[.none, .bool false, .ref s.heap.objs.size, rawInt 0, .none, .none] } }) := by
  refine .of_wp fun pr wo Ar R s hh => ?_
  obtain ⟨hp, gs, dr, tk, os⟩ := s
  obtain ⟨g0, hk⟩ := hh
  have sub := sub_enumerate
  have go : ∀ {Ax : Around} {Ex' : Value → Shared → Prop} {Qx : Value → Shared → Prop}, Qx (.ref hp.objs.size) ⟨hp.push o, gs, dr, tk, os⟩ → wpAny (model pr wo) Ax (pyIter v) Qx Ex' ⟨hp, gs, dr, tk, os⟩ :=
    fun z => B.iter pr wo _ _ ⟨hp, gs, dr, tk, os⟩ _ g0 z
  wp_walk using go
  refine wpAny_stack_any fun st => wpAny_pure ?_
  split
  · rename_i c _ _ _ _ _
    cases (c == Value.type "enumerate") <;> (wp_walk using go; exact ⟨_, rfl, hk⟩)
  · wp_walk using go
    exact ⟨_, rfl, hk⟩
theorem enumT_call {prog : Program} {w : World} {A : Around} {E : Value → Shared → Prop} {s : Shared} {t : Addr} {its : Array Value} {Q : Value → Shared → Prop} (ht : s.heap.IsTuple t its)
    (k : ∀ h', IsEnum h' (s.heap.objs.size + 1) s.heap.objs.size 0 .none → h'.IsTupleIter s.heap.objs.size t 0 → (∀ b o, s.heap.get? b = some o → h'.get? b = some o) → Q (.ref (s.heap.objs.size + 1)) { s with heap := h' }) :
    wpAny (model prog w) A (call (.type "enumerate") [.ref t]) Q E s := by
  refine callType_new F.called_enumerate (by decide) (F.typeCall_enumerate_1 _) (F.newCall_enumerate_1 _) (fun ob => F.args_object_init_2 ob _) F.entry_enumerate_new (enumB_new (begins_tuple t its)) ⟨ht, ?_⟩
  generalize ho : ({ cls := .type "tuple_iterator", data := .fields #[.ref t, .int 0 0] } : Obj) = o1
  have fr : o1.isFreed = false := by rw [← ho]; rfl
  have hz : (s.heap.push o1).objs.size = s.heap.objs.size + 1 := Heap.size_push ..
  show _ ∧ _
  rw [hz]
  have he : ((s.heap.push o1).push { cls := .type "enumerate", data := .fields #[.none, .bool false, .ref s.heap.objs.size, rawInt 0, .none, .none] }).get? (s.heap.objs.size + 1) = some { cls := .type "enumerate", data := .fields #[.none, .bool false, .ref s.heap.objs.size, rawInt 0, .none, .none] } := by
    rw [← hz]; exact Heap.get?_push_size _ rfl
  refine ⟨⟨_, he, rfl⟩, k _ he ⟨o1, Heap.get?_push_of_some _ (Heap.get?_push_size _ fr), ?_, ?_⟩ fun b o hb => Heap.get?_push_of_some _ (Heap.get?_push_of_some _ hb)⟩
  · rw [← ho]
  · rw [← ho]; rfl
/-- the tuple at a as it stands at each turn, each item in a new pair -/
def IteT (K : PySem.W.Frag) (a : Addr) : It where
  go := fun i H => ∃ (xs : List V) (x : V), SqT K H a xs ∧ xs[i]? = some x
  yld := fun i H v H' => ∃ q x, v = .ref q ∧ H q = none ∧ H' = upd H q (.tup [.int (i : Nat), x]) ∧ ∀ xs, SqT K H a xs → xs[i]? = some x
  stop := fun i H => ∃ xs : List V, SqT K H a xs ∧ xs.length = i
theorem turn_enumT {P : Program} {w : World} {K : PySem.W.Frag} {elts : List Expr} {kk : Nat} {tp : Pos} (a e it : Addr) :
    Turn P w K (.Tuple elts kk tp) (IteT K a) [e, it] e (fun i h => (∃ old, IsEnum h e it ((i : Nat) : Int) old) ∧ h.IsTupleIter it a i ∧ e ≠ it ∧ a ≠ it ∧ a ≠ e) where
  mem := List.mem_cons_self ..
  obj := fun i h st b hb => by
    obtain ⟨⟨old, he⟩, ⟨o, ho, _, hd⟩, _⟩ := st
    rcases List.mem_cons.mp hb with z | z
    · rw [z]; exact ⟨_, he, fun v q => nomatch q⟩
    · rw [List.mem_singleton.mp z]; exact ⟨o, ho, fun v q => by rw [hd] at q; cases q⟩
  keep := fun i h h' st k => ⟨let ⟨old, he⟩ := st.1; ⟨old, k e (by simp) _ he⟩, st.2.1.at fun o q => k it (by simp) o q, st.2.2⟩
  item := by
    intro X hP hw hK hc i pins s σ H E I hf st hg
    subst hP hw hK
    obtain ⟨⟨old, he⟩, hit, hne, na, nb⟩ := st
    obtain ⟨xs, x, hq, hx⟩ := hg
    obtain ⟨its, rv, p, hz⟩ := I.tuple hq
    obtain ⟨u, hu, ru⟩ := rv.get hx
    have le : e < s.heap.objs.size := Heap.lt_size he
    have li : it < s.heap.objs.size := by obtain ⟨_, q, _⟩ := hit; exact Heap.lt_size q
    have hi : i < its.toArray.size := by
      have := (List.getElem?_eq_some_iff.mp hu).1
      simpa using this
    have hh : X.A.in1.handled = none := I.ok.hd hc
    refine wpAny_pyNext_enum_itemD (Draws.tuple hh it a na its.toArray) he ⟨hit, p⟩ hi hne (by simp; exact ⟨hne, Ne.symm nb⟩) fun x' h' tk hP ho hst hT hsz hk => ?_
    have ex : x' = u := by
      have h2 : its[i]? = some x' := by simpa using hP
      rw [hu] at h2; exact (Option.some.inj h2).symm
    subst ex
    refine ⟨_, rfl, wpAny_letOwnedTupleGo_enum (s := { s with heap := h', toks := tk + 1 }) ho fun h2 he2 sb => ?_⟩
    have hT2 : h2.get? s.heap.objs.size = some { cls := .type "tuple", data := .seq #[.int i tk, x'] } := (sb.2 _ (Nat.ne_of_gt le)).trans hT
    have new : ObjOk X.prog X.w (upd H s.heap.objs.size (.tup [.int (i : Nat), x])) h2 s.heap.objs.size (.tup [.int (i : Nat), x]) :=
      ⟨(by decide : 2 ≤ sizeLine), [.int i tk, x'], .cons ⟨_, rfl⟩ (.cons ru .nil), _, hT2, rfl, _, rfl⟩
    have I1 : Inv X pins σ (upd H s.heap.objs.size (.tup [.int (i : Nat), x])) { s with heap := h2, toks := tk + 1 } :=
      I.turnedNew (ch := [e, it]) (fun b ob hb q => (sb.2 b (fun z => hb (by simp [z]))).trans (hk b ob (fun z => hb (by simp [z])) (fun z => hb (by simp [z])) q)) hf (Nat.le_refl _) new
    refine ⟨.ref s.heap.objs.size, _, I1, rfl, ⟨_, x, rfl, I.hok.fresh (Nat.le_refl _), rfl, fun ys hy => by rw [I.tuple_inj hy hq]; exact hx⟩, ⟨⟨x', ?_⟩, hst.1.at fun o q => (sb.2 it (Ne.symm hne)).trans q, hne, na, nb⟩, fun b hb => ?_⟩
    · rw [show ((i + 1 : Nat) : Int) = (i : Int) + 1 by omega]; exact he2
    · have lb : b < s.heap.objs.size := by
        rcases List.mem_cons.mp hb with z | z
        · rw [z]; exact le
        · rw [List.mem_singleton.mp z]; exact li
      rw [upd_ne (Nat.ne_of_lt lb)]
      exact (hf b hb).1
  done := by
    intro X hP hw hK hc i pins s σ H E I hf st hg
    subst hP hw hK
    obtain ⟨⟨old, he⟩, hit, hne, na, nb⟩ := st
    obtain ⟨xs, hq, hx⟩ := hg
    obtain ⟨its, rv, p, hz⟩ := I.tuple hq
    obtain ⟨f0, f1, f2, f3, f4, f5⟩ := hf it (by simp)
    have hl := rv.length
    have hh : X.A.in1.handled = none := I.ok.hd hc
    have hs : its.toArray.size = i := by rw [List.size_toArray]; omega
    exact wpAny_pyNext_enum_endD (Draws.tuple hh it a na its.toArray) he ⟨by rw [hs]; exact hit, p⟩ fun h' eb => ⟨rfl, I.turned (t' := s.toks) (fun b o hb q => eb b o hb q) f0 f1 f3 f4 f5⟩
  self := fun A i s Q E st h => let ⟨⟨_, he⟩, _⟩ := st; wpAny_pyIter_enum he h
def iEnumT (K : PySem.W.Frag) (ta : TA) : TI := fun σ H R => ta σ H fun vs H1 => ∃ a xs, vs = [.ref a] ∧ SqT K H1 a xs ∧ R (IteT K a) H1
theorem pi_enumT {X : Cx} {e : Expr} {ta : TA} {p pos tp : Pos} {elts : List Expr} {kk : Nat} (hg : Gl X "enumerate") (hm : X.mg "enumerate" = none) (ha : PA X [e] ta) (hs : starEach [e] X.env = [(false, eval e X.env)] := by rfl) :
    PI X (.Tuple elts kk tp) (.Call (.Name "enumerate" p) [e] [] pos) (iEnumT X.K ta) := by
  refine ⟨fun pins s σ H R I h => ?_⟩
  refine Call_ (ld_blt I hg hm boot_enumerate (PyProof.Rows.callWith_type1 (thn (ha.run pos pins s σ H _ I h) fun us s1 ⟨vs, H1, I1, r1, a, xs, ex, hq, q⟩ => ?_) hs rfl))
  subst ex
  obtain ⟨u, rfl, ru⟩ := vals1 r1
  cases ru
  obtain ⟨its, rv, p', hz⟩ := I1.tuple hq
  refine enumT_call (its := its.toArray) p' fun h' he hit hk => wpAny_pyIter_enum he ?_
  have I2 : Inv X pins σ H1 { s1 with heap := h' } := I1.kept (t' := s1.toks) hk
  have la : a < s1.heap.objs.size := IsTup.lt p'
  refine ⟨s1.heap.objs.size + 1, [s1.heap.objs.size + 1, s1.heap.objs.size], _, _, H1, rfl, I2, turn_enumT a (s1.heap.objs.size + 1) s1.heap.objs.size, ⟨⟨.none, he⟩, hit, Nat.succ_ne_self _, Nat.ne_of_lt la, Nat.ne_of_lt (Nat.lt_succ_of_lt la)⟩, fun b hb => ?_, q⟩
  have lb : s1.heap.objs.size ≤ b := by
    rcases List.mem_cons.mp hb with z | z
    · rw [z]; exact Nat.le_add_right _ _
    · rw [List.mem_singleton.mp z]; exact Nat.le_refl _
  exact I1.fpOk lb (I1.hok.fresh lb)
theorem walk_enumT {K : PySem.W.Frag} {a : Addr} {xs : List V} : Walk (IteT K a) xs.length (fun H => SqT K H a xs) (YPair (fun i => some (.int (i : Nat))) (fun i => xs[i]?)) := by
  refine ⟨fun i _ hi q => ⟨xs, xs[i], q, by simp [hi]⟩, fun _ q => ⟨xs, q, rfl⟩, fun i H v H' _ q y => ?_⟩
  obtain ⟨T, x, h1, h2, h3, h4⟩ := y
  exact ⟨T, .int (i : Nat), x, h1, h2, h3, rfl, h4 xs q⟩
end
/-- for i, x in enumerate(tuple) -/
theorem lpET {K : PySem.W.Frag} {g : TG} {tb : TS} {D : Ends} {σ : St} {H : Hp} {a : Addr} {xs : List V} (Pv : Nat → St → Hp → Prop) (h0 : Pv 0 σ H) (hl : ∀ i σ' H', i ≤ xs.length → Pv i σ' H' → SqT K H' a xs)
    (hs : ∀ i x T σ' H', xs[i]? = some x → Pv i σ' H' → H' T = none → g (.ref T) σ' (upd H' T (.tup [.int i, x])) fun σ2 H2 => tb { D with nx := Pv (i + 1), ct := Pv (i + 1), bk := D.nx } σ2 H2) (hd : ∀ σ' H', Pv xs.length σ' H' → D.nx σ' H') : Lp (IteT K a) g tb D σ H :=
  for_it walk_enumT Pv h0 hl (fun i x σ' H' H2 hi p y => by
    obtain ⟨T, x1, x2, rfl, hT, rfl, e1, e2⟩ := y
    cases e1
    exact hs i x2 T σ' H' e2 p hT) hd
theorem whW {c : TT} {tb : TS} {D : Ends} {σ : St} {H : Hp} (W : Nat → St → Hp → Prop) (m0 : Nat) (h0 : W m0 σ H)
    (hs : ∀ m σ' H', W m σ' H' → c σ' H' fun b H1 => if b = true then ∃ N : St → Hp → Prop, (∀ s2 H2, N s2 H2 → ∃ m', m' < m ∧ W m' s2 H2) ∧ tb { D with nx := N, ct := N, bk := D.nx } σ' H1 else D.nx σ' H1) : tWhile c tb D σ H := ⟨W, ⟨m0, h0⟩, hs⟩
/-! ### parts put together -/
def joinP : List (Nat × Int) → Int
  | [] => 0
  | p :: r => p.2 + 2 ^ p.1 * joinP r
def wideP (ps : List (Nat × Int)) : Nat := (ps.map (·.1)).sum
theorem wideP_app (ps : List (Nat × Int)) (p : Nat × Int) : wideP (ps ++ [p]) = wideP ps + p.1 := by
  unfold wideP; rw [List.map_append, List.sum_append]; simp
theorem joinP_app (ps : List (Nat × Int)) (p : Nat × Int) : joinP (ps ++ [p]) = joinP ps + 2 ^ wideP ps * p.2 := by
  induction ps with
  | nil => show p.2 + 2 ^ p.1 * 0 = 0 + 1 * p.2; omega
  | cons q r ih =>
    show q.2 + 2 ^ q.1 * joinP (r ++ [p]) = q.2 + 2 ^ q.1 * joinP r + 2 ^ (wideP (q :: r)) * p.2
    have e : wideP (q :: r) = q.1 + wideP r := by unfold wideP; rw [List.map_cons, List.sum_cons]
    rw [ih, e, Int.pow_add, Int.mul_add, ← Int.mul_assoc]; omega
/-- each a pair (width, word) that stands in the heap -/
def PartsAt (H : Hp) (xs : List V) (ps : List (Nat × Int)) : Prop := Paired (fun (v : V) (p : Nat × Int) => (∃ q, v = .ref q ∧ H q = some (.tup [.int p.1, .int p.2])) ∧ 1 ≤ p.1 ∧ p.1 ≤ 32 ∧ 0 ≤ p.2 ∧ p.2 < 2 ^ p.1) xs ps
theorem PartsAt.ex {H H' : Hp} {xs : List V} {ps : List (Nat × Int)} (e : Ex H H') (h : PartsAt H xs ps) : PartsAt H' xs ps := Paired.mapP h fun _ _ ⟨⟨q, e1, e2⟩, r⟩ => ⟨⟨q, e1, e _ _ e2⟩, r⟩
theorem Paired.at' {α β : Type} {R : α → β → Prop} : ∀ {xs : List α} {ys : List β} {i : Nat} {x : α}, Paired R xs ys → xs[i]? = some x → ∃ y, ys[i]? = some y ∧ R x y
  | _, _, _, _, .nil, h => by simp at h
  | _, _, 0, _, .cons r _, h => by simp at h; subst h; exact ⟨_, rfl, r⟩
  | _, _, i + 1, x, .cons _ t, h => by
    obtain ⟨y, h1, h2⟩ := Paired.at' (i := i) t (by simpa using h)
    exact ⟨y, by simpa using h1, h2⟩
theorem Paired.app' {α β : Type} {R : α → β → Prop} : ∀ {xs : List α} {ys : List β} {x : α} {y : β}, Paired R xs ys → R x y → Paired R (xs ++ [x]) (ys ++ [y])
  | _, _, _, _, .nil, r => .cons r .nil
  | _, _, _, _, .cons q t, r => .cons q (Paired.app' t r)
theorem Paired.len' {α β : Type} {R : α → β → Prop} : ∀ {xs : List α} {ys : List β}, Paired R xs ys → xs.length = ys.length
  | _, _, .nil => rfl
  | _, _, .cons _ t => congrArg Nat.succ (Paired.len' t)
theorem range_take {α : Type} (xs : List α) (d : α) : (List.range xs.length).map (fun i => xs.getD i d) = xs := by
  apply List.ext_getElem
  · simp
  · intro i h1 h2
    have h3 : i < xs.length := by simpa using h1
    simp [h3]
theorem all_true {K : PySem.W.Frag} {H : Hp} {D : Addr} {n : Nat} {f : Nat → V} {Q : VK} (h : H D = some (.lst ((List.range n).map f))) (hf : ∀ i, i < n → f i = .bl true) (q : Q (.bl true) H) : rAll K [.ref D] H Q := by
  refine ⟨D, (List.range n).map fun _ => true, rfl, .of ?_, ?_⟩
  · rw [h, List.map_map]
    congr 2
    apply List.map_congr_left
    intro i hi
    exact hf i (List.mem_range.mp hi)
  · have : ((List.range n).map fun _ => true).all id = true := by simp
    rw [this]; exact q
theorem ofB_sum (bs : List Int) : ((List.range bs.length).map fun k => bs.getD k 0 * 2 ^ k).sum = ofB bs := by
  have gen : ∀ (n : Nat), n ≤ bs.length → ((List.range n).map fun k => bs.getD k 0 * 2 ^ k).sum = ofB (bs.take n) := by
    intro n
    induction n with
    | zero => intro _; rfl
    | succ n ih =>
      intro hn
      have e : bs.take (n + 1) = bs.take n ++ [bs.getD n 0] := by
        rw [List.take_add_one, List.getElem?_eq_getElem (by omega)]
        simp [List.getD, List.getElem?_eq_getElem (show n < bs.length by omega)]
      rw [List.range_succ, List.map_append, List.sum_append, ih (by omega), e, ofB_app, List.length_take, Nat.min_eq_left (by omega)]
      simp [Int.mul_comm]
  rw [gen bs.length (Nat.le_refl _), List.take_length]
/-! ### rules whose fragment is told apart (within comprehensions) -/
section
variable {X : Cx} {K : PySem.W.Frag}
theorem k_ix_tup (e : X.K = K) : IxR X (rIxT K) := e ▸ ix_tup
theorem k_ix_list (e : X.K = K) : IxR X (rIxL K) := e ▸ ix_list
theorem k_call_isi (e : X.K = K) : CallR X (.builtin "isinstance") (rIsi K) := e ▸ call_isi
theorem k_call_len (e : X.K = K) : CallR X (.builtin "len") (fun xs H Q => ∃ p ys, xs = [.ref p] ∧ (SqL K H p ys ∨ SqT K H p ys) ∧ Q (.int ys.length) H) := e ▸ call_len_seq
theorem k_call_tuple (e : X.K = K) : CallR X (.type "tuple") (fun xs H Q => ∃ p ys, xs = [.ref p] ∧ ((SqL K H p ys ∧ ∀ l, H l = none → Q (.ref l) (upd H l (.tup ys))) ∨ (SqT K H p ys ∧ Q (.ref p) H))) := e ▸ call_tuple_of
theorem k_op_in (e : X.K = K) : OpR X (compareOp .In) (rIn K false) := e ▸ op_in_seq
theorem k_op_notin (e : X.K = K) : OpR X (compareOp .NotIn) (rIn K true) := e ▸ op_notIn_seq
theorem k_op_eqD (hu : X.A.units + 64 < cLine) (e : X.K = K) : OpR X (compareOp .Eq) (rEqD K) := e ▸ op_eqD hu
theorem k_op_neD (hu : X.A.units + 64 < cLine) (e : X.K = K) : OpR X (compareOp .NotEq) (rNeD K) := e ▸ op_neD hu
theorem k_sl_list (e : X.K = K) : SlR X (rSlL K) := e ▸ sl_list
theorem k_sl_tup (e : X.K = K) : SlR X (rSlT K) := e ▸ sl_tup
end
section
open PySem.Spec PyProof.Rows
/-! ### a tuple taken once, taken not at all -/
theorem tup_times_one (l : Addr) (items : Array Value) (n : Nat) (dd : Option Addr) (sl : Array (Option Value)) (u : Tok) :
    Meets (Builtin.«tuple.__mul__» ⟨[.ref l, .int 1 u], []⟩) (fun _ R s => s.heap.get? l = some { cls := .type "tuple", dict := dd, data := .seq items n, slots := sl } ∧ R (.ok (.ret (Value.ref l))) s) := by
  refine .of_wp fun pr wo Ar R s hh => ?_
  obtain ⟨hp, gs, dr, tk, os⟩ := s
  obtain ⟨hl, hk⟩ := hh
  have f1 := AutoSeq1.idx_int
  have c1 : (items.isEmpty || (1 : Int) == 1) = true := by simp
  wp_walk using AutoSeq1.wpAny_loadPart' hl
  exact ⟨_, rfl, hk⟩
theorem tup_times_no (l : Addr) (items : Array Value) (n : Nat) (dd : Option Addr) (sl : Array (Option Value)) (u : Tok) (hi : items.isEmpty = false) :
    Meets (Builtin.«tuple.__mul__» ⟨[.ref l, .int 0 u], []⟩) (fun _ R s => s.heap.get? l = some { cls := .type "tuple", dict := dd, data := .seq items n, slots := sl } ∧ R (.ok (.ret (Value.ref s.heap.objs.size))) { s with heap := s.heap.push { cls := Value.type "tuple", data := Data.seq #[] } }) := by
  refine .of_wp fun pr wo Ar R s hh => ?_
  obtain ⟨hp, gs, dr, tk, os⟩ := s
  obtain ⟨hl, hk⟩ := hh
  have f1 := AutoSeq1.idx_int
  have c1 : (items.isEmpty || (0 : Int) == 1) = false := by rw [hi]; rfl
  wp_walk using AutoSeq1.wpAny_loadPart' hl
  all_goals (first | exact ⟨_, rfl, hk⟩ | (refine wpAny_ite_false (by rw [c1]; exact Bool.false_ne_true) ?_) | (refine wpAny_ite_false (decide_eq_false (by rw [c1]; exact Bool.false_ne_true)) ?_) | skip)
def rRepA (K : PySem.W.Frag) : R2 := fun x y H Q => ∃ l k xs, x = .ref l ∧ y = .int k ∧ SqT K H l xs ∧ xs ≠ [] ∧ 0 ≤ k ∧ k ≤ 1000 ∧ xs.length ≤ 1000 ∧ (k = 1 → Q (.ref l) H) ∧ (k ≠ 1 → ∀ p, H p = none → Q (.ref p) (upd H p (.tup (List.replicate k.toNat xs).flatten)))
theorem op_repA {X : Cx} : OpR X (binaryOp .Mult) (rRepA X.K) := by
  intro pins s σ H x y v u Q I rx ry h
  obtain ⟨l, k, xs, rfl, rfl, hT, hne, h0, h1, hz, q1, q2⟩ := h
  by_cases h2 : 2 ≤ k
  · exact op_repT pins s σ H _ _ v u Q I rx ry ⟨l, k, xs, rfl, rfl, hT, hne, h2, h1, hz, q2 (by omega)⟩
  cases rx
  obtain ⟨t, rfl⟩ := ry
  obtain ⟨its, r, ⟨⟨cl, dd, da, sl⟩, ho, hc, n, hd⟩, hs⟩ := I.tuple hT
  simp only at hc hd
  subst hc hd
  have hi : its.toArray.isEmpty = false := by
    cases its with
    | nil => exact absurd (List.eq_nil_of_length_eq_zero r.length) hne
    | cons a b => rfl
  have road : ∀ {Qx : Value → Shared → Prop}, wpAny (model X.prog X.w) X.A (call (.builtin "tuple.__mul__") [.ref l, .int k t]) Qx X.xe s → wpAny (model X.prog X.w) X.A (binaryOp .Mult (.ref l) (.int k t)) Qx X.xe s := fun hx =>
    wpAny_binaryOp_repeat_ref (T := "tuple") (U := "int") (by decide) ⟨_, ho, rfl⟩ (fun s' => typeIs_int s' k t) noFill_tuple_mul F.fills_int_mul F.slot_int_rmul repeat_tuple F.slot_int_index.lookup
      (call_meets F.slot_int_rmul (typeIs_int s k t) F.entry_int_rmul (F.args_int_rmul_2 _ _) (int_rmul_tuple k t l its.toArray n dd sl) ⟨ho, rfl, ⟨_, ho, rfl⟩, hx⟩)
  have hk : k = 0 ∨ k = 1 := by omega
  rcases hk with rfl | rfl
  · refine road (call_meets F.slot_tuple_mul ⟨_, ho, rfl⟩ F.entry_tuple_mul (F.args_tuple_mul_2 _ _) (tup_times_no l its.toArray n dd sl t hi) ⟨ho, ?_⟩)
    refine ⟨.ref s.heap.objs.size, _, I.laid (t' := s.toks) (o := .tup []) (fun b ob z => Heap.get?_push_of_some _ z) (Nat.le_refl _) ?_, rfl, q2 (by decide) _ (I.hok.fresh (Nat.le_refl _))⟩
    exact ⟨Nat.zero_le _, [], .nil, IsTup.new _ _⟩
  · refine road (call_meets F.slot_tuple_mul ⟨_, ho, rfl⟩ F.entry_tuple_mul (F.args_tuple_mul_2 _ _) (tup_times_one l its.toArray n dd sl t) ⟨ho, ?_⟩)
    exact ⟨.ref l, H, I, rfl, q1 rfl⟩
end
/-! ### signed numbers of wider words; parts of lists -/
theorem sgn_if {n : Nat} {i : Int} (h1 : 1 ≤ n) (h0 : 0 ≤ i) (h : i < 2 ^ n) : sgn n i = if 2 ^ n ≤ 2 * i then i - 2 ^ n else i := by
  unfold sgn
  have hq := pow_pos' (n - 1)
  have e : (2 : Int) ^ n = 2 ^ (n - 1) * 2 := by rw [← Int.pow_succ]; congr 1; omega
  by_cases hc : 2 ^ n ≤ 2 * i
  · have : i / 2 ^ (n - 1) = 1 := by
      have h5 : i = (i - 2 ^ (n - 1)) + 2 ^ (n - 1) * 1 := by omega
      rw [h5, Int.add_mul_ediv_left _ _ (Int.ne_of_gt hq), Int.ediv_eq_zero_of_lt (by omega) (by omega)]; omega
    rw [if_pos hc, this, Int.one_mul]
  · have : i / 2 ^ (n - 1) = 0 := Int.ediv_eq_zero_of_lt h0 (by omega)
    rw [if_neg hc, this, Int.zero_mul, Int.sub_zero]
theorem sgn_half {n : Nat} {i : Int} (h1 : 1 ≤ n) (h0 : 0 ≤ i) (h : i < 2 ^ n) : -(2 ^ (n - 1)) ≤ sgn n i ∧ sgn n i < 2 ^ (n - 1) := by
  have e : (2 : Int) ^ n = 2 ^ (n - 1) * 2 := by rw [← Int.pow_succ]; congr 1; omega
  rw [sgn_if h1 h0 h]
  by_cases hc : 2 ^ n ≤ 2 * i
  · rw [if_pos hc]; omega
  · rw [if_neg hc]; omega
theorem sgn_mod {n : Nat} {i : Int} (h0 : 0 ≤ i) (h : i < 2 ^ n) : sgn n i % 2 ^ n = i := by
  unfold sgn; rw [Int.sub_emod, Int.mul_emod_left, Int.sub_zero, Int.emod_emod, Int.emod_eq_of_lt h0 h]
theorem sgn_back {m : Nat} {z : Int} (h1 : 1 ≤ m) (h2 : -(2 ^ (m - 1)) ≤ z) (h3 : z < 2 ^ (m - 1)) : sgn m (z % 2 ^ m) = z := by
  have hq := pow_pos' m
  have e : (2 : Int) ^ m = 2 ^ (m - 1) * 2 := by rw [← Int.pow_succ]; congr 1; omega
  have b := mod_bd (a := z) hq
  rw [sgn_if h1 b.1 b.2]
  by_cases hz : 0 ≤ z
  · rw [Int.emod_eq_of_lt hz (by omega), if_neg (by omega)]
  · have : z % 2 ^ m = z + 2 ^ m := by
      rw [show z = (z + 2 ^ m) + 2 ^ m * (-1) by omega, Int.add_mul_emod_self_left, Int.emod_eq_of_lt (by omega) (by omega)]; omega
    rw [this, if_pos (by omega)]; omega
theorem long_bits {n m : Nat} {i : Int} (h1 : 1 ≤ n) (hm : n ≤ m) (h0 : 0 ≤ i) (h : i < 2 ^ n) : bitsL n i ++ List.replicate (m - n) (i / 2 ^ (n - 1) % 2) = bitsL m (sgn n i) := by
  apply List.ext_getElem?
  intro k
  by_cases hk : k < n
  · rw [List.getElem?_append_left (by rw [bitsL_len]; exact hk), bitsL_get hk, bitsL_get (by omega)]
    unfold sgn
    have e : i - i / 2 ^ (n - 1) * 2 ^ n = i + 2 ^ k * (-(i / 2 ^ (n - 1) * 2 ^ (n - k))) := by
      have e1 : i / 2 ^ (n - 1) * 2 ^ n = 2 ^ k * (i / 2 ^ (n - 1) * 2 ^ (n - k)) := by
        rw [pow_split (Nat.le_of_lt hk), Int.mul_left_comm]
      rw [e1, Int.mul_neg]; omega
    rw [e, Int.add_mul_ediv_left _ _ (Int.ne_of_gt (pow_pos' k))]
    have e2 : (2 : Int) ^ (n - k) = 2 ^ (n - k - 1) * 2 := by rw [← Int.pow_succ]; congr 1; omega
    rw [e2, ← Int.mul_assoc]
    congr 1
    omega
  · rw [List.getElem?_append_right (by rw [bitsL_len]; omega), bitsL_len, List.getElem?_replicate]
    by_cases hk2 : k < m
    · rw [if_pos (by omega), bitsL_get hk2]
      have hs := sgn_half h1 h0 h
      have hp : (2 : Int) ^ (n - 1) ≤ 2 ^ k := pow_le (by omega)
      have e : (2 : Int) ^ n = 2 ^ (n - 1) * 2 := by rw [← Int.pow_succ]; congr 1; omega
      rw [sgn_if h1 h0 h] at hs ⊢
      by_cases hc : 2 ^ n ≤ 2 * i
      · rw [if_pos hc] at hs ⊢
        have t1 : i / 2 ^ (n - 1) = 1 := by
          have h5 : i = (i - 2 ^ (n - 1)) + 2 ^ (n - 1) * 1 := by omega
          rw [h5, Int.add_mul_ediv_left _ _ (Int.ne_of_gt (pow_pos' (n - 1))), Int.ediv_eq_zero_of_lt (by omega) (by omega)]; omega
        have t2 : (i - 2 ^ n) / 2 ^ k = -1 := by
          have h5 : i - 2 ^ n = (i - 2 ^ n + 2 ^ k) + 2 ^ k * (-1) := by omega
          rw [h5, Int.add_mul_ediv_left _ _ (Int.ne_of_gt (pow_pos' k)), Int.ediv_eq_zero_of_lt (by omega) (by omega)]; omega
        rw [t1, t2]; rfl
      · rw [if_neg hc] at hs ⊢
        rw [Int.ediv_eq_zero_of_lt h0 (by omega), Int.ediv_eq_zero_of_lt h0 (by omega)]
    · rw [if_neg (by omega), bitsL_none (by omega)]
theorem cut_mid {xs : List V} (a b : Nat) : cutV xs (some (a : Int)) (some ((a : Int) + (b : Int))) = (xs.drop a).take b := by
  have e : ((a : Int) + (b : Int)) = ((a + b : Nat) : Int) := by omega
  unfold cutV
  rw [e, HT.sIx_nat, HT.sIx_nat]
  by_cases h : a ≤ xs.length
  · rw [Nat.min_eq_left h]
    by_cases h2 : a + b ≤ xs.length
    · rw [Nat.min_eq_left h2]; congr 1; omega
    · rw [Nat.min_eq_right (by omega), List.take_of_length_le (by rw [List.length_drop]; omega), List.take_of_length_le (by rw [List.length_drop]; omega)]
  · rw [Nat.min_eq_right (by omega), Nat.min_eq_right (by omega), Nat.sub_self, List.take_zero, List.drop_of_length_le (by omega)]; simp
theorem mid_bits {n a b : Nat} {i : Int} (h : a + b ≤ n) : ((bitsL n i).drop a).take b = bitsL b (i / 2 ^ a) := by
  apply List.ext_getElem?
  intro m
  rw [List.getElem?_take]
  by_cases hm : m < b
  · rw [if_pos hm, List.getElem?_drop, bitsL_get (by omega), bitsL_get hm, Int.ediv_ediv_of_nonneg (Int.le_of_lt (pow_pos' a)), Int.pow_add]
  · rw [if_neg hm, bitsL_none (by omega)]
theorem ExD.mut {d p : Addr} {H H' : Hp} {o : HO} (e : ExD d H H') (h : H p = none) : ExD d H (upd H' p o) := fun a u n x => by
  rw [upd_ne (ne_of_none x h)]; exact e a u n x
theorem DiceAt.mut {d p : Addr} {H : Hp} {o : HO} (h : DiceAt H d) (n : d ≠ p) : DiceAt (upd H p o) d := by
  obtain ⟨l, m, q, a, b, c, e⟩ := h
  exact ⟨l, m, q, a, b, c, by rw [upd_ne n]; exact e⟩
theorem PartsAt.exd {d : Addr} {H H' : Hp} {xs : List V} {ps : List (Nat × Int)} (hd : DiceAt H d) (e : ExD d H H') (h : PartsAt H xs ps) : PartsAt H' xs ps := Paired.mapP h fun _ _ ⟨⟨q, e1, e2⟩, r⟩ => ⟨⟨q, e1, e _ _ (fun z => by
  obtain ⟨l, m, o, _, _, _, hh⟩ := hd
  rw [z, hh] at e2; cases e2) e2⟩, r⟩
theorem PartsAt.mut {H : Hp} {p : Addr} {ys : List V} {o : HO} {xs : List V} {ps : List (Nat × Int)} (hp : H p = some (.lst ys)) (h : PartsAt H xs ps) : PartsAt (upd H p o) xs ps := Paired.mapP h fun _ _ ⟨⟨q, e1, e2⟩, r⟩ => ⟨⟨q, e1, by
  rw [upd_ne (fun z => by rw [z, hp] at e2; cases e2)]; exact e2⟩, r⟩
theorem repA_use {K : PySem.W.Frag} {H : Hp} {l : Addr} {x : V} {k : Nat} {Q : VK} (h : H l = some (.tup [x])) (hk : k ≤ 1000) (q : ∀ v H', Ex H H' → H' v = some (.tup (List.replicate k x)) → Q (.ref v) H') : rRepA K (.ref l) (.int k) H Q := by
  refine ⟨l, k, [x], rfl, rfl, .of h, List.cons_ne_nil _ _, by omega, by omega, by simp, fun e => ?_, fun e p hp => ?_⟩
  · have : k = 1 := by omega
    subst this
    exact q l H (Ex.refl H) h
  · refine q p _ (ex_upd hp) ?_
    rw [upd_same, Int.toNat_natCast, flat_rep]
theorem catA_use {K : PySem.W.Frag} {H : Hp} {a b : Addr} {xs ys : List V} {Q : VK} (ha : H a = some (.tup xs)) (hb : H b = some (.tup ys)) (hz : xs.length + ys.length ≤ 100000) (q : ∀ v H', Ex H H' → H' v = some (.tup (xs ++ ys)) → Q (.ref v) H') : rCatA K (.ref a) (.ref b) H Q := by
  refine ⟨a, b, xs, ys, rfl, rfl, .of ha, .of hb, by rw [sizeLine_eq]; omega, fun e => ?_, fun e1 e2 => ?_, fun e1 e2 p hp => ?_⟩
  · subst e; exact q b H (Ex.refl H) hb
  · subst e2; exact q a H (Ex.refl H) (by rw [List.append_nil]; exact ha)
  · exact q p _ (ex_upd hp) upd_same
theorem emod_mul' {i A B : Int} (h : 0 < A) : i % (A * B) = i % A + A * (i / A % B) := by
  have h1 : i / (A * B) = i / A / B := (Int.ediv_ediv_of_nonneg (Int.le_of_lt h)).symm
  rw [Int.emod_def i (A * B), Int.emod_def i A, Int.emod_def (i / A) B, h1, Int.mul_sub, ← Int.mul_assoc]
  omega
theorem tSeq_go {t u : TS} {D : Ends} {σ : St} {H : Hp} (h : t { D with nx := u D } σ H) : tSeq t u D σ H := h
/-! ### a conditional expression with one value told, whichever way is taken -/
def tIfV (t : TT) (ta tb : TE) : TE := fun σ H Q => ∃ v, (t σ H fun c H1 => if c = true then ta σ H1 (fun x H2 => x = v ∧ H2 = H) else tb σ H1 (fun x H2 => x = v ∧ H2 = H)) ∧ Q v H
theorem pe_ifV {X : Cx} {c a b : Expr} {pos : Pos} {t : TT} {ta tb : TE} (hc : PT X c t) (ha : PE X a ta) (hb : PE X b tb) : PE X (.IfExp c a b pos) (tIfV t ta tb) := by
  refine ⟨fun pins s σ H Q I h => ?_⟩
  obtain ⟨v, h1, q⟩ := h
  refine thn ((pe_ifExp hc ha hb).run pins s σ H (fun x H2 => x = v ∧ H2 = H) I h1) fun u s1 hu => ?_
  obtain ⟨x, H1, I1, r, rfl, rfl⟩ := hu
  exact ⟨x, H1, I1, r, q⟩
theorem kept_none {n : Nat} {f : Nat → V} : kept n (fun _ => false) f = [] := by
  unfold kept
  rw [List.filter_eq_nil_iff.mpr (fun _ _ => Bool.false_ne_true)]; rfl
/-- a list of texts at a -/
def strD (ss : List Str) : PyData := .list (ss.map .str)
theorem dpAll_strs {K : PySem.W.Frag} {H : Hp} : ∀ ss : List Str, DpAll K H (ss.map V.str) (ss.map PyData.str)
  | [] => .nil
  | x :: xs => .cons (.str x) (dpAll_strs xs)
theorem dp_strs {K : PySem.W.Frag} {H : Hp} {a : Addr} {ss : List Str} (h : SqL K H a (ss.map V.str)) : Dp K H (.ref a) (strD ss) := .lst h (dpAll_strs ss)
def boolS (b : Bool) : Str := if b then "True" else "False"
/-- a comprehension whose items are new: what stands of each -/
theorem lc_rel {J : It} {n : Nat} {G : Hp → Prop} {Y : Nat → Hp → V → Hp → Prop} {g : TG} {te : TE} {vs : List Nat} {σ : St} {H1 : Hp} {D : Addr} {Qd : Hp → Prop} (w : Walk J n G Y) (R : Hp → V → Nat → Prop) (hR : ∀ H H' v i, Ex H H' → R H v i → R H' v i) (hM : ∀ H p o ys v i, H p = some (.lst ys) → R H v i → R (upd H p o) v i) (hn : n ≤ 50000) (hD : H1 D = none) (hG : ∀ H', Ex H1 H' → G H')
    (hs : ∀ i x H' H2, i < n → Ex H1 H' → Y i H' x H2 → ∀ (Qe : VK), (∀ v H5, Ex H' H5 → R H5 v i → Qe v H5) → g x (wipe σ vs) H2 fun σ2 H3 => wipe σ2 vs = wipe σ vs ∧ te σ2 H3 Qe)
    (hd : ∀ H' ys, Ex H1 H' → H' D = some (.lst ys) → Paired (R H') ys (List.range n) → Qd H') : Lc J g tYes te vs σ H1 D Qd := by
  refine lc_it w (fun i H' => Ex H1 H' ∧ ∃ ys, H' D = some (.lst ys) ∧ Paired (R H') ys (List.range i)) ⟨ex_upd hD, [], upd_same, .nil⟩ (fun i H' _ p => hG H' p.1) (fun i x H' H2 hi p y => ?_) (fun H' p => by obtain ⟨e, ys, h1, h2⟩ := p; exact hd H' ys e h1 h2)
  obtain ⟨e, ys, h1, h2⟩ := p
  have hlen : ys.length < sizeLine := by have := Paired.len' h2; rw [List.length_range] at this; rw [sizeLine_eq]; omega
  refine hs i x H' H2 hi e y _ (fun v H5 e5 r5 => ⟨_, e5 _ _ h1, hlen, (e.trans e5).mut hD, _, upd_same, ?_⟩)
  rw [List.range_succ]
  have h5 := e5 _ _ h1
  exact Paired.app' (Paired.mapP h2 fun _ _ r => hM _ _ _ _ _ _ h5 (hR _ _ _ _ e5 r)) (hM _ _ _ _ _ _ h5 r5)
theorem Paired.mapR {α β γ : Type} {R : α → β → Prop} {S : α → γ → Prop} {f : β → γ} (h : ∀ x y, R x y → S x (f y)) : ∀ {xs : List α} {ys : List β}, Paired R xs ys → Paired S xs (ys.map f)
  | _, _, .nil => .nil
  | _, _, .cons r t => .cons (h _ _ r) (Paired.mapR h t)
theorem seqIx_nat {n k : Nat} (h : k < n) : seqIndex? (k : Int) n = some k := by
  unfold seqIndex?
  simp [show ¬ ((k : Int) < 0) by omega, h]
theorem Paired.erase {α β : Type} {R : α → β → Prop} : ∀ {xs : List α} {ys : List β} (k : Nat), Paired R xs ys → Paired R (xs.eraseIdx k) (ys.eraseIdx k)
  | _, _, _, .nil => .nil
  | _, _, 0, .cons _ t => t
  | _, _, k + 1, .cons r t => .cons r (Paired.erase k t)
theorem Paired.set' {α β : Type} {R : α → β → Prop} {x : α} {y : β} (r : R x y) : ∀ {xs : List α} {ys : List β} (k : Nat), Paired R xs ys → Paired R (xs.set k x) (ys.set k y)
  | _, _, _, .nil => .nil
  | _, _, 0, .cons _ t => .cons r t
  | _, _, k + 1, .cons q t => .cons q (Paired.set' r k t)
theorem Paired.drop' {α β : Type} {R : α → β → Prop} : ∀ {xs : List α} {ys : List β} (k : Nat), Paired R xs ys → Paired R (xs.drop k) (ys.drop k)
  | _, _, 0, t => t
  | _, _, _ + 1, .nil => .nil
  | _, _, k + 1, .cons _ t => Paired.drop' k t
theorem Paired.take' {α β : Type} {R : α → β → Prop} : ∀ {xs : List α} {ys : List β} (k : Nat), Paired R xs ys → Paired R (xs.take k) (ys.take k)
  | _, _, 0, _ => .nil
  | _, _, _ + 1, .nil => .nil
  | _, _, k + 1, .cons r t => .cons r (Paired.take' k t)
def isIntV : V → Bool
  | .int _ => true
  | _ => false
/-! ### ways that join again -/
def tJoin (t : TS) : TS := fun D σ H => ∃ N : St → Hp → Prop, t { D with nx := N } σ H ∧ ∀ σ' H', N σ' H' → D.nx σ' H'
theorem ps_join {X : Cx} {st : Stmt} {t : TS} (h : PS X st t) : PS X st (tJoin t) := by
  refine ⟨fun pins s σ H D I ⟨N, h1, h2⟩ => thn (h.run pins s σ H _ I h1) fun f s' hs => ?_⟩
  unfold SP at *
  cases f with
  | next => obtain ⟨σ', H', I', q⟩ := hs; exact ⟨σ', H', I', h2 _ _ q⟩
  | _ => exact hs
def tJoinE (t : TE) : TE := fun σ H Q => ∃ N : VK, t σ H N ∧ ∀ v H', N v H' → Q v H'
theorem pe_join {X : Cx} {e : Expr} {t : TE} (h : PE X e t) : PE X e (tJoinE t) := by
  refine ⟨fun pins s σ H Q I ⟨N, h1, h2⟩ => thn (h.run pins s σ H _ I h1) fun u s' hs => ?_⟩
  obtain ⟨v, H', I', r, q⟩ := hs
  exact ⟨v, H', I', r, h2 _ _ q⟩
theorem ExD.back {d p : Addr} {H H' : Hp} (e : ExD d H H') (hd : DiceAt H' d) (h : H' p = none) : H p = none := by
  cases hp : H p with
  | none => rfl
  | some o =>
    have n : p ≠ d := fun z => by
      obtain ⟨l, m, q, _, _, _, hh⟩ := hd
      rw [z, hh] at h; cases h
    rw [e _ _ n hp] at h; cases h

theorem cpow_ok {i j : Int} (h1 : i.natAbs < 2 ^ 64) (h2 : 0 ≤ j) (h3 : j ≤ 1000000) : CPow i j := ⟨by omega, by omega, by omega⟩
theorem ofStr_inj {a b : String} : (Str.ofString a = Str.ofString b) = (a = b) := by
  apply propext
  constructor
  · intro h
    rw [Str.ofString_eq_toList, Str.ofString_eq_toList] at h
    have h1 : a.toList.map Char.toNat = b.toList.map Char.toNat := by
      have := congrArg (fun s => s.cps.toList) h
      simpa using this
    have h2 : a.toList = b.toList := by
      refine List.map_inj_right (f := Char.toNat) ?_ |>.mp h1
      intro x y e
      exact Char.toNat_inj.mp e
    exact String.toList_inj.mp h2
  · intro h; rw [h]
/-- a conditional expression, its ways joined again -/
theorem pe_ifJ {X : Cx} {c a b : Expr} {pos : Pos} {t : TT} {ta tb : TE} (hc : PT X c t) (ha : PE X a ta) (hb : PE X b tb) : PE X (.IfExp c a b pos) (tJoinE (tIf t ta tb)) := pe_join (pe_ifExp hc ha hb)
theorem u1 {a c : Nat} (h : a + 64 < c) : a + 1 < c := by omega
/-! ### a display of one pair whose key is a tuple -/
section
open PySem.Spec PyProof.Rows
theorem dict_pairsH2 {prog : Program} {w : World} {K : Type} [DecidableEq K] {knd : HeapKind prog w K} {A : Around} {E : Value → Shared → Prop} {s : Shared} {env : Env} {keys : List (Option Expr)} {values : List Expr} {pos : Pos} {pairs : List (Sem Value × Sem Value)} {Q : Value → Shared → Prop} (hu : knd.room A)
    (hshape : (evalEachOpt keys env).zip ((evalEach values env).map fun v => do let x ← v; standAt pos; pure x) = pairs.map fun p => (some p.1, p.2)) (h0 : pairs ≠ []) (hlen : pairs.length ≤ 15)
    (h : wpAny (model prog w) A (evalPairs pairs) (fun vs s₁ => ∃ ps, CarriesH knd s₁.heap vs ps ∧ s₁.heap.DictOfH knd s.heap.objs.size [] ∧
      ∀ h' tk, h'.DictOfH knd s.heap.objs.size (storedAllH [] ps) → Heap.SameBut s.heap.objs.size s₁.heap h' → Q (.ref s.heap.objs.size) { s₁ with heap := h', toks := tk }) E
      { s with heap := s.heap.push { cls := .type "dict", data := .dict #[] } }) :
    wpAny (model prog w) A (eval (.Dict keys values pos) env) Q E s := by
  rw [arm_eval_Dict, hshape, dictDisplay_pairs pairs h0 (by omega)]
  exact wpAny_bind (wpAny_standAt (wpAny_bind (wpAny_subDictH (knd := knd) (Q := fun d s' => wpAny (model prog w) A (pure (Value.ref d)) Q E s') hu hlen
    (wpAny_mono h (fun vs s₁ h₁ => by obtain ⟨ps, hc, hm, hq⟩ := h₁; exact ⟨ps, hc, hm, fun h' tk a b => wpAny_pure (hq h' tk a b)⟩) fun _ _ e => e))))
def tDisp1T (tk tv : TE) : TE := fun σ H Q => ∀ p, H p = none → tk σ (upd H p (.dT [])) fun x H1 => tv σ H1 fun y H2 => H2 p = some (.dT []) ∧ ∃ (b : Addr) (k : List L2.Key), x = .ref b ∧ H2 b = some (.tup (k.map kV)) ∧ Q (.ref p) (upd H2 p (.dT [(k, y)]))
theorem pe_disp1T {X : Cx} {pos : Pos} {k v : Expr} {tk tv : TE} (hu : X.A.units + 1 < cLine) (hk : PE X k tk) (hv : PE X v tv) : PE X (.Dict [some k] [v] pos) (tDisp1T tk tv) := by
  refine ⟨fun pins s σ H Q I q => ?_⟩
  have hn := I.hok.fresh (Nat.le_refl s.heap.objs.size)
  have I1 := I.laid (a := s.heap.objs.size) (o := .dT []) (h' := s.heap.push { cls := .type "dict", data := .dict #[] }) (t' := s.toks) (fun _ _ q => Heap.get?_push_of_some _ q) (Nat.le_refl _) (dt_empty s.heap I.big)
  refine dict_pairsH2 (knd := tupleKind (mixKind X.prog X.w)) (show X.A.units < cLine by omega) (zip_pairTrees [some k] [v] X.env pos rfl rfl) (by simp [pairTrees]) (by simp [pairTrees]) (thn ((pps_cons (pos := pos) hk hv pps_nil).run pins _ σ _ (fun ps H2 => match ps with | [(x, y)] => H2 s.heap.objs.size = some (.dT []) ∧ ∃ (b : Addr) (k : List L2.Key), x = .ref b ∧ H2 b = some (.tup (k.map kV)) ∧ Q (.ref s.heap.objs.size) (upd H2 s.heap.objs.size (.dT [(k, y)])) | _ => False) I1 (q _ hn)) fun ws s2 ⟨ps, H2, I2, rel, q1⟩ => ?_)
  match ps, q1 with
  | [(x, y)], q1 =>
  obtain ⟨e, b, kk, ex, hb, q2⟩ := q1
  cases rel with
  | @cons a b' as bs h t =>
    cases t
    obtain ⟨h1, h2⟩ := h
    subst ex
    obtain ⟨w1, w2⟩ := b'
    cases (show w1 = Value.ref b from h1)
    obtain ⟨z, hd, xs, rel0, dd⟩ := dt_of I2.hok e
    cases rel0
    refine ⟨[(kk, b, w2)], ⟨rfl, rfl, key_of I2.hok hb, True.intro⟩, dd, fun h' tk dd' hs => ?_⟩
    refine ⟨.ref s.heap.objs.size, _, ?_, rfl, q2⟩
    obtain ⟨q9, es, ep, hq, g2, g3, g4, _, g5⟩ := dd'
    refine d_write I2 (by rw [e]; exact True.intro) hs ⟨q9, hq⟩ ⟨by show 1 ≤ sizeLine; decide, hd, _, ?_, q9, es, ep, hq, g2, g3, g4, g5⟩
    refine .cons ⟨rfl, ?_, h2⟩ .nil
    rw [upd_ne (ne_of hb e (fun z => nomatch z))]
    exact hb
end
section
open PySem.Spec PyProof.Rows
/-- max of a tuple of ints -/
def rMaxT (K : PySem.W.Frag) : List V → Hp → VK → Prop := fun vs H Q => ∃ (a : Addr) (n : Int) (ns : List Int), vs = [V.ref a] ∧ SqT K H a ((n :: ns).map V.int) ∧ Q (.int (ns.foldl max n)) H
theorem cr_maxT {X : Cx} (hc : X.calm = true) (hu : X.A.units + 64 < cLine) : CallR X (.builtin "max") (rMaxT X.K) := by
  intro pins s σ H vs us Q I r h
  obtain ⟨a, n, ns, rfl, hs, q⟩ := h
  obtain ⟨its, rv, p, hz⟩ := I.tuple hs
  rw [Vals.ref1 r]
  obtain ⟨as, hr⟩ := Dp.readsAll I ((n :: ns).map PyData.int) _ its (dpAll_ints (n :: ns)) rv
  have hd : PyData.depthAll ((n :: ns).map PyData.int) = 0 := PyProof.Rows.depthAll_ints (n :: ns)
  refine max_tuple_data (x := .int n) (xs := ns.map .int) (I.ok.hd hc) p hr ?_ (by rw [show PyData.int n :: ns.map PyData.int = (n :: ns).map PyData.int from rfl, hd]; omega) fun i v h' tk bs hv hrd hk => ?_
  · refine ⟨fun x hx y hy => ?_, fun x hx => ?_⟩
    · have hx' : x ∈ (n :: ns).map PyData.int := hx
      have hy' : y ∈ (n :: ns).map PyData.int := hy
      obtain ⟨i, _, rfl⟩ := List.mem_map.mp hx'
      obtain ⟨j, _, rfl⟩ := List.mem_map.mp hy'
      rfl
    · have hx' : x ∈ (n :: ns).map PyData.int := hx
      obtain ⟨i, _, rfl⟩ := List.mem_map.mp hx'
      exact fun z => by cases z
  rw [maxD_ints] at hrd
  cases hrd
  exact ⟨.int _, H, I.kept hk, ⟨_, rfl⟩, q⟩
end
theorem ix_kd {X : Cx} {d : Addr} {es : Array DictEntry} {n : Nat} (D : KDict X.K X.w d es n) : IxR X (fun x y H Q => ∃ (z : Str) (u0 : Value) (v0 : V), x = .ref d ∧ y = .str z ∧ PySem.W.nsIn X.K d z = some (some u0) ∧ RelV v0 u0 ∧ Q v0 H) := by
  intro value slice pins s σ H x y v u Q I rx ry h hs
  have hT := kd_type D I
  obtain ⟨z, u0, v0, ex, ey, h1, h2, q⟩ := h
  subst ex
  cases rx
  refine PyProof.Rows.tail_any hT PySem.F.slot_dict_getitem.lookup ?_ hs
  exact op_item_kd D pins s σ H (.ref d) y (.ref d) u Q I rfl ry ⟨z, u0, v0, rfl, ey, h1, h2, q⟩
/-! ### comprehensions of dicts -/
def Dc (J : It) (g : TG) (tt : TT) (tk tv : TE) (vs : List Nat) (σ : St) (H1 : Hp) (D : Addr) (Qd : Hp → Prop) : Prop := ∃ W : Nat → Nat → Hp → Prop, (∃ m, W 0 m (upd H1 D (.dK []))) ∧ ∀ i m H, W i m H →
  (J.stop i H ∧ Qd H) ∨ (J.go i H ∧ ∃ Nx : Hp → Prop, (∀ H', Nx H' → ∃ m', m' < m ∧ W (i + 1) m' H') ∧ ∀ x H', J.yld i H x H' → g x (wipe σ vs) H' fun σ2 H2 => wipe σ2 vs = wipe σ vs ∧ tt σ2 H2 fun b H3 =>
    if b = true then tk σ2 H3 fun y H4 => tv σ2 H4 fun z H5 => ∃ kvs k, y = kV k ∧ H5 D = some (.dK kvs) ∧ kvs.length < sizeLine ∧ Nx (upd H5 D (.dK (putK kvs k z))) else Nx H3)
theorem tDc_eq {wi : TI} {g : TG} {tt : TT} {tk tv : TE} {vs : List Nat} {σ : St} {H : Hp} {Q : VK} : tDc wi g tt tk tv vs σ H Q = wi σ H (fun J H1 => ∀ D, H1 D = none → Dc J g tt tk tv vs σ H1 D (fun H' => Q (.ref D) H')) := rfl
/-! ### values told as tuples, or as none -/
theorem tyT {K : PySem.W.Frag} {H : Hp} {a : Addr} {xs : List V} (h : SqT K H a xs) : TyX K H (.ref a) (.type "tuple") := by
  rcases h with (h | ⟨o, h⟩) | ⟨o, _, _, h, hc, _⟩
  · exact .base (.tup h)
  · exact .fTuple h
  · exact .kTuple h hc
theorem tyL {K : PySem.W.Frag} {H : Hp} {a : Addr} {xs : List V} (h : H a = some (.lst xs)) : TyX K H (.ref a) (.type "list") := .base (.lst h)
/-- a tuple of xs, or (none) what is no tuple -/
def TO (K : PySem.W.Frag) (H : Hp) (v : V) : Option (List V) → Prop
  | some xs => ∃ a, v = .ref a ∧ SqT K H a xs
  | none => ∃ n, n ∈ kinds ∧ n ≠ "tuple" ∧ TyX K H v (.type n)
def tupB (o : Option (List V)) (lo hi : Int) : Bool := match o with
  | some xs => decide (lo ≤ xs.length ∧ (xs.length : Int) ≤ hi)
  | none => false
theorem kit_no {n : String} (hn : n ∈ kinds) (h : n ≠ "tuple") : kitB n "tuple" = some false := by
  simp only [kinds, List.mem_cons, List.mem_nil_iff, or_false] at hn
  rcases hn with rfl | rfl | rfl | rfl | rfl | rfl | rfl
  all_goals first | decide +kernel | exact absurd rfl h
theorem eqSelf {K : PySem.W.Frag} {H : Hp} {x y : V} {d : PyData} {Q : VK} (h1 : Dp K H x d) (h2 : Dp K H y d) (s : SeqAt.shaped d = true) (q : Q (.bl true) H) : rEqD K x y H Q :=
  eqD h1 h2 s s (SeqAt.eqv_refl d (SeqAt.canLay_of_shaped s)) q
theorem neSelf {K : PySem.W.Frag} {H : Hp} {x y : V} {d : PyData} {Q : VK} (h1 : Dp K H x d) (h2 : Dp K H y d) (s : SeqAt.shaped d = true) (q : Q (.bl false) H) : rNeD K x y H Q :=
  neD h1 h2 s s (SeqAt.eqv_refl d (SeqAt.canLay_of_shaped s)) q
theorem ex_tyOf {K : PySem.W.Frag} {H H' : Hp} {v : V} {t : Value} (e : Ex H H') (h : TyOf K H v t) : TyOf K H' v t := by
  cases h with
  | non => exact .non
  | bl b => exact .bl b
  | int b => exact .int b
  | str b => exact .str b
  | flt b => exact .flt b
  | lst h => exact .lst (e _ _ h)
  | frz h => exact .frz (e _ _ h)
  | tup h => exact .tup (e _ _ h)
  | dK h => exact .dK (e _ _ h)
  | dT h => exact .dT (e _ _ h)
  | ins h a b c d f => exact .ins (e _ _ h) a b c d f
theorem ex_ty {K : PySem.W.Frag} {H H' : Hp} {v : V} {t : Value} (e : Ex H H') (h : TyX K H v t) : TyX K H' v t := by
  cases h with
  | base b => exact .base (ex_tyOf e b)
  | byt b => exact .byt b
  | set h => exact .set (e _ _ h)
  | kList a b => exact .kList a b
  | kTuple a b => exact .kTuple a b
  | kDict a b => exact .kDict a b
  | fTuple h => exact .fTuple (e _ _ h)
  | fDict h => exact .fDict (e _ _ h)
theorem ex_typd {K : PySem.W.Frag} {H H' : Hp} {v : V} (e : Ex H H') (h : Typd K H v) : Typd K H' v := by
  obtain ⟨n, h1, h2⟩ := h; exact ⟨n, h1, ex_ty e h2⟩
theorem ex_to {K : PySem.W.Frag} {H H' : Hp} {v : V} {o : Option (List V)} (e : Ex H H') (h : TO K H v o) : TO K H' v o := by
  cases o with
  | some xs => obtain ⟨a, h1, h2⟩ := h; exact ⟨a, h1, Evl.ex_t e h2⟩
  | none => obtain ⟨n, h1, h2, h3⟩ := h; exact ⟨n, h1, h2, ex_ty e h3⟩
mutual
theorem ex_dp {K : PySem.W.Frag} {H H' : Hp} (e : Ex H H') : ∀ {d : PyData} {v : V}, Dp K H v d → Dp K H' v d
  | _, _, .non => .non
  | _, _, .bl b => .bl b
  | _, _, .int i => .int i
  | _, _, .str i => .str i
  | _, _, .lst h a => .lst (Evl.ex_l e h) (ex_dpAll e a)
  | _, _, .tup h a => .tup (Evl.ex_t e h) (ex_dpAll e a)
theorem ex_dpAll {K : PySem.W.Frag} {H H' : Hp} (e : Ex H H') : ∀ {ds : List PyData} {vs : List V}, DpAll K H vs ds → DpAll K H' vs ds
  | _, _, .nil => .nil
  | _, _, .cons a b => .cons (ex_dp e a) (ex_dpAll e b)
end
theorem dpAll_at {K : PySem.W.Frag} {H : Hp} : ∀ {ds : List PyData} {vs : List V} {i : Nat} {v : V}, DpAll K H vs ds → vs[i]? = some v → ∃ d, ds[i]? = some d ∧ Dp K H v d
  | _, _, _, _, .nil, h => by simp at h
  | _, _, 0, _, .cons r _, h => by simp at h; subst h; exact ⟨_, rfl, r⟩
  | _, _, i + 1, _, .cons _ t, h => by
    obtain ⟨y, h1, h2⟩ := dpAll_at (i := i) t (by simpa using h)
    exact ⟨y, by simpa using h1, h2⟩
theorem dpAll_len {K : PySem.W.Frag} {H : Hp} : ∀ {ds : List PyData} {vs : List V}, DpAll K H vs ds → vs.length = ds.length
  | _, _, .nil => rfl
  | _, _, .cons _ t => congrArg Nat.succ (dpAll_len t)
theorem dpAll_app {K : PySem.W.Frag} {H : Hp} {d : PyData} {v : V} (h : Dp K H v d) : ∀ {ds : List PyData} {vs : List V}, DpAll K H vs ds → DpAll K H (vs ++ [v]) (ds ++ [d])
  | _, _, .nil => .cons h .nil
  | _, _, .cons a t => .cons a (dpAll_app h t)
/-- the kind of data is known -/
theorem dp_typd {K : PySem.W.Frag} {H : Hp} {v : V} {d : PyData} (h : Dp K H v d) : ∃ n, n ∈ kinds ∧ (TyX K H v (.type n) ∨ n = "list") := by
  cases h with
  | non => exact ⟨"NoneType", by decide, .inl (.base .non)⟩
  | bl b => exact ⟨"bool", by decide, .inl (.base (.bl b))⟩
  | int i => exact ⟨"int", by decide, .inl (.base (.int i))⟩
  | str s => exact ⟨"str", by decide, .inl (.base (.str s))⟩
  | lst h a => exact ⟨"list", by decide, .inr rfl⟩
  | tup h a => exact ⟨"tuple", by decide, .inl (tyT h)⟩
/-! ### plain data, made anew -/
mutual
def plainD : PyData → Bool
  | .none => true
  | .bool _ => true
  | .int _ => true
  | .str x => decide (x.length ≤ 100000)
  | .tuple ds => decide (ds.length ≤ 1000) && plainAll ds
  | .list _ => false
  | .dict _ => false
def plainAll : List PyData → Bool
  | [] => true
  | d :: ds => plainD d && plainAll ds
end
theorem plainAll_at : ∀ {ds : List PyData} {i : Nat} {d : PyData}, plainAll ds = true → ds[i]? = some d → plainD d = true
  | [], _, _, _, h => by simp at h
  | x :: xs, 0, d, h, e => by simp at e; subst e; rw [plainAll, Bool.and_eq_true] at h; exact h.1
  | x :: xs, i + 1, d, h, e => by rw [plainAll, Bool.and_eq_true] at h; exact plainAll_at h.2 (by simpa using e)
theorem depthAll_at : ∀ {ds : List PyData} {i : Nat} {d : PyData}, ds[i]? = some d → d.depth ≤ PyData.depthAll ds
  | [], _, _, h => by simp at h
  | x :: xs, 0, d, e => by simp at e; subst e; rw [PyData.depthAll]; omega
  | x :: xs, i + 1, d, e => by have := depthAll_at (ds := xs) (i := i) (d := d) (by simpa using e); rw [PyData.depthAll]; omega
theorem sqT_mut {K : PySem.W.Frag} {H : Hp} {p a : Addr} {ys xs : List V} {o : HO} (hp : H p = some (.lst ys)) (h : SqT K H a xs) : SqT K (upd H p o) a xs := by
  rcases h with (h | ⟨u, h⟩) | h
  · exact .inl (.inl (by rw [upd_ne (fun z => by rw [z, hp] at h; cases h)]; exact h))
  · exact .inl (.inr ⟨u, by rw [upd_ne (fun z => by rw [z, hp] at h; cases h)]; exact h⟩)
  · exact .inr h
mutual
theorem dp_mut {K : PySem.W.Frag} {H : Hp} {p : Addr} {ys : List V} {o : HO} (hp : H p = some (.lst ys)) : ∀ {d : PyData} {v : V}, plainD d = true → Dp K H v d → Dp K (upd H p o) v d
  | .none, _, _, .non => .non
  | .bool b, _, _, .bl _ => .bl b
  | .int i, _, _, .int _ => .int i
  | .str i, _, _, .str _ => .str i
  | .tuple ds, _, g, .tup h a => .tup (sqT_mut hp h) (dpAll_mut hp (by rw [plainD, Bool.and_eq_true] at g; exact g.2) a)
  | .list ds, _, g, _ => by rw [plainD] at g; cases g
theorem dpAll_mut {K : PySem.W.Frag} {H : Hp} {p : Addr} {ys : List V} {o : HO} (hp : H p = some (.lst ys)) : ∀ {ds : List PyData} {vs : List V}, plainAll ds = true → DpAll K H vs ds → DpAll K (upd H p o) vs ds
  | [], _, _, .nil => .nil
  | d :: ds, _, g, .cons a b => .cons (dp_mut hp (by rw [plainAll, Bool.and_eq_true] at g; exact g.1) a) (dpAll_mut hp (by rw [plainAll, Bool.and_eq_true] at g; exact g.2) b)
end
theorem dpAll_of {K : PySem.W.Frag} {H : Hp} : ∀ {ds : List PyData} {ys : List V}, ys.length = ds.length → (∀ (i : Nat) (y : V) (d : PyData), ys[i]? = some y → ds[i]? = some d → Dp K H y d) → DpAll K H ys ds
  | [], [], _, _ => .nil
  | d :: ds, y :: ys, hl, h => .cons (h 0 y d rfl rfl) (dpAll_of (by simpa using hl) fun i y d h1 h2 => h (i + 1) y d (by simpa using h1) (by simpa using h2))
  | [], _ :: _, hl, _ => by simp at hl
  | _ :: _, [], hl, _ => by simp at hl
theorem cutS_all (z : Str) : cutS z none none = z := by
  unfold cutS
  rw [HT.sIx_none, HT.sIx_none, List.drop_zero, Nat.sub_zero]
  have : z.length = z.cps.toList.length := by show z.cps.size = _; simp
  rw [this, List.take_length]
theorem dpAll_map {K : PySem.W.Frag} {H : Hp} {f : Nat → V} {g : Nat → PyData} : ∀ l : List Nat, (∀ t ∈ l, Dp K H (f t) (g t)) → DpAll K H (l.map f) (l.map g)
  | [], _ => .nil
  | x :: r, h => .cons (h x (List.mem_cons_self ..)) (dpAll_map r fun t ht => h t (List.mem_cons_of_mem _ ht))
theorem eqv_nilL (ds : List PyData) : PyData.eqv (.list ds) (.list []) = ds.isEmpty := by cases ds <;> rfl
theorem eqv_nilT (ds : List PyData) : PyData.eqv (.tuple ds) (.tuple []) = ds.isEmpty := by cases ds <;> rfl
def pairB : Option (List V) → Bool
  | some xs => decide ((xs.length : Int) = 2)
  | none => false
/-! ### long parts -/
inductive Kd | times | part | rest
  deriving DecidableEq
def Kd.s : Kd → Str
  | .times => Str.ofString "times"
  | .part => Str.ofString "part"
  | .rest => Str.ofString "rest"
def qrM (A s : Int) (n : Nat) : Int × Int := if s = 0 then (2 ^ n - 1, A) else (A / s, A % s)
/-- the two words of a state whose words left are l -/
def reM (w : Nat) (k : Kd) (f s : Int) (l : Nat) : Int × Int :=
  if k = .times then (f * (s / 2 ^ l) % 2 ^ w, s * 2 ^ (w - l) % 2 ^ w)
  else ((qrM (f / 2 ^ l) s (w - l)).2, (f * 2 ^ (w - l) + (qrM (f / 2 ^ l) s (w - l)).1) % 2 ^ w)
/-- one round -/
def rdM (w : Nat) (k : Kd) (f s o t : Int) : Int × Int :=
  if k = .times then ((2 * o + t / 2 ^ (w - 1) * f) % 2 ^ w, 2 * t % 2 ^ w)
  else if s ≤ 2 * o + t / 2 ^ (w - 1) then ((2 * o + t / 2 ^ (w - 1) - s) % 2 ^ w, (2 * t + 1) % 2 ^ w)
  else (2 * o + t / 2 ^ (w - 1), 2 * t % 2 ^ w)
theorem top_bit {w l : Nat} {x y : Int} (hl : 1 ≤ l) (hw : l ≤ w) (y0 : 0 ≤ y) (y1 : y < 2 ^ (w - l)) : (x * 2 ^ (w - l) + y) % 2 ^ w / 2 ^ (w - 1) = x / 2 ^ (l - 1) % 2 := by
  have hq := pow_pos' (w - 1)
  have e : (2 : Int) ^ w = 2 ^ (w - 1) * 2 := by rw [← Int.pow_succ]; congr 1; omega
  rw [e, emod_mul' hq, Int.add_mul_ediv_left _ _ (Int.ne_of_gt hq), Int.ediv_eq_zero_of_lt (mod_bd hq).1 (mod_bd hq).2, Int.zero_add]
  have e2 : (2 : Int) ^ (w - 1) = 2 ^ (w - l) * 2 ^ (l - 1) := by rw [← Int.pow_add]; congr 1; omega
  have hp := pow_pos' (w - l)
  rw [e2, ← Int.ediv_ediv_of_nonneg (Int.le_of_lt hp), Int.add_comm, Int.mul_comm x, Int.add_mul_ediv_left _ _ (Int.ne_of_gt hp), Int.ediv_eq_zero_of_lt y0 y1, Int.zero_add]
theorem half_up {x : Int} {l : Nat} (hl : 1 ≤ l) : x / 2 ^ (l - 1) = 2 * (x / 2 ^ l) + x / 2 ^ (l - 1) % 2 := by
  have e : (2 : Int) ^ l = 2 ^ (l - 1) * 2 := by rw [← Int.pow_succ]; congr 1; omega
  rw [e, ← Int.ediv_ediv_of_nonneg (Int.le_of_lt (pow_pos' (l - 1)))]
  omega
theorem mod_dbl (x y M : Int) : (2 * (x % M) + y) % M = (2 * x + y) % M := by
  rw [Int.add_emod, Int.mul_emod, Int.emod_emod, ← Int.mul_emod, ← Int.add_emod]
theorem qr_bd {A s : Int} {n : Nat} (a0 : 0 ≤ A) (a1 : A < 2 ^ n) (s0 : 0 ≤ s) : 0 ≤ (qrM A s n).1 ∧ (qrM A s n).1 < 2 ^ n ∧ 0 ≤ (qrM A s n).2 ∧ (qrM A s n).2 < 2 ^ n := by
  unfold qrM
  have hp := pow_pos' n
  by_cases h : s = 0
  · rw [if_pos h]; show 0 ≤ (2 : Int) ^ n - 1 ∧ (2 : Int) ^ n - 1 < 2 ^ n ∧ 0 ≤ A ∧ A < 2 ^ n; omega
  · rw [if_neg h]
    have h1 : A / s ≤ A := Int.ediv_le_self _ a0
    have h2 : 0 ≤ A / s := Int.ediv_nonneg a0 s0
    have h3 := mod_bd (a := A) (b := s) (by omega)
    have h4 : A % s ≤ A := (by have := Int.mul_ediv_add_emod A s; have := Int.mul_nonneg s0 h2; omega)
    show 0 ≤ A / s ∧ A / s < 2 ^ n ∧ 0 ≤ A % s ∧ A % s < 2 ^ n
    omega
theorem hi_bd {w l : Nat} {f : Int} (h : l ≤ w) (f0 : 0 ≤ f) (f1 : f < 2 ^ w) : 0 ≤ f / 2 ^ l ∧ f / 2 ^ l < 2 ^ (w - l) := by
  refine ⟨Int.ediv_nonneg f0 (Int.le_of_lt (pow_pos' l)), Int.ediv_lt_of_lt_mul (pow_pos' l) ?_⟩
  rw [Int.mul_comm, ← pow_split h]; exact f1
theorem re_bd {w l : Nat} {k : Kd} {f s : Int} (h : l ≤ w) (f0 : 0 ≤ f) (f1 : f < 2 ^ w) (s0 : 0 ≤ s) : 0 ≤ (reM w k f s l).1 ∧ (reM w k f s l).1 < 2 ^ w ∧ 0 ≤ (reM w k f s l).2 ∧ (reM w k f s l).2 < 2 ^ w := by
  have hw := pow_pos' w
  unfold reM
  by_cases hk : k = .times
  · rw [if_pos hk]
    exact ⟨(mod_bd hw).1, (mod_bd hw).2, (mod_bd hw).1, (mod_bd hw).2⟩
  · rw [if_neg hk]
    obtain ⟨a0, a1⟩ := hi_bd h f0 f1
    obtain ⟨_, _, h3, h4⟩ := qr_bd (s := s) a0 a1 s0
    have := pow_le (show w - l ≤ w by omega)
    exact ⟨h3, by show (qrM (f / 2 ^ l) s (w - l)).2 < 2 ^ w; omega, (mod_bd hw).1, (mod_bd hw).2⟩
theorem re_full {w : Nat} {k : Kd} {f s : Int} (f0 : 0 ≤ f) (f1 : f < 2 ^ w) (s0 : 0 ≤ s) (s1 : s < 2 ^ w) : reM w k f s w = (0, if k = .times then s else f) := by
  unfold reM
  by_cases hk : k = .times
  · rw [if_pos hk, if_pos hk, Int.ediv_eq_zero_of_lt s0 s1, Nat.sub_self, Int.mul_zero, Int.zero_emod, Int.pow_zero, Int.mul_one, Int.emod_eq_of_lt s0 s1]
  · rw [if_neg hk, if_neg hk, Int.ediv_eq_zero_of_lt f0 f1, Nat.sub_self]
    have : qrM 0 s 0 = (0, 0) := by
      unfold qrM
      by_cases h : s = 0
      · rw [if_pos h]; rfl
      · rw [if_neg h, Int.zero_ediv, Int.zero_emod]
    rw [this, Int.pow_zero, Int.mul_one, Int.add_zero, Int.emod_eq_of_lt f0 f1]
theorem rd_re {w l : Nat} {k : Kd} {f s : Int} (hl : 1 ≤ l) (h : l ≤ w) (f0 : 0 ≤ f) (f1 : f < 2 ^ w) (s0 : 0 ≤ s) (s1 : s < 2 ^ w) :
    rdM w k f s (reM w k f s l).1 (reM w k f s l).2 = reM w k f s (l - 1) := by
  have ew : w - (l - 1) = (w - l) + 1 := by omega
  unfold rdM
  by_cases hk : k = .times
  · subst hk
    have e1 : reM w .times f s l = (f * (s / 2 ^ l) % 2 ^ w, s * 2 ^ (w - l) % 2 ^ w) := rfl
    have e2 : reM w .times f s (l - 1) = (f * (s / 2 ^ (l - 1)) % 2 ^ w, s * 2 ^ (w - (l - 1)) % 2 ^ w) := rfl
    rw [if_pos rfl, e1, e2]
    have tb := top_bit (x := s) (y := 0) hl h (Int.le_refl _) (pow_pos' _)
    rw [Int.add_zero] at tb
    show ((2 * (f * (s / 2 ^ l) % 2 ^ w) + s * 2 ^ (w - l) % 2 ^ w / 2 ^ (w - 1) * f) % 2 ^ w, 2 * (s * 2 ^ (w - l) % 2 ^ w) % 2 ^ w) = _
    rw [tb, mod_dbl]
    have := mod_dbl (s * 2 ^ (w - l)) 0 (2 ^ w)
    rw [Int.add_zero, Int.add_zero] at this
    rw [this, ew, Int.pow_succ]
    congr 1
    · congr 1
      conv => rhs; rw [half_up hl]
      rw [Int.mul_add, Int.mul_left_comm, Int.mul_comm f (_ % 2)]
    · congr 1
      rw [Int.mul_comm _ (2:Int), Int.mul_left_comm]
  · have e1 : ∀ l, reM w k f s l = ((qrM (f / 2 ^ l) s (w - l)).2, (f * 2 ^ (w - l) + (qrM (f / 2 ^ l) s (w - l)).1) % 2 ^ w) := fun l => by unfold reM; rw [if_neg hk]
    rw [if_neg hk, e1, e1]
    obtain ⟨a0, a1⟩ := hi_bd h f0 f1
    obtain ⟨q0, q1, r0, r1⟩ := qr_bd (s := s) a0 a1 s0
    show (if s ≤ 2 * (qrM (f / 2 ^ l) s (w - l)).2 + (f * 2 ^ (w - l) + (qrM (f / 2 ^ l) s (w - l)).1) % 2 ^ w / 2 ^ (w - 1) then _ else _) = _
    rw [top_bit hl h q0 q1]
    obtain ⟨b0, b1⟩ := hi_bd (show l - 1 ≤ w by omega) f0 f1
    rw [ew] at b1 ⊢
    have hw := pow_pos' w
    have hlw := pow_le (show w - l + 1 ≤ w by omega)
    have dbl : ∀ q c : Int, (2 * ((f * 2 ^ (w - l) + q) % 2 ^ w) + c) % 2 ^ w = (f * 2 ^ (w - l + 1) + (2 * q + c)) % 2 ^ w := fun q c => by
      rw [mod_dbl]; congr 1; rw [Int.pow_succ, Int.mul_add, ← Int.mul_assoc f, Int.mul_comm _ 2]; omega
    have dbl0 : ∀ q : Int, (2 * ((f * 2 ^ (w - l) + q) % 2 ^ w)) % 2 ^ w = (f * 2 ^ (w - l + 1) + 2 * q) % 2 ^ w := fun q => by
      have := dbl q 0; rwa [Int.add_zero, Int.add_zero] at this
    have hu := half_up (x := f) hl
    unfold qrM at *
    by_cases hs : s = 0
    · rw [if_pos hs, if_pos hs]
      show (if s ≤ 2 * (f / 2 ^ l) + f / 2 ^ (l - 1) % 2 then ((2 * (f / 2 ^ l) + f / 2 ^ (l - 1) % 2 - s) % 2 ^ w, (2 * ((f * 2 ^ (w - l) + (2 ^ (w - l) - 1)) % 2 ^ w) + 1) % 2 ^ w) else _) = (f / 2 ^ (l - 1), (f * 2 ^ (w - l + 1) + (2 ^ (w - l + 1) - 1)) % 2 ^ w)
      rw [← hu, hs, if_pos b0, dbl, Int.sub_zero, Int.emod_eq_of_lt b0 (by omega)]
      congr 3
      rw [Int.pow_succ]; omega
    · rw [if_neg hs, if_neg hs]
      obtain ⟨g1, g2⟩ := quot_step (f / 2 ^ (l - 1)) s (by omega)
      have ed : f / 2 ^ (l - 1) / 2 = f / 2 ^ l := by
        rw [Int.ediv_ediv_of_nonneg (Int.le_of_lt (pow_pos' _)), ← Int.pow_succ]; congr 2; omega
      rw [ed] at g1 g2
      show (if s ≤ 2 * (f / 2 ^ l % s) + f / 2 ^ (l - 1) % 2 then ((2 * (f / 2 ^ l % s) + f / 2 ^ (l - 1) % 2 - s) % 2 ^ w, (2 * ((f * 2 ^ (w - l) + (f / 2 ^ l / s)) % 2 ^ w) + 1) % 2 ^ w) else (2 * (f / 2 ^ l % s) + f / 2 ^ (l - 1) % 2, 2 * ((f * 2 ^ (w - l) + (f / 2 ^ l / s)) % 2 ^ w) % 2 ^ w)) = (f / 2 ^ (l - 1) % s, (f * 2 ^ (w - l + 1) + (f / 2 ^ (l - 1) / s)) % 2 ^ w)
      have m1 := mod_bd (a := f / 2 ^ (l - 1)) (b := s) (by omega)
      rw [dbl, dbl0, g2]
      by_cases hc : s ≤ 2 * (f / 2 ^ l % s) + f / 2 ^ (l - 1) % 2
      · rw [if_pos hc] at g1 ⊢
        rw [if_pos hc, ← g1, Int.emod_eq_of_lt m1.1 (by omega)]
      · rw [if_neg hc] at g1 ⊢
        rw [if_neg hc, ← g1, Int.add_zero]
/-! ### states, asks, beats -/
inductive LSt
  | idle
  | run (k : Kd) (f s : Int) (l : Nat)
inductive Ask
  | non
  | stop
  | beg (k : Kd) (f s : Int)
abbrev sNone : Str := Str.ofString "none"
def LSt.vs (w : Nat) : LSt → List V
  | .idle => [.str sNone, .int 0, .int 0, .int 0, .int 0, .int 0]
  | .run k f s l => [.str k.s, .int f, .int s, .int l, .int (reM w k f s l).1, .int (reM w k f s l).2]
/-- as a tuple it stands at v -/
def StAt (K : PySem.W.Frag) (H : Hp) (w : Nat) (v : V) (st : LSt) : Prop := ∃ a, v = .ref a ∧ SqT K H a (st.vs w)
def LIn (w step : Nat) : LSt → Prop
  | .idle => True
  | .run _ f s l => 0 ≤ f ∧ f < 2 ^ w ∧ 0 ≤ s ∧ s < 2 ^ w ∧ l ≤ w ∧ (0 < l → (w - l) % step = 0)
def AskAt (K : PySem.W.Frag) (H : Hp) (v : V) : Ask → Prop
  | .non => v = .non
  | .stop => ∃ a, v = .ref a ∧ SqT K H a [.str (Str.ofString "stop")]
  | .beg k f s => ∃ a, v = .ref a ∧ SqT K H a [.str (Str.ofString "begin"), .str k.s, .int f, .int s]
def AIn (w : Nat) : Ask → Prop
  | .beg _ f s => 0 ≤ f ∧ f < 2 ^ w ∧ 0 ≤ s ∧ s < 2 ^ w
  | _ => True
/-- a beat -/
def btM (w step : Nat) : LSt → Ask → LSt × Option Int
  | _, .stop => (.idle, none)
  | _, .beg k f s => (.run k f s w, none)
  | .idle, .non => (.idle, none)
  | .run k f s l, .non => if l = 0 then (.idle, some (if k = .part then (reM w k f s 0).2 else (reM w k f s 0).1)) else (.run k f s (l - min step l), none)
def optV : Option Int → V
  | none => .non
  | some i => .int i
def BtAt (K : PySem.W.Frag) (H : Hp) (w : Nat) (v : V) (b : LSt × Option Int) : Prop := ∃ p v0, v = .ref p ∧ SqT K H p [v0, optV b.2] ∧ StAt K H w v0 b.1
theorem StAt.ex {K : PySem.W.Frag} {H H' : Hp} {w : Nat} {v : V} {st : LSt} (h : StAt K H w v st) (e : Ex H H') : StAt K H' w v st := by
  obtain ⟨a, h1, h2⟩ := h; exact ⟨a, h1, Evl.ex_t e h2⟩
theorem AskAt.ex {K : PySem.W.Frag} {H H' : Hp} {v : V} {x : Ask} (h : AskAt K H v x) (e : Ex H H') : AskAt K H' v x := by
  cases x with
  | non => exact h
  | stop => obtain ⟨a, h1, h2⟩ := h; exact ⟨a, h1, Evl.ex_t e h2⟩
  | beg => obtain ⟨a, h1, h2⟩ := h; exact ⟨a, h1, Evl.ex_t e h2⟩
theorem BtAt.ex {K : PySem.W.Frag} {H H' : Hp} {w : Nat} {v : V} {b : LSt × Option Int} (h : BtAt K H w v b) (e : Ex H H') : BtAt K H' w v b := by
  obtain ⟨p, v0, h1, h2, h3⟩ := h; exact ⟨p, v0, h1, Evl.ex_t e h2, h3.ex e⟩
theorem bt_in {w step : Nat} {st : LSt} {x : Ask} (h1 : 1 ≤ step) (hs : LIn w step st) (hx : AIn w x) : LIn w step (btM w step st x).1 := by
  cases x with
  | stop => cases st <;> trivial
  | beg k f s =>
    obtain ⟨a, b, c, d⟩ := hx
    have e : (btM w step st (.beg k f s)).1 = .run k f s w := by cases st <;> rfl
    rw [e]
    exact ⟨a, b, c, d, Nat.le_refl _, fun _ => by rw [Nat.sub_self, Nat.zero_mod]⟩
  | non =>
    cases st with
    | idle => trivial
    | run k f s l =>
      obtain ⟨a, b, c, d, e, g⟩ := hs
      show LIn w step (if l = 0 then ((.idle, some _) : LSt × Option Int) else (.run k f s (l - min step l), none)).1
      by_cases hl : l = 0
      · rw [if_pos hl]; trivial
      · rw [if_neg hl]
        refine ⟨a, b, c, d, by omega, fun h => ?_⟩
        have e1 : w - (l - min step l) = (w - l) + step := by omega
        rw [e1, Nat.add_mod_right]; exact g (by omega)
def LSt.dat (w : Nat) : LSt → PyData
  | .idle => .tuple [.str sNone, .int 0, .int 0, .int 0, .int 0, .int 0]
  | .run k f s l => .tuple [.str k.s, .int f, .int s, .int l, .int (reM w k f s l).1, .int (reM w k f s l).2]
def optD : Option Int → PyData
  | none => .none
  | some i => .int i
def btD (w : Nat) (b : LSt × Option Int) : PyData := .tuple [b.1.dat w, optD b.2]
theorem dp_opt {K : PySem.W.Frag} {H : Hp} {o : Option Int} : Dp K H (optV o) (optD o) := by
  cases o with
  | none => exact .non
  | some i => exact .int i
theorem dp_st {K : PySem.W.Frag} {H : Hp} {w : Nat} {v : V} {st : LSt} (h : StAt K H w v st) : Dp K H v (st.dat w) := by
  obtain ⟨a, rfl, h⟩ := h
  cases st with
  | idle => exact .tup h (.cons (.str _) (.cons (.int _) (.cons (.int _) (.cons (.int _) (.cons (.int _) (.cons (.int _) .nil))))))
  | run k f s l => exact .tup h (.cons (.str _) (.cons (.int _) (.cons (.int _) (.cons (.int _) (.cons (.int _) (.cons (.int _) .nil))))))
theorem dp_bt {K : PySem.W.Frag} {H : Hp} {w : Nat} {v : V} {b : LSt × Option Int} (h : BtAt K H w v b) : Dp K H v (btD w b) := by
  obtain ⟨p, v0, rfl, h1, h2⟩ := h
  exact .tup h1 (.cons (dp_st h2) (.cons dp_opt .nil))
theorem sh_st {w : Nat} {st : LSt} : SeqAt.shaped (st.dat w) = true := by
  cases st with
  | idle => show SeqAt.shaped (.tuple [.str sNone, .int 0, .int 0, .int 0, .int 0, .int 0]) = true; decide +kernel
  | run k f s l => cases k <;> (simp [LSt.dat, SeqAt.shaped, PyData.canLay0, PyData.canLayAll0, PyData.depth, PyData.depthAll, Kd.s]; decide +kernel)
theorem sh_bt {w : Nat} {b : LSt × Option Int} : SeqAt.shaped (btD w b) = true := by
  obtain ⟨st, o⟩ := b
  cases st with
  | idle => cases o <;> (simp [btD, optD, LSt.dat, SeqAt.shaped, PyData.canLay0, PyData.canLayAll0, PyData.depth, PyData.depthAll]; decide +kernel)
  | run k f s l => cases o <;> cases k <;> (simp [btD, optD, LSt.dat, SeqAt.shaped, PyData.canLay0, PyData.canLayAll0, PyData.depth, PyData.depthAll, Kd.s]; decide +kernel)
/-- read back from data -/
theorem dp_tup_inv {K : PySem.W.Frag} {H : Hp} {v : V} {ds : List PyData} (h : Dp K H v (.tuple ds)) : ∃ a xs, v = .ref a ∧ SqT K H a xs ∧ DpAll K H xs ds := by
  cases h with
  | tup h a => exact ⟨_, _, rfl, h, a⟩
theorem dp_int_inv {K : PySem.W.Frag} {H : Hp} {v : V} {i : Int} (h : Dp K H v (.int i)) : v = .int i := by cases h; rfl
theorem dp_str_inv {K : PySem.W.Frag} {H : Hp} {v : V} {i : Str} (h : Dp K H v (.str i)) : v = .str i := by cases h; rfl
theorem dp_non_inv {K : PySem.W.Frag} {H : Hp} {v : V} (h : Dp K H v .none) : v = .non := by cases h; rfl
theorem st_of_dp {K : PySem.W.Frag} {H : Hp} {w : Nat} {v : V} {st : LSt} (h : Dp K H v (st.dat w)) : StAt K H w v st := by
  cases st with
  | idle =>
    obtain ⟨a, xs, rfl, h1, h2⟩ := dp_tup_inv h
    cases h2 with | cons a1 h2 => cases h2 with | cons a2 h2 => cases h2 with | cons a3 h2 => cases h2 with | cons a4 h2 => cases h2 with | cons a5 h2 => cases h2 with | cons a6 h2 => cases h2 with | nil =>
    cases dp_str_inv a1; cases dp_int_inv a2; cases dp_int_inv a3; cases dp_int_inv a4; cases dp_int_inv a5; cases dp_int_inv a6
    exact ⟨a, rfl, h1⟩
  | run k f s l =>
    obtain ⟨a, xs, rfl, h1, h2⟩ := dp_tup_inv h
    cases h2 with | cons a1 h2 => cases h2 with | cons a2 h2 => cases h2 with | cons a3 h2 => cases h2 with | cons a4 h2 => cases h2 with | cons a5 h2 => cases h2 with | cons a6 h2 => cases h2 with | nil =>
    cases dp_str_inv a1; cases dp_int_inv a2; cases dp_int_inv a3; cases dp_int_inv a4; cases dp_int_inv a5; cases dp_int_inv a6
    exact ⟨a, rfl, h1⟩
theorem bt_of_dp {K : PySem.W.Frag} {H : Hp} {w : Nat} {v : V} {b : LSt × Option Int} (h : Dp K H v (btD w b)) : BtAt K H w v b := by
  obtain ⟨a, xs, rfl, h1, h2⟩ := dp_tup_inv h
  cases h2 with | cons a1 h2 => cases h2 with | cons a2 h2 => cases h2 with | nil =>
  rename_i v1 v2
  have e : v2 = optV b.2 := by
    cases hb : b.2 with
    | none => rw [hb] at a2; exact dp_non_inv a2
    | some i => rw [hb] at a2; exact dp_int_inv a2
  subst e
  exact ⟨a, v1, rfl, h1, st_of_dp a1⟩

theorem plain_bt {w : Nat} {b : LSt × Option Int} : plainD (btD w b) = true := by
  obtain ⟨st, o⟩ := b
  cases st with
  | idle => cases o <;> (simp [btD, optD, LSt.dat, plainD, plainAll]; decide +kernel)
  | run k f s l => cases o <;> cases k <;> (simp [btD, optD, LSt.dat, plainD, plainAll, Kd.s]; decide +kernel)
theorem dep_bt {w : Nat} {b : LSt × Option Int} : (btD w b).depth = 2 := by
  obtain ⟨st, o⟩ := b
  cases st with
  | idle => cases o <;> simp [btD, optD, LSt.dat, PyData.depth, PyData.depthAll]
  | run k f s l => cases o <;> cases k <;> simp [btD, optD, LSt.dat, PyData.depth, PyData.depthAll]
theorem re_zero {w : Nat} {k : Kd} {f s : Int} (hk : k ≠ .times) (f0 : 0 ≤ f) (f1 : f < 2 ^ w) (s0 : 0 ≤ s) : reM w k f s 0 = ((qrM f s w).2, (qrM f s w).1) := by
  unfold reM
  obtain ⟨q0, q1, _, _⟩ := qr_bd (s := s) f0 f1 s0
  rw [if_neg hk, Int.pow_zero, Int.ediv_one, Nat.sub_zero, Int.add_comm, Int.add_mul_emod_self_right, Int.emod_eq_of_lt q0 q1]
theorem re_zero_t {w : Nat} {f s : Int} : (reM w .times f s 0).1 = f * s % 2 ^ w := by
  unfold reM
  rw [if_pos rfl, Int.pow_zero, Int.ediv_one]
/-- its word, told as the law tells it -/
theorem kd_ne {k : Kd} (h : k ≠ .times) : ¬ k.s = Str.ofString "times" := by cases k <;> first | exact absurd rfl h | decide +kernel
theorem kd_ne2 {k : Kd} (h : k ≠ .part) : ¬ k.s = Str.ofString "part" := by cases k <;> first | exact absurd rfl h | decide +kernel
theorem kd_nv {k : Kd} (h : k ≠ .times) : ¬ V.str k.s = V.str (Str.ofString "times") := by cases k <;> first | exact absurd rfl h | decide +kernel
theorem kd_nv2 {k : Kd} (h : k ≠ .part) : ¬ V.str k.s = V.str (Str.ofString "part") := by cases k <;> first | exact absurd rfl h | decide +kernel
def AsksAt (K : PySem.W.Frag) (H : Hp) (us : List V) (xs : List Ask) : Prop := Paired (AskAt K H) us xs
theorem AsksAt.ex {K : PySem.W.Frag} {H H' : Hp} {us : List V} {xs : List Ask} (h : AsksAt K H us xs) (e : Ex H H') : AsksAt K H' us xs := Paired.mapP h fun _ _ r => AskAt.ex r e
/-- the state behind asks; what is told -/
def stM (w step : Nat) (st : LSt) : List Ask → LSt
  | [] => st
  | x :: xs => stM w step (btM w step st x).1 xs
def toldM (w step : Nat) (st : LSt) : List Ask → List (Option Int)
  | [] => []
  | x :: xs => (btM w step st x).2 :: toldM w step (btM w step st x).1 xs
theorem stM_app (w step : Nat) (x : Ask) : ∀ (xs : List Ask) (st : LSt), stM w step st (xs ++ [x]) = (btM w step (stM w step st xs) x).1
  | [], _ => rfl
  | _ :: r, _ => stM_app w step x r _
theorem toldM_app (w step : Nat) (x : Ask) : ∀ (xs : List Ask) (st : LSt), toldM w step st (xs ++ [x]) = toldM w step st xs ++ [(btM w step (stM w step st xs) x).2]
  | [], _ => rfl
  | y :: r, st => by show _ :: toldM w step _ (r ++ [x]) = _; rw [toldM_app w step x r]; rfl
theorem toldM_len (w step : Nat) : ∀ (xs : List Ask) (st : LSt), (toldM w step st xs).length = xs.length
  | [], _ => rfl
  | _ :: r, _ => congrArg Nat.succ (toldM_len w step r _)
theorem stM_in {w step : Nat} (h1 : 1 ≤ step) : ∀ {xs : List Ask} {st : LSt}, LIn w step st → (∀ x ∈ xs, AIn w x) → LIn w step (stM w step st xs)
  | [], _, h, _ => h
  | x :: r, _, h, hx => stM_in (xs := r) h1 (bt_in h1 h (hx x (List.mem_cons_self ..))) fun y hy => hx y (List.mem_cons_of_mem _ hy)
theorem take_succ' {α : Type} {xs : List α} {k : Nat} {x : α} (h : xs[k]? = some x) : xs.take (k + 1) = xs.take k ++ [x] := by rw [List.take_add_one, h]; rfl
/-! ### what a row of asks tells -/
theorem toldM_get (w step : Nat) : ∀ (xs : List Ask) (st : LSt) (j : Nat) (x : Ask), xs[j]? = some x → (toldM w step st xs)[j]? = some (btM w step (stM w step st (xs.take j)) x).2
  | [], _, _, _, h => by simp at h
  | y :: r, st, 0, x, h => by simp at h; subst h; rfl
  | y :: r, st, j + 1, x, h => by
    have := toldM_get w step r (btM w step st y).1 j x (by simpa using h)
    show (toldM w step (btM w step st y).1 r)[j]? = _
    rw [this]; rfl
def resM (w : Nat) (k : Kd) (f s : Int) : Int := if k = .part then (reM w k f s 0).2 else (reM w k f s 0).1
def Pend (xs : List Ask) (j : Nat) (k : Kd) (f s : Int) (t : Nat) : Prop := t < j ∧ xs[j - 1 - t]? = some (.beg k f s) ∧ ∀ u, j - 1 - t < u → u < j → xs[u]? = some .non
theorem pend_one {xs : List Ask} {j : Nat} {k k' : Kd} {f s f' s' : Int} {t t' : Nat} (h : Pend xs j k f s t) (h' : Pend xs j k' f' s' t') : t = t' := by
  obtain ⟨a, b, c⟩ := h
  obtain ⟨a', b', c'⟩ := h'
  rcases Nat.lt_trichotomy t t' with h | h | h
  · have := c' (j - 1 - t) (by omega) (by omega); rw [b] at this; cases this
  · exact h
  · have := c (j - 1 - t') (by omega) (by omega); rw [b'] at this; cases this
theorem pend_back {xs : List Ask} {j : Nat} {k : Kd} {f s : Int} {t : Nat} (h : Pend xs (j + 1) k f s t) (hx : xs[j]? = some .non) : ∃ t', t = t' + 1 ∧ Pend xs j k f s t' := by
  obtain ⟨a, b, c⟩ := h
  cases t with
  | zero => rw [show j + 1 - 1 - 0 = j by omega, hx] at b; cases b
  | succ t => exact ⟨t, rfl, by omega, by rw [show j - 1 - t = j + 1 - 1 - (t + 1) by omega]; exact b, fun u h1 h2 => c u (by omega) (by omega)⟩
def cM (w step : Nat) : Nat := (w + step - 1) / step
theorem cM_iff {w step t : Nat} (h1 : 1 ≤ step) (h2 : step ≤ 4) : t * step < w ↔ t < cM w step := by
  unfold cM
  have : step = 1 ∨ step = 2 ∨ step = 3 ∨ step = 4 := by omega
  rcases this with rfl | rfl | rfl | rfl <;> omega
theorem st_pend {w step : Nat} (h1 : 1 ≤ step) (h2 : step ≤ 4) (xs : List Ask) : ∀ j, j ≤ xs.length →
    (∃ k f s t, Pend xs j k f s t ∧ t ≤ cM w step ∧ stM w step .idle (xs.take j) = .run k f s (w - t * step)) ∨
    (stM w step .idle (xs.take j) = .idle ∧ ∀ k f s t, Pend xs j k f s t → cM w step < t)
  | 0, _ => .inr ⟨rfl, fun _ _ _ _ h => absurd h.1 (Nat.not_lt_zero _)⟩
  | j + 1, hj => by
    have ih := st_pend (w := w) h1 h2 xs j (by omega)
    obtain ⟨x, hx⟩ : ∃ x, xs[j]? = some x := ⟨xs[j], List.getElem?_eq_getElem (by omega)⟩
    rw [take_succ' hx, stM_app]
    cases x with
    | stop =>
      refine .inr ⟨by cases stM w step .idle (xs.take j) <;> rfl, fun k f s t h => ?_⟩
      obtain ⟨a, b, c⟩ := h
      by_cases ht : t = 0
      · subst ht; rw [show j + 1 - 1 - 0 = j by omega, hx] at b; cases b
      · have := c j (by omega) (by omega); rw [hx] at this; cases this
    | beg k f s =>
      refine .inl ⟨k, f, s, 0, ⟨by omega, by rw [show j + 1 - 1 - 0 = j by omega]; exact hx, fun u a b => by omega⟩, by omega, ?_⟩
      rw [Nat.zero_mul, Nat.sub_zero]
      cases stM w step .idle (xs.take j) <;> rfl
    | non =>
      rcases ih with ⟨k, f, s, t, hp, ht, hst⟩ | ⟨hst, hno⟩
      · rw [hst]
        have e : (btM w step (.run k f s (w - t * step)) .non).1 = if w - t * step = 0 then .idle else .run k f s (w - t * step - min step (w - t * step)) := by
          show (if w - t * step = 0 then ((.idle, some _) : LSt × Option Int) else (.run k f s (w - t * step - min step (w - t * step)), none)).1 = _
          by_cases hc : w - t * step = 0
          · rw [if_pos hc, if_pos hc]
          · rw [if_neg hc, if_neg hc]
        rw [e]
        have hi := cM_iff (w := w) (t := t) h1 h2
        by_cases hc : w - t * step = 0
        · rw [if_pos hc]
          refine .inr ⟨rfl, fun k' f' s' t' h' => ?_⟩
          obtain ⟨t1, rfl, h3⟩ := pend_back h' hx
          have := pend_one hp h3
          omega
        · rw [if_neg hc]
          refine .inl ⟨k, f, s, t + 1, ?_, by omega, ?_⟩
          · obtain ⟨a, b, c⟩ := hp
            refine ⟨by omega, by rw [show j + 1 - 1 - (t + 1) = j - 1 - t by omega]; exact b, fun u hu1 hu2 => ?_⟩
            by_cases hu : u = j
            · rw [hu]; exact hx
            · exact c u (by omega) (by omega)
          · rw [Nat.succ_mul]; congr 1; omega
      · rw [hst]
        refine .inr ⟨rfl, fun k f s t h => ?_⟩
        obtain ⟨t1, rfl, h3⟩ := pend_back h hx
        have := hno _ _ _ _ h3
        omega
/-- the result at j, by the asks alone -/
theorem told_at {w step : Nat} (h1 : 1 ≤ step) (h2 : step ≤ 4) {xs : List Ask} {j : Nat} {x : Ask} (hx : xs[j]? = some x) :
    (∀ k f s, x = .non → Pend xs j k f s (cM w step) → (toldM w step .idle xs)[j]? = some (some (resM w k f s))) ∧
    ((∀ k f s, ¬ (x = .non ∧ Pend xs j k f s (cM w step))) → (toldM w step .idle xs)[j]? = some none) := by
  have hj : j < xs.length := (List.getElem?_eq_some_iff.mp hx).1
  have hz : ∀ t, t ≤ cM w step → (w - t * step = 0 ↔ t = cM w step) := fun t ht => by
    have := cM_iff (w := w) (t := t) h1 h2
    constructor <;> intro h <;> omega
  refine ⟨fun k f s e hp => ?_, fun hno => ?_⟩
  · subst e
    rw [toldM_get w step xs .idle j _ hx]
    rcases st_pend (w := w) h1 h2 xs j (by omega) with ⟨k', f', s', t, hp', ht, hst⟩ | ⟨hst, hn⟩
    · have et := pend_one hp hp'
      subst et
      obtain ⟨_, b, _⟩ := hp
      obtain ⟨_, b', _⟩ := hp'
      rw [b] at b'; cases b'
      rw [hst, (hz _ (Nat.le_refl _)).mpr rfl]
      rfl
    · exact absurd (hn _ _ _ _ hp) (Nat.lt_irrefl _)
  · rw [toldM_get w step xs .idle j _ hx]
    cases x with
    | stop => cases stM w step .idle (xs.take j) <;> rfl
    | beg k f s => cases stM w step .idle (xs.take j) <;> rfl
    | non =>
      rcases st_pend (w := w) h1 h2 xs j (by omega) with ⟨k', f', s', t, hp', ht, hst⟩ | ⟨hst, hn⟩
      · have : t ≠ cM w step := fun e => hno k' f' s' ⟨rfl, e ▸ hp'⟩
        rw [hst]
        have h0 : ¬ (w - t * step = 0) := fun h => this ((hz t ht).mp h)
        show some (if w - t * step = 0 then ((.idle, some _) : LSt × Option Int) else (.run k' f' s' (w - t * step - min step (w - t * step)), none)).2 = _
        rw [if_neg h0]
      · rw [hst]; rfl
def isNon : Ask → Bool
  | .non => true
  | _ => false
/-- all of them are none -/
theorem pend_iff {xs : List Ask} {i m : Nat} {k : Kd} {f s : Int} (hi : xs[i]? = some (.beg k f s)) (hj : i + m + 1 < xs.length) :
    ((xs.drop (i + 1)).take (m + 1)).all isNon = true ↔ (xs[i + m + 1]? = some .non ∧ Pend xs (i + m + 1) k f s m) := by
  have hnon : ∀ x, isNon x = true → x = .non := fun x h => by cases x <;> first | rfl | cases h
  rw [List.all_eq_true]
  constructor
  · intro h
    have g : ∀ u, i < u → u < i + m + 2 → xs[u]? = some .non := fun u h1 h2 => by
      obtain ⟨y, hy⟩ : ∃ y, xs[u]? = some y := ⟨xs[u], List.getElem?_eq_getElem (by omega)⟩
      have : y ∈ (xs.drop (i + 1)).take (m + 1) := by
        refine List.mem_of_getElem? (i := u - (i + 1)) ?_
        rw [List.getElem?_take, if_pos (by omega), List.getElem?_drop, show i + 1 + (u - (i + 1)) = u by omega]; exact hy
      rw [hy, hnon _ (h y this)]
    refine ⟨g _ (by omega) (by omega), by omega, by rw [show i + m + 1 - 1 - m = i by omega]; exact hi, fun u h1 h2 => g u (by omega) (by omega)⟩
  · rintro ⟨h1, _, _, h4⟩ y hy
    obtain ⟨u, hu⟩ := List.getElem?_of_mem hy
    rw [List.getElem?_take] at hu
    by_cases hc : u < m + 1
    · rw [if_pos hc, List.getElem?_drop] at hu
      by_cases he : u = m
      · subst he
        rw [show i + 1 + u = i + u + 1 by omega, h1] at hu; cases hu; rfl
      · rw [h4 (i + 1 + u) (by omega) (by omega)] at hu; cases hu; rfl
    · rw [if_neg hc] at hu; cases hu
def askD : Ask → PyData
  | .non => .none
  | .stop => .tuple [.str (Str.ofString "stop")]
  | .beg k f s => .tuple [.str (Str.ofString "begin"), .str k.s, .int f, .int s]
theorem dp_ask {K : PySem.W.Frag} {H : Hp} {v : V} {x : Ask} (h : AskAt K H v x) : Dp K H v (askD x) := by
  cases x with
  | non => cases h; exact .non
  | stop => obtain ⟨a, rfl, h⟩ := h; exact .tup h (.cons (.str _) .nil)
  | beg k f s => obtain ⟨a, rfl, h⟩ := h; exact .tup h (.cons (.str _) (.cons (.str _) (.cons (.int _) (.cons (.int _) .nil))))
theorem sh_asks : ∀ xs : List Ask, PyData.canLayAll0 (xs.map askD) = true ∧ PyData.depthAll (xs.map askD) ≤ 1
  | [] => ⟨rfl, Nat.zero_le _⟩
  | x :: r => by
    obtain ⟨h1, h2⟩ := sh_asks r
    rw [List.map_cons, PyData.canLayAll0, PyData.depthAll, h1, Bool.and_true]
    have : PyData.canLay0 (askD x) = true ∧ PyData.depth (askD x) ≤ 1 := by
      cases x with
      | non => exact ⟨rfl, Nat.zero_le _⟩
      | stop => exact ⟨by decide +kernel, by decide +kernel⟩
      | beg k f s => cases k <;> exact ⟨by simp [askD, PyData.canLay0, PyData.canLayAll0, Kd.s]; decide +kernel, by simp [askD, PyData.depth, PyData.depthAll]⟩
    exact ⟨this.1, by omega⟩
theorem dpAll_asks {K : PySem.W.Frag} {H : Hp} : ∀ {us : List V} {xs : List Ask}, AsksAt K H us xs → DpAll K H us (xs.map askD)
  | _, _, .nil => .nil
  | _, _, .cons a b => .cons (dp_ask a) (dpAll_asks b)
theorem AskAt.mut {K : PySem.W.Frag} {H : Hp} {p : Addr} {ys : List V} {o : HO} {v : V} {x : Ask} (hp : H p = some (.lst ys)) (h : AskAt K H v x) : AskAt K (upd H p o) v x := by
  cases x with
  | non => exact h
  | stop => obtain ⟨a, h1, h2⟩ := h; exact ⟨a, h1, sqT_mut hp h2⟩
  | beg => obtain ⟨a, h1, h2⟩ := h; exact ⟨a, h1, sqT_mut hp h2⟩
theorem AsksAt.mut {K : PySem.W.Frag} {H : Hp} {p : Addr} {ys : List V} {o : HO} {us : List V} {xs : List Ask} (hp : H p = some (.lst ys)) (h : AsksAt K H us xs) : AsksAt K (upd H p o) us xs := Paired.mapP h fun _ _ r => AskAt.mut hp r
theorem sqT_exd {K : PySem.W.Frag} {H H' : Hp} {d a : Addr} {xs : List V} (hd : DiceAt H d) (e : ExD d H H') (h : SqT K H a xs) : SqT K H' a xs := by
  obtain ⟨l, m, o, _, _, _, hh⟩ := hd
  rcases h with (h | ⟨u, h⟩) | h
  · exact .inl (.inl (e _ _ (fun z => by rw [z, hh] at h; cases h) h))
  · exact .inl (.inr ⟨u, e _ _ (fun z => by rw [z, hh] at h; cases h) h⟩)
  · exact .inr h
theorem AskAt.exd {K : PySem.W.Frag} {H H' : Hp} {d : Addr} {v : V} {x : Ask} (hd : DiceAt H d) (e : ExD d H H') (h : AskAt K H v x) : AskAt K H' v x := by
  cases x with
  | non => exact h
  | stop => obtain ⟨a, h1, h2⟩ := h; exact ⟨a, h1, sqT_exd hd e h2⟩
  | beg => obtain ⟨a, h1, h2⟩ := h; exact ⟨a, h1, sqT_exd hd e h2⟩
theorem AsksAt.exd {K : PySem.W.Frag} {H H' : Hp} {d : Addr} {us : List V} {xs : List Ask} (hd : DiceAt H d) (e : ExD d H H') (h : AsksAt K H us xs) : AsksAt K H' us xs := Paired.mapP h fun _ _ r => AskAt.exd hd e r
theorem StAt.exd {K : PySem.W.Frag} {H H' : Hp} {d : Addr} {w : Nat} {v : V} {st : LSt} (hd : DiceAt H d) (e : ExD d H H') (h : StAt K H w v st) : StAt K H' w v st := by
  obtain ⟨a, h1, h2⟩ := h; exact ⟨a, h1, sqT_exd hd e h2⟩
theorem StAt.mut {K : PySem.W.Frag} {H : Hp} {p : Addr} {ys : List V} {o : HO} {w : Nat} {v : V} {st : LSt} (hp : H p = some (.lst ys)) (h : StAt K H w v st) : StAt K (upd H p o) w v st := by
  obtain ⟨a, h1, h2⟩ := h; exact ⟨a, h1, sqT_mut hp h2⟩
theorem Paired.appL {α β : Type} {R : α → β → Prop} : ∀ {xs : List α} {ys : List β} {xs' : List α} {ys' : List β}, Paired R xs ys → Paired R xs' ys' → Paired R (xs ++ xs') (ys ++ ys')
  | _, _, _, _, .nil, h => h
  | _, _, _, _, .cons q t, h => .cons q (Paired.appL t h)
theorem asks_nons {K : PySem.W.Frag} {H : Hp} : ∀ n : Nat, AsksAt K H (List.replicate n .non) (List.replicate n .non)
  | 0 => .nil
  | n + 1 => .cons rfl (asks_nons n)
/-- what is told of the first i asks, and their results -/
def FL (T : List (Option Int)) (n m i : Nat) : List V := (List.range n).map fun j => if j < i + m + 1 then optV (T.getD j none) else .non
theorem FL_len {T : List (Option Int)} {n m i : Nat} : (FL T n m i).length = n := by unfold FL; rw [List.length_map, List.length_range]
theorem FL_get {T : List (Option Int)} {n m i j : Nat} (h : j < n) : (FL T n m i)[j]? = some (if j < i + m + 1 then optV (T.getD j none) else .non) := by
  unfold FL; rw [List.getElem?_map, List.getElem?_range h]; rfl
theorem FL_same {T : List (Option Int)} {n m i : Nat} (h : i + m + 1 < n → T.getD (i + m + 1) none = none) : FL T n m (i + 1) = FL T n m i := by
  unfold FL
  apply List.map_congr_left
  intro j hj
  have hj := List.mem_range.mp hj
  by_cases e : j = i + m + 1
  · subst e; rw [if_pos (by omega), if_neg (by omega), h hj]; rfl
  · by_cases h2 : j < i + m + 1
    · rw [if_pos (by omega), if_pos h2]
    · rw [if_neg (by omega), if_neg h2]
theorem FL_set {T : List (Option Int)} {n m i : Nat} (h : i + m + 1 < n) : (FL T n m i).set (i + m + 1) (optV (T.getD (i + m + 1) none)) = FL T n m (i + 1) := by
  apply List.ext_getElem?
  intro j
  by_cases hj : j < n
  · rw [List.getElem?_set, FL_get hj, FL_get hj, FL_len]
    by_cases e : i + m + 1 = j
    · subst e; rw [if_pos rfl, if_pos h, if_pos (by omega)]
    · rw [if_neg e]
      by_cases h2 : j < i + m + 1
      · rw [if_pos h2, if_pos (by omega)]
      · rw [if_neg h2, if_neg (by omega)]
  · rw [List.getElem?_eq_none (by rw [List.length_set, FL_len]; omega), List.getElem?_eq_none (by rw [FL_len]; omega)]
theorem FL_zero {T : List (Option Int)} {n m : Nat} (h : ∀ j, j < n → j < m + 1 → T.getD j none = none) : FL T n m 0 = List.replicate n .non := by
  apply List.ext_getElem?
  intro j
  by_cases hj : j < n
  · rw [FL_get hj, List.getElem?_replicate, if_pos hj]
    by_cases h2 : j < 0 + m + 1
    · rw [if_pos h2, h j hj (by omega)]; rfl
    · rw [if_neg h2]
  · rw [List.getElem?_eq_none (by rw [FL_len]; omega), List.getElem?_eq_none (by rw [List.length_replicate]; omega)]
theorem FL_all {T : List (Option Int)} {n m : Nat} (h : T.length = n) : FL T n m n = T.map optV := by
  apply List.ext_getElem?
  intro j
  by_cases hj : j < n
  · rw [FL_get hj, if_pos (by omega), List.getElem?_map, List.getElem?_eq_getElem (by omega)]
    simp [List.getD, List.getElem?_eq_getElem (show j < T.length by omega)]
  · rw [List.getElem?_eq_none (by rw [FL_len]; omega), List.getElem?_eq_none (by rw [List.length_map]; omega)]
theorem getD_some {α : Type} {xs : List α} {i : Nat} {x d : α} (h : xs[i]? = some x) : xs.getD i d = x := by simp [List.getD, h]
theorem sh_opts : ∀ xs : List (Option Int), PyData.canLayAll0 (xs.map optD) = true ∧ PyData.depthAll (xs.map optD) = 0
  | [] => ⟨rfl, rfl⟩
  | x :: r => by
    obtain ⟨h1, h2⟩ := sh_opts r
    rw [List.map_cons, PyData.canLayAll0, PyData.depthAll, h1, h2, Bool.and_true]
    cases x <;> exact ⟨rfl, rfl⟩
theorem dpAll_opts {K : PySem.W.Frag} {H : Hp} : ∀ xs : List (Option Int), DpAll K H (xs.map optV) (xs.map optD)
  | [] => .nil
  | _ :: r => .cons dp_opt (dpAll_opts r)
theorem sh_optL (xs : List (Option Int)) : SeqAt.shaped (.list (xs.map optD)) = true := by
  obtain ⟨h1, h2⟩ := sh_opts xs
  unfold SeqAt.shaped
  rw [PyData.canLay0, PyData.depth, h1, h2]; rfl
theorem sh_optT (xs : List (Option Int)) : SeqAt.shaped (.tuple (xs.map optD)) = true := by
  obtain ⟨h1, h2⟩ := sh_opts xs
  unfold SeqAt.shaped
  rw [PyData.canLay0, PyData.depth, h1, h2]; rfl
/-! ### plain values, and which are states -/
inductive Sc : V → Prop
  | non : Sc .non
  | bl (b : Bool) : Sc (.bl b)
  | int (i : Int) : Sc (.int i)
  | str (z : Str) (h : PyData.canLay0 (.str z) = true) : Sc (.str z)
theorem Sc.typd {K : PySem.W.Frag} {H : Hp} {v : V} (h : Sc v) : Typd K H v := by
  cases h with
  | non => exact ⟨"NoneType", by decide, .base .non⟩
  | bl b => exact ⟨"bool", by decide, .base (.bl b)⟩
  | int i => exact .int
  | str z => exact ⟨"str", by decide, .base (.str z)⟩
def scD : V → PyData
  | .bl b => .bool b
  | .int i => .int i
  | .str z => .str z
  | _ => .none
theorem Sc.dp {K : PySem.W.Frag} {H : Hp} {v : V} (h : Sc v) : Dp K H v (scD v) := by
  cases h with
  | non => exact .non
  | bl b => exact .bl b
  | int i => exact .int i
  | str z => exact .str z
theorem Sc.flat {v : V} (h : Sc v) : flatV v = true := by cases h <;> rfl
theorem Sc.lay {v : V} (h : Sc v) : PyData.canLay0 (scD v) = true := by
  cases h with
  | non => rfl
  | bl b => rfl
  | int i => rfl
  | str z h => exact h
theorem Sc.dep (v : V) : PyData.depth (scD v) = 0 := by cases v <;> rfl
theorem dpAll_sc {K : PySem.W.Frag} {H : Hp} : ∀ {xs : List V}, (∀ x ∈ xs, Sc x) → DpAll K H xs (xs.map scD)
  | [], _ => .nil
  | x :: r, h => .cons (h x (List.mem_cons_self ..)).dp (dpAll_sc fun y hy => h y (List.mem_cons_of_mem _ hy))
theorem lay_sc : ∀ {xs : List V}, (∀ x ∈ xs, Sc x) → PyData.canLayAll0 (xs.map scD) = true ∧ PyData.depthAll (xs.map scD) = 0
  | [], _ => ⟨rfl, rfl⟩
  | x :: r, h => by
    obtain ⟨h1, h2⟩ := lay_sc (xs := r) fun y hy => h y (List.mem_cons_of_mem _ hy)
    rw [List.map_cons, PyData.canLayAll0, PyData.depthAll, h1, h2, (h x (List.mem_cons_self ..)).lay, Sc.dep]; exact ⟨rfl, rfl⟩
theorem sh_sc {xs : List V} (h : ∀ x ∈ xs, Sc x) : SeqAt.shaped (.tuple (xs.map scD)) = true := by
  obtain ⟨h1, h2⟩ := lay_sc h
  unfold SeqAt.shaped
  rw [PyData.canLay0, PyData.depth, h1, h2]; rfl
/-- a value is a state -/
def IsL (w step : Nat) (o : Option (List V)) : Prop := ∃ st, LIn w step st ∧ o = some (LSt.vs w st)
theorem btw_iff {v : V} {lo hi : Int} : btw v lo hi = true ↔ ∃ i, v = .int i ∧ lo ≤ i ∧ i ≤ hi ∧ -(10 ^ 60) < i ∧ i < 10 ^ 60 := by
  constructor
  · intro h
    cases v with
    | int i =>
      by_cases hI : isI (.int i) = true
      · rw [btw_if hI] at h
        by_cases h1 : lo ≤ i
        · rw [if_pos h1] at h
          exact ⟨i, rfl, h1, of_decide_eq_true h, (of_decide_eq_true hI).1, (of_decide_eq_true hI).2⟩
        · rw [if_neg h1] at h; cases h
      · rw [btw_not (Bool.eq_false_iff.mpr hI)] at h; cases h
    | _ => cases h
  · rintro ⟨i, rfl, h1, h2, h3, h4⟩
    exact btw_ok h1 h2 h3 h4
theorem isL_in {w step : Nat} {k f s l o t : V} (hw : w ≤ 16) (h : IsL w step (some [k, f, s, l, o, t])) : btw f 0 (2 ^ w - 1) = true ∧ btw s 0 (2 ^ w - 1) = true ∧ btw o 0 (2 ^ w - 1) = true ∧ btw t 0 (2 ^ w - 1) = true ∧ btw l 0 w = true := by
  obtain ⟨st, hi, e⟩ := h
  have hp : (2 : Int) ^ w ≤ 2 ^ 16 := pow_le hw
  have hp0 := pow_pos' w
  have ok : ∀ i : Int, 0 ≤ i → i < 2 ^ w → btw (.int i) 0 (2 ^ w - 1) = true := fun i a b => btw_ok a (by omega) (by omega) (by omega)
  cases st with
  | idle =>
    cases e
    exact ⟨ok _ (by omega) hp0, ok _ (by omega) hp0, ok _ (by omega) hp0, ok _ (by omega) hp0, btw_ok (by omega) (by omega) (by omega) (by omega)⟩
  | run k f s l =>
    obtain ⟨a, b, c, d, e9, _⟩ := hi
    obtain ⟨g1, g2, g3, g4⟩ := re_bd (k := k) (s := s) e9 a b c
    cases e
    exact ⟨ok _ a b, ok _ c d, ok _ g1 g2, ok _ g3 g4, btw_ok (by omega) (by omega) (by omega) (by omega)⟩
/-- a beat, told by what stands in the heap itself -/
def BtH (H : Hp) (w : Nat) (v : V) (b : LSt × Option Int) : Prop := ∃ p a, v = .ref p ∧ H p = some (.tup [.ref a, optV b.2]) ∧ H a = some (.tup (LSt.vs w b.1))
theorem BtH.at {K : PySem.W.Frag} {H : Hp} {w : Nat} {v : V} {b : LSt × Option Int} (h : BtH H w v b) : BtAt K H w v b := by
  obtain ⟨p, a, rfl, h1, h2⟩ := h; exact ⟨p, _, rfl, .of h1, a, rfl, .of h2⟩
theorem sc_st {w : Nat} {st : LSt} : ∀ x ∈ LSt.vs w st, Sc x := by
  intro x hx
  cases st with
  | idle =>
    simp only [LSt.vs, List.mem_cons, List.mem_nil_iff, or_false] at hx
    rcases hx with rfl | rfl | rfl | rfl | rfl | rfl
    · exact .str _ (by decide +kernel)
    all_goals exact .int _
  | run k f s l =>
    simp only [LSt.vs, List.mem_cons, List.mem_nil_iff, or_false] at hx
    rcases hx with rfl | rfl | rfl | rfl | rfl | rfl
    · exact .str _ (by cases k <;> decide +kernel)
    all_goals exact .int _
/-! ### keys -/
def LSt.key (w : Nat) : LSt → List L2.Key
  | .idle => [.inr sNone, .inl 0, .inl 0, .inl 0, .inl 0, .inl 0]
  | .run k f s l => [.inr k.s, .inl f, .inl s, .inl l, .inl (reM w k f s l).1, .inl (reM w k f s l).2]
theorem LSt.key_vs {w : Nat} {st : LSt} : (st.key w).map kV = st.vs w := by cases st <;> rfl
theorem kd_inj {k k' : Kd} (h : k.s = k'.s) : k = k' := by cases k <;> cases k' <;> first | rfl | (simp only [Kd.s, ofStr_inj] at h; exact absurd h (by decide))
theorem LSt.vs_inj {w : Nat} {a b : LSt} (h : a.vs w = b.vs w) : a = b := by
  cases a with
  | idle =>
    cases b with
    | idle => rfl
    | run k f s l => cases k <;> (simp only [LSt.vs, Kd.s, List.cons.injEq, V.str.injEq, ofStr_inj] at h; exact absurd h.1 (by decide))
  | run k f s l =>
    cases b with
    | idle => cases k <;> (simp only [LSt.vs, Kd.s, List.cons.injEq, V.str.injEq, ofStr_inj] at h; exact absurd h.1 (by decide))
    | run k' f' s' l' =>
      simp only [LSt.vs, List.cons.injEq, V.str.injEq, V.int.injEq] at h
      obtain ⟨e1, rfl, rfl, e4, _⟩ := h
      have e1 := kd_inj e1
      have e4 : l = l' := by omega
      subst e1 e4; rfl
theorem LSt.key_inj {w : Nat} {a b : LSt} (h : a.key w = b.key w) : a = b := LSt.vs_inj (w := w) (by rw [← LSt.key_vs, ← LSt.key_vs, h])
/-- just the states are keys -/
def AllSt (w step : Nat) (kvs : List (List L2.Key × V)) : Prop := kvs.length ≤ 1000 ∧ (∀ e ∈ kvs, ∃ st, LIn w step st ∧ e.1 = st.key w) ∧ ∀ st, LIn w step st → (valV kvs (st.key w)).isSome = true
def KI (w step : Nat) (kvs : List (List L2.Key × V)) (P : Kd → Int → Int → Nat → Prop) : Prop :=
  (∀ e ∈ kvs, e.1 = LSt.idle.key w ∨ ∃ k f s l, P k f s l ∧ LIn w step (.run k f s l) ∧ e.1 = (LSt.run k f s l).key w) ∧ (valV kvs (LSt.idle.key w)).isSome = true ∧
  ∀ k f s l, P k f s l → LIn w step (.run k f s l) → (valV kvs ((LSt.run k f s l).key w)).isSome = true
theorem valV_some {κ : Type} [DecidableEq κ] {kvs : List (κ × V)} {k : κ} : (valV kvs k).isSome = true ↔ ∃ e ∈ kvs, e.1 = k := by
  rw [← valV_any, List.any_eq_true]
  constructor
  · rintro ⟨e, h1, h2⟩; exact ⟨e, h1, of_decide_eq_true h2⟩
  · rintro ⟨e, h1, h2⟩; exact ⟨e, h1, decide_eq_true h2⟩
theorem KI.iff {w step : Nat} {kvs : List (List L2.Key × V)} {P P' : Kd → Int → Int → Nat → Prop} (h : KI w step kvs P) (e : ∀ k f s l, LIn w step (.run k f s l) → (P k f s l ↔ P' k f s l)) : KI w step kvs P' := by
  obtain ⟨a, b, c⟩ := h
  refine ⟨fun x hx => ?_, b, fun k f s l hp hl => c k f s l ((e _ _ _ _ hl).mpr hp) hl⟩
  rcases a x hx with h | ⟨k, f, s, l, h1, h2, h3⟩
  · exact .inl h
  · exact .inr ⟨k, f, s, l, (e _ _ _ _ h2).mp h1, h2, h3⟩
theorem KI.fresh {w step : Nat} {kvs : List (List L2.Key × V)} {P : Kd → Int → Int → Nat → Prop} (h : KI w step kvs P) {k : Kd} {f s : Int} {l : Nat} (hn : ¬ P k f s l) : valV kvs ((LSt.run k f s l).key w) = none := by
  cases hv : valV kvs ((LSt.run k f s l).key w) with
  | none => rfl
  | some v =>
    exfalso
    obtain ⟨e, he, h2⟩ := valV_some.mp (show (valV kvs ((LSt.run k f s l).key w)).isSome = true by rw [hv]; rfl)
    rcases h.1 e he with h3 | ⟨k', f', s', l', h4, _, h5⟩
    · have := LSt.key_inj (h2.symm.trans h3); cases this
    · have := LSt.key_inj (h2.symm.trans h5)
      cases this
      exact hn h4
theorem KI.put {w step : Nat} {kvs : List (List L2.Key × V)} {P : Kd → Int → Int → Nat → Prop} (h : KI w step kvs P) {k : Kd} {f s : Int} {l : Nat} {v : V} (hl : LIn w step (.run k f s l)) (hn : ¬ P k f s l) :
    KI w step (putK kvs ((LSt.run k f s l).key w) v) (fun k' f' s' l' => P k' f' s' l' ∨ (k' = k ∧ f' = f ∧ s' = s ∧ l' = l)) ∧ (putK kvs ((LSt.run k f s l).key w) v).length = kvs.length + 1 := by
  have hv := h.fresh hn
  have e : putK kvs ((LSt.run k f s l).key w) v = kvs ++ [((LSt.run k f s l).key w, v)] := by
    unfold putK
    rw [if_neg]
    rw [valV_any, hv]; decide
  rw [e]
  refine ⟨⟨fun x hx => ?_, ?_, fun k' f' s' l' hp hl' => ?_⟩, by rw [List.length_append]; rfl⟩
  · rcases List.mem_append.mp hx with h1 | h1
    · rcases h.1 x h1 with h2 | ⟨k', f', s', l', h3, h4, h5⟩
      · exact .inl h2
      · exact .inr ⟨k', f', s', l', .inl h3, h4, h5⟩
    · rw [List.mem_singleton.mp h1]
      exact .inr ⟨k, f, s, l, .inr ⟨rfl, rfl, rfl, rfl⟩, hl, rfl⟩
  · obtain ⟨e, h1, h2⟩ := valV_some.mp h.2.1
    exact valV_some.mpr ⟨e, List.mem_append_left _ h1, h2⟩
  · rcases hp with hp | ⟨rfl, rfl, rfl, rfl⟩
    · obtain ⟨e, h1, h2⟩ := valV_some.mp (h.2.2 _ _ _ _ hp hl')
      exact valV_some.mpr ⟨e, List.mem_append_left _ h1, h2⟩
    · exact valV_some.mpr ⟨_, List.mem_append_right _ (List.mem_singleton.mpr rfl), rfl⟩
def kidx : Kd → Nat
  | .times => 0
  | .part => 1
  | .rest => 2
theorem kidx_inj {k k' : Kd} (h : kidx k = kidx k') : k = k' := by cases k <;> cases k' <;> first | rfl | (simp [kidx] at h)
/-- no state lies between one and the next -/
theorem gap {w step l l' : Nat} (h1 : 1 ≤ step) (h2 : step ≤ 4) (hl : 0 < l) (hw : l ≤ w) (hw' : l' ≤ w) (hm : (w - l) % step = 0) (hm' : 0 < l' → (w - l') % step = 0) : l ≤ l' ↔ l - min step l < l' := by
  constructor
  · intro h; omega
  · intro h
    have hm' := hm' (by omega)
    have : step = 1 ∨ step = 2 ∨ step = 3 ∨ step = 4 := by omega
    rcases this with rfl | rfl | rfl | rfl <;> omega
theorem slA_use {K : PySem.W.Frag} {H : Hp} {a : Addr} {xs : List V} {lo hi : Option Int} {Q : VK} (h : SqT K H a xs) (q : ∀ p H', Ex H H' → SqT K H' p (cutV xs lo hi) → Q (.ref p) H') : rSlA K (.ref a) lo hi H Q := by
  refine ⟨a, xs, rfl, h, fun hw => q _ _ (Ex.refl _) ?_, fun _ p hp => q _ _ (ex_upd hp) (.of upd_same)⟩
  have : cutV xs lo hi = xs := by
    unfold cutV
    rw [hw.1, hw.2, List.drop_zero, Nat.sub_zero, List.take_length]
  rw [this]; exact h
theorem catT_use {K : PySem.W.Frag} {H : Hp} {a b : Addr} {xs ys : List V} {Q : VK} (ha : SqT K H a xs) (hb : SqT K H b ys) (hz : xs.length + ys.length ≤ 100000) (q : ∀ v H', Ex H H' → SqT K H' v (xs ++ ys) → Q (.ref v) H') : rCatA K (.ref a) (.ref b) H Q := by
  refine ⟨a, b, xs, ys, rfl, rfl, ha, hb, by rw [sizeLine_eq]; omega, fun e => ?_, fun e1 e2 => ?_, fun e1 e2 p hp => ?_⟩
  · subst e; exact q b H (Ex.refl H) hb
  · subst e2; exact q a H (Ex.refl H) (by rw [List.append_nil]; exact ha)
  · exact q p _ (ex_upd hp) (.of upd_same)
/-- no state at all -/
def Bad (K : PySem.W.Frag) (w step : Nat) (H : Hp) (v : V) : Prop := ∃ o, TO K H v o ∧ (∀ xs, o = some xs → ∀ x ∈ xs, Sc x) ∧ ¬ IsL w step o
theorem Bad.ex {K : PySem.W.Frag} {w step : Nat} {H H' : Hp} {v : V} (e : Ex H H') (h : Bad K w step H v) : Bad K w step H' v := by
  obtain ⟨o, h1, h2, h3⟩ := h; exact ⟨o, ex_to e h1, h2, h3⟩
theorem ty_mut {K : PySem.W.Frag} {H : Hp} {p : Addr} {ys zs : List V} {v : V} {t : Value} (hp : H p = some (.lst ys)) (h : TyX K H v t) : TyX K (upd H p (.lst zs)) v t := by
  have ne : ∀ a o, H a = some o → (∀ l, o ≠ .lst l) → upd H p (.lst zs) a = some o := fun a o h n => by rw [upd_ne (fun z => by rw [z, hp] at h; cases h; exact n _ rfl)]; exact h
  cases h with
  | base b =>
    cases b with
    | non => exact .base .non
    | bl b => exact .base (.bl b)
    | int b => exact .base (.int b)
    | str b => exact .base (.str b)
    | flt b => exact .base (.flt b)
    | @lst a xs h =>
      by_cases e : a = p
      · subst e; exact .base (.lst upd_same)
      · exact .base (.lst (by rw [upd_ne e]; exact h))
    | frz h => exact .base (.frz (ne _ _ h (fun l => by intro z; cases z)))
    | tup h => exact .base (.tup (ne _ _ h (fun l => by intro z; cases z)))
    | dK h => exact .base (.dK (ne _ _ h (fun l => by intro z; cases z)))
    | dT h => exact .base (.dT (ne _ _ h (fun l => by intro z; cases z)))
    | ins h a b c d f => exact .base (.ins (ne _ _ h (fun l => by intro z; cases z)) a b c d f)
  | byt b => exact .byt b
  | set h => exact .set (ne _ _ h (fun l => by intro z; cases z))
  | kList a b => exact .kList a b
  | kTuple a b => exact .kTuple a b
  | kDict a b => exact .kDict a b
  | fTuple h => exact .fTuple (ne _ _ h (fun l => by intro z; cases z))
  | fDict h => exact .fDict (ne _ _ h (fun l => by intro z; cases z))
theorem Bad.mut {K : PySem.W.Frag} {w step : Nat} {H : Hp} {p : Addr} {ys zs : List V} {v : V} (hp : H p = some (.lst ys)) (h : Bad K w step H v) : Bad K w step (upd H p (.lst zs)) v := by
  obtain ⟨o, h1, h2, h3⟩ := h
  refine ⟨o, ?_, h2, h3⟩
  cases o with
  | some xs => obtain ⟨a, e, h⟩ := h1; exact ⟨a, e, sqT_mut hp h⟩
  | none => obtain ⟨n, a, b, c⟩ := h1; exact ⟨n, a, b, ty_mut hp c⟩
theorem isL_six {w step : Nat} {xs : List V} (h : IsL w step (some xs)) : xs.length = 6 := by
  obtain ⟨st, _, e⟩ := h
  cases e
  cases st <;> rfl
theorem isL_none {w step : Nat} : ¬ IsL w step none := fun ⟨_, _, e⟩ => by cases e
theorem isL_head {w step : Nat} {k : V} {r : List V} (h : IsL w step (some (k :: r))) : k = .str sNone ∨ ∃ kk : Kd, k = .str kk.s := by
  obtain ⟨st, _, e⟩ := h
  cases st with
  | idle => cases e; exact .inl rfl
  | run kk f s l => cases e; exact .inr ⟨kk, rfl⟩
theorem isL_zero {w step : Nat} {r : List V} (h : IsL w step (some (.str sNone :: r))) : r = [.int 0, .int 0, .int 0, .int 0, .int 0] := by
  obtain ⟨st, _, e⟩ := h
  cases st with
  | idle => cases e; rfl
  | run kk f s l => cases kk <;> (simp only [LSt.vs, Kd.s, Option.some.injEq, List.cons.injEq, V.str.injEq, ofStr_inj] at e; exact absurd e.1 (by decide))
theorem Bad.tup {K : PySem.W.Frag} {w step : Nat} {H : Hp} {a : Addr} {xs : List V} (h : SqT K H a xs) (hs : ∀ x ∈ xs, Sc x) (hn : ¬ IsL w step (some xs)) : Bad K w step H (.ref a) := ⟨some xs, ⟨a, rfl, h⟩, fun _ e => (by cases e; exact hs), hn⟩
theorem Bad.oth {K : PySem.W.Frag} {w step : Nat} {H : Hp} {v : V} {n : String} (h : TyX K H v (.type n)) (h1 : n ∈ kinds) (h2 : n ≠ "tuple") : Bad K w step H v := ⟨none, ⟨n, h1, h2, h⟩, fun _ e => (by cases e), isL_none⟩
theorem sc6 (z : Str) (h : PyData.canLay0 (.str z) = true) (a b c d e : Int) : ∀ x ∈ [V.str z, .int a, .int b, .int c, .int d, .int e], Sc x := by
  intro x hx
  simp only [List.mem_cons, List.mem_nil_iff, or_false] at hx
  rcases hx with rfl | rfl | rfl | rfl | rfl | rfl
  · exact .str _ h
  all_goals exact .int _
local macro_rules | `(tactic| walk_at "rd") => `(tactic|
  simp only [tSeq, tAsg, gName, tVar, tC, tOp, tUn, rI, rI0, rU, rEq, rNe, tTest, tB, tNot, tAnd, tOr, tIfS, tRet, tRetN, tNext, tNever, tDrop, tCall, tCallN, tCallK, tCons, tNil, tTup, tLst, tIf, tIfV, tAndV, tOrV, tNotV, tPar, tPar3, tAug, ipI, tChain, tCB, tBM, tSl, tPart, tNoPart, tRevL,
    L2.start, List.map_cons, List.map_nil, List.length_cons, List.length_nil, List.replicate, List.cons_append, List.nil_append, List.append_nil, Nat.reduceAdd, Nat.reduceSub, List.set, List.getElem?_cons_zero, List.getElem?_cons_succ,
    ex_eq_l, exists_eq_left, exists_eq_left', exists_and_left, exists_and_right, exists_eq_right, exists_eq, exists_eq', and_assoc, Option.some.injEq, V.int.injEq, V.bl.injEq, V.str.injEq, V.ref.injEq, List.cons.injEq, and_true, true_and, decide_eq_true_eq, Bool.not_eq_true', decide_eq_false_iff_not, Bool.false_eq_true, Bool.true_eq_false, reduceCtorEq, if_false, if_true, ite_true, ite_false, reduceIte, ite_not, not_true_eq_false, not_false_eq_true, scal_ii, scal_bb, scal_ss, eq_self_iff_true, Int.reduceNeg, cxK, gSub, tLc_eq, L2.wipe, List.map, tFor_eq, iRng1, iRng2, iList, iTup, iEnum, iEnumT, iZip, gTup, gCons, gNil, Int.toNat_natCast, Int.toNat_zero, forall_const, false_and, and_false, exists_const, exists_false, or_false, false_or, ofStr_inj, String.reduceEq, tDIn, tDNotIn, sDPut, tDNewT, tDisp1T, tDc_eq, Option.isSome_none, Option.isSome_some, decide_true, decide_false])
local macro_rules | `(tactic| walk_at "rt") => `(tactic| try walk_at "rd")
local macro_rules | `(tactic| walk_at "r1") => `(tactic| (try simp only [tAsg, gName, tVar, tC, tOp, tUn, rI, rI0, rU, rEq, rNe, tTest, tB, tNot, tAnd, tOr, tIfS, tRet, tRetN, tNext, tNever, tDrop, tCall, tCallN, tCallK, tCons, tNil, tTup, tLst, tIf, tIfV, tAndV, tOrV, tNotV, tPar, tPar3, tAug, ipI, tChain, tCB, tBM, tSl, tPart, tNoPart, tRevL,     L2.start, List.map_cons, List.map_nil, List.length_cons, List.length_nil, List.replicate, List.cons_append, List.nil_append, List.append_nil, Nat.reduceAdd, Nat.reduceSub, List.set, List.getElem?_cons_zero, List.getElem?_cons_succ,     ex_eq_l, exists_eq_left, exists_eq_left', exists_and_left, exists_and_right, exists_eq_right, exists_eq, exists_eq', and_assoc, Option.some.injEq, V.int.injEq, V.bl.injEq, V.str.injEq, V.ref.injEq, List.cons.injEq, and_true, true_and, decide_eq_true_eq, Bool.not_eq_true', decide_eq_false_iff_not, Bool.false_eq_true, Bool.true_eq_false, reduceCtorEq, if_false, if_true, ite_true, ite_false, reduceIte, ite_not, not_true_eq_false, not_false_eq_true, scal_ii, scal_bb, scal_ss, eq_self_iff_true, Int.reduceNeg, cxK, gSub, tLc_eq, L2.wipe, List.map, tFor_eq, iRng1, iRng2, iList, iTup, iEnum, iEnumT, iZip, gTup, gCons, gNil, Int.toNat_natCast, Int.toNat_zero, forall_const, false_and, and_false, exists_const, exists_false, or_false, false_or, ofStr_inj, String.reduceEq, tDIn, tDNotIn, sDPut, tDNewT, tDisp1T, tDc_eq, Option.isSome_none, Option.isSome_some, decide_true, decide_false]))
local macro_rules | `(tactic| walk_at "rs") => `(tactic| (walk_at "r1"; (try refine tSeq_go ?_); walk_at "r1"; (try refine tSeq_go ?_); walk_at "r1"))
local macro_rules | `(tactic| walk_at "go1") => `(tactic| first
  | (with_reducible refine ⟨by omega, ?_⟩) | (with_reducible refine ⟨by decide, ?_⟩) | (with_reducible refine ⟨mulL (by omega), ?_⟩) | (with_reducible refine ⟨mulR (by omega), ?_⟩) | (with_reducible refine ⟨cpow_ok (by omega) (by omega) (by omega), ?_⟩)
  | (with_reducible refine ⟨_, (by assumption : SqT _ _ _ _), ?_⟩) | (with_reducible refine ⟨_, (by assumption : SqL _ _ _ _), ?_⟩) | (with_reducible refine ⟨_, Or.inl (by assumption : SqL _ _ _ _), ?_⟩) | (with_reducible refine ⟨_, Or.inr (by assumption : SqT _ _ _ _), ?_⟩) | (refine ixT (by assumption) rfl ?_) | (refine ixL (by assumption) rfl ?_)
  | (with_reducible refine ⟨_, SqT.of upd_same, ?_⟩) | (with_reducible refine ⟨_, Or.inr (SqT.of upd_same), ?_⟩) | (with_reducible refine ⟨_, Or.inl (SqL.of upd_same), ?_⟩) | (with_reducible refine ⟨rfl, ?_⟩) | (with_reducible refine ⟨_, rfl, ?_⟩))
local macro_rules | `(tactic| walk_at "go") => `(tactic| ((try walk_at "rs"); repeat (walk_at "go1"; (try walk_at "rs"))))
def topS (i : Nat) : Stmt := PySem.Challenge.pw_truebeat_k27_whole_states_that_can_be.main.body.getD i (.Pass ⟨0, 0, 0, 0⟩)
abbrev s_is_integer : Stmt := topS 2
abbrev s_is_between : Stmt := topS 3
abbrev s_is_index : Stmt := topS 4
abbrev s_is_word_of : Stmt := topS 5
abbrev s_is_tuple_of : Stmt := topS 6
abbrev s_plainly_made : Stmt := topS 8
abbrev s_check_number : Stmt := topS 15
abbrev s_check_long : Stmt := topS 21
abbrev s_quotient_and_rest : Stmt := topS 22
abbrev s_reached_words : Stmt := topS 23
abbrev s_is_long_state : Stmt := topS 24
abbrev s_is_long : Stmt := topS 25
abbrev s_is_ask : Stmt := topS 26
abbrev s_round_behind : Stmt := topS 27
abbrev s_beat_behind : Stmt := topS 28
abbrev s_long_beat : Stmt := topS 29
abbrev s_law_dice : Stmt := topS 31
abbrev s_law_roll : Stmt := topS 32
abbrev s_law_one_of : Stmt := topS 33
abbrev s_law_two_to : Stmt := topS 34
abbrev s_law_round : Stmt := topS 35
abbrev s_law_beat : Stmt := topS 36
abbrev s_law_begin_drawn : Stmt := topS 38
abbrev s_law_all_states : Stmt := topS 40
abbrev s_law_small_right : Stmt := topS 41
abbrev s_law_is_state : Stmt := topS 42
abbrev s_law_great_right : Stmt := topS 43
abbrev s_law : Stmt := topS 44
abbrev N_is_integer : List Str := ["value"]
abbrev P_is_integer : List Str := ["value"]
theorem sc_is_integer : FnScope N_is_integer P_is_integer (defScope s_is_integer) := ⟨rfl, rfl, rfl, by decide +kernel, rfl, by decide +kernel, by decide +kernel⟩
abbrev N_is_between : List Str := ["value", "least", "most"]
abbrev P_is_between : List Str := ["value", "least", "most"]
theorem sc_is_between : FnScope N_is_between P_is_between (defScope s_is_between) := ⟨rfl, rfl, rfl, by decide +kernel, rfl, by decide +kernel, by decide +kernel⟩
abbrev N_is_index : List Str := ["value", "many"]
abbrev P_is_index : List Str := ["value", "many"]
theorem sc_is_index : FnScope N_is_index P_is_index (defScope s_is_index) := ⟨rfl, rfl, rfl, by decide +kernel, rfl, by decide +kernel, by decide +kernel⟩
abbrev N_is_word_of : List Str := ["bits", "value"]
abbrev P_is_word_of : List Str := ["bits", "value"]
theorem sc_is_word_of : FnScope N_is_word_of P_is_word_of (defScope s_is_word_of) := ⟨rfl, rfl, rfl, by decide +kernel, rfl, by decide +kernel, by decide +kernel⟩
abbrev N_is_tuple_of : List Str := ["value", "least", "most"]
abbrev P_is_tuple_of : List Str := ["value", "least", "most"]
theorem sc_is_tuple_of : FnScope N_is_tuple_of P_is_tuple_of (defScope s_is_tuple_of) := ⟨rfl, rfl, rfl, by decide +kernel, rfl, by decide +kernel, by decide +kernel⟩
abbrev N_plainly_made : List Str := ["value", "member", "key"]
abbrev P_plainly_made : List Str := ["value"]
theorem sc_plainly_made : FnScope N_plainly_made P_plainly_made (defScope s_plainly_made) := ⟨rfl, rfl, rfl, by decide +kernel, rfl, by decide +kernel, by decide +kernel⟩
abbrev N_check_number : List Str := ["value", "least", "most"]
abbrev P_check_number : List Str := ["value", "least", "most"]
theorem sc_check_number : FnScope N_check_number P_check_number (defScope s_check_number) := ⟨rfl, rfl, rfl, by decide +kernel, rfl, by decide +kernel, by decide +kernel⟩
abbrev N_check_long : List Str := ["width", "step"]
abbrev P_check_long : List Str := ["width", "step"]
theorem sc_check_long : FnScope N_check_long P_check_long (defScope s_check_long) := ⟨rfl, rfl, rfl, by decide +kernel, rfl, by decide +kernel, by decide +kernel⟩
abbrev N_quotient_and_rest : List Str := ["one", "other", "bits"]
abbrev P_quotient_and_rest : List Str := ["one", "other", "bits"]
theorem sc_quotient_and_rest : FnScope N_quotient_and_rest P_quotient_and_rest (defScope s_quotient_and_rest) := ⟨rfl, rfl, rfl, by decide +kernel, rfl, by decide +kernel, by decide +kernel⟩
abbrev N_reached_words : List Str := ["width", "kind", "first", "second", "left", "done", "quotient", "rest"]
abbrev P_reached_words : List Str := ["width", "kind", "first", "second", "left"]
theorem sc_reached_words : FnScope N_reached_words P_reached_words (defScope s_reached_words) := ⟨rfl, rfl, rfl, by decide +kernel, rfl, by decide +kernel, by decide +kernel⟩
abbrev N_is_long_state : List Str := ["width", "step", "value", "kind", "first", "second", "left", "one", "two", "word"]
abbrev P_is_long_state : List Str := ["width", "step", "value"]
theorem sc_is_long_state : FnScope N_is_long_state P_is_long_state (defScope s_is_long_state) := ⟨rfl, rfl, rfl, by decide +kernel, rfl, by decide +kernel, by decide +kernel⟩
abbrev N_is_long : List Str := ["width", "step", "value"]
abbrev P_is_long : List Str := ["width", "step", "value"]
theorem sc_is_long : FnScope N_is_long P_is_long (defScope s_is_long) := ⟨rfl, rfl, rfl, by decide +kernel, rfl, by decide +kernel, by decide +kernel⟩
abbrev N_is_ask : List Str := ["width", "value"]
abbrev P_is_ask : List Str := ["width", "value"]
theorem sc_is_ask : FnScope N_is_ask P_is_ask (defScope s_is_ask) := ⟨rfl, rfl, rfl, by decide +kernel, rfl, by decide +kernel, by decide +kernel⟩
abbrev N_round_behind : List Str := ["width", "state", "kind", "first", "second", "left", "one", "two", "top", "fit", "doubled"]
abbrev P_round_behind : List Str := ["width", "state"]
theorem sc_round_behind : FnScope N_round_behind P_round_behind (defScope s_round_behind) := ⟨rfl, rfl, rfl, by decide +kernel, rfl, by decide +kernel, by decide +kernel⟩
abbrev N_beat_behind : List Str := ["width", "step", "state", "ask", "_", "kind", "first", "second"]
abbrev P_beat_behind : List Str := ["width", "step", "state", "ask"]
theorem sc_beat_behind : FnScope N_beat_behind P_beat_behind (defScope s_beat_behind) := ⟨rfl, rfl, rfl, by decide +kernel, rfl, by decide +kernel, by decide +kernel⟩
abbrev N_long_beat : List Str := ["width", "step", "state", "ask"]
abbrev P_long_beat : List Str := ["width", "step", "state", "ask"]
theorem sc_long_beat : FnScope N_long_beat P_long_beat (defScope s_long_beat) := ⟨rfl, rfl, rfl, by decide +kernel, rfl, by decide +kernel, by decide +kernel⟩
abbrev N_law_dice : List Str := ["script", "at", "cell", "great", "left", "mixed"]
abbrev P_law_dice : List Str := ["script", "at"]
theorem sc_law_dice : FnScope N_law_dice P_law_dice (defScope s_law_dice) := ⟨rfl, rfl, rfl, by decide +kernel, rfl, by decide +kernel, by decide +kernel⟩
abbrev N_law_roll : List Str := ["dice", "total", "size", "drawn", "one", "two"]
abbrev P_law_roll : List Str := ["dice", "total"]
theorem sc_law_roll : FnScope N_law_roll P_law_roll (defScope s_law_roll) := ⟨rfl, rfl, rfl, by decide +kernel, rfl, by decide +kernel, by decide +kernel⟩
abbrev N_law_one_of : List Str := ["dice", "items"]
abbrev P_law_one_of : List Str := ["dice", "items"]
theorem sc_law_one_of : FnScope N_law_one_of P_law_one_of (defScope s_law_one_of) := ⟨rfl, rfl, rfl, by decide +kernel, rfl, by decide +kernel, by decide +kernel⟩
abbrev N_law_two_to : List Str := ["bits", "found", "turn"]
abbrev P_law_two_to : List Str := ["bits"]
theorem sc_law_two_to : FnScope N_law_two_to P_law_two_to (defScope s_law_two_to) := ⟨rfl, rfl, rfl, by decide +kernel, rfl, by decide +kernel, by decide +kernel⟩
abbrev N_law_round : List Str := ["width", "state", "kind", "first", "second", "left", "one", "two", "full", "top", "total"]
abbrev P_law_round : List Str := ["width", "state"]
theorem sc_law_round : FnScope N_law_round P_law_round (defScope s_law_round) := ⟨rfl, rfl, rfl, by decide +kernel, rfl, by decide +kernel, by decide +kernel⟩
abbrev N_law_beat : List Str := ["width", "step", "state", "ask", "idle", "turn"]
abbrev P_law_beat : List Str := ["width", "step", "state", "ask"]
theorem sc_law_beat : FnScope N_law_beat P_law_beat (defScope s_law_beat) := ⟨rfl, rfl, rfl, by decide +kernel, rfl, by decide +kernel, by decide +kernel⟩
abbrev N_law_begin_drawn : List Str := ["dice", "width", "full", "first", "second"]
abbrev P_law_begin_drawn : List Str := ["dice", "width"]
theorem sc_law_begin_drawn : FnScope N_law_begin_drawn P_law_begin_drawn (defScope s_law_begin_drawn) := ⟨rfl, rfl, rfl, by decide +kernel, rfl, by decide +kernel, by decide +kernel⟩
abbrev N_law_all_states : List Str := ["width", "step", "full", "found", "kind", "first", "second", "state"]
abbrev P_law_all_states : List Str := ["width", "step"]
theorem sc_law_all_states : FnScope N_law_all_states P_law_all_states (defScope s_law_all_states) := ⟨rfl, rfl, rfl, by decide +kernel, rfl, by decide +kernel, by decide +kernel⟩
abbrev N_law_small_right : List Str := ["dice", "width", "step", "known", "full", "kind", "first", "second", "left", "one", "two", "value", "state"]
abbrev P_law_small_right : List Str := ["dice", "width", "step"]
theorem sc_law_small_right : FnScope N_law_small_right P_law_small_right (defScope s_law_small_right) := ⟨rfl, rfl, rfl, by decide +kernel, rfl, by decide +kernel, by decide +kernel⟩
abbrev N_law_is_state : List Str := ["width", "step", "value", "here"]
abbrev P_law_is_state : List Str := ["width", "step", "value"]
theorem sc_law_is_state : FnScope N_law_is_state P_law_is_state (defScope s_law_is_state) := ⟨rfl, rfl, rfl, by decide +kernel, rfl, by decide +kernel, by decide +kernel⟩
abbrev N_law_great_right : List Str := ["dice", "width", "step", "state", "full", "turn", "at", "most", "value", "odd", "ask"]
abbrev P_law_great_right : List Str := ["dice"]
theorem sc_law_great_right : FnScope N_law_great_right P_law_great_right (defScope s_law_great_right) := ⟨rfl, rfl, rfl, by decide +kernel, rfl, by decide +kernel, by decide +kernel⟩
abbrev N_law : List Str := ["script", "at", "dice", "turn", "odd", "value"]
abbrev P_law : List Str := ["script"]
theorem sc_law : FnScope N_law P_law (defScope s_law) := ⟨rfl, rfl, rfl, by decide +kernel, rfl, by decide +kernel, by decide +kernel⟩
structure Txt (K : PySem.W.Frag) (mg : Str → Option Value) where
  f_is_integer : Addr
  d_is_integer : FuncData
  F_is_integer : Fun K "is_integer" "is_integer" s_is_integer f_is_integer d_is_integer
  b_is_integer : Binds K d_is_integer P_is_integer []
  m_is_integer : mg "is_integer" = some (.ref f_is_integer)
  f_is_between : Addr
  d_is_between : FuncData
  F_is_between : Fun K "is_between" "is_between" s_is_between f_is_between d_is_between
  b_is_between : Binds K d_is_between P_is_between []
  m_is_between : mg "is_between" = some (.ref f_is_between)
  f_is_index : Addr
  d_is_index : FuncData
  F_is_index : Fun K "is_index" "is_index" s_is_index f_is_index d_is_index
  b_is_index : Binds K d_is_index P_is_index []
  m_is_index : mg "is_index" = some (.ref f_is_index)
  f_is_word_of : Addr
  d_is_word_of : FuncData
  F_is_word_of : Fun K "is_word_of" "is_word_of" s_is_word_of f_is_word_of d_is_word_of
  b_is_word_of : Binds K d_is_word_of P_is_word_of []
  m_is_word_of : mg "is_word_of" = some (.ref f_is_word_of)
  f_is_tuple_of : Addr
  d_is_tuple_of : FuncData
  F_is_tuple_of : Fun K "is_tuple_of" "is_tuple_of" s_is_tuple_of f_is_tuple_of d_is_tuple_of
  b_is_tuple_of : Binds K d_is_tuple_of P_is_tuple_of []
  m_is_tuple_of : mg "is_tuple_of" = some (.ref f_is_tuple_of)
  f_plainly_made : Addr
  d_plainly_made : FuncData
  F_plainly_made : Fun K "plainly_made" "plainly_made" s_plainly_made f_plainly_made d_plainly_made
  b_plainly_made : Binds K d_plainly_made P_plainly_made []
  m_plainly_made : mg "plainly_made" = some (.ref f_plainly_made)
  f_check_number : Addr
  d_check_number : FuncData
  F_check_number : Fun K "check_number" "check_number" s_check_number f_check_number d_check_number
  b_check_number : Binds K d_check_number P_check_number []
  m_check_number : mg "check_number" = some (.ref f_check_number)
  f_check_long : Addr
  d_check_long : FuncData
  F_check_long : Fun K "check_long" "check_long" s_check_long f_check_long d_check_long
  b_check_long : Binds K d_check_long P_check_long []
  m_check_long : mg "check_long" = some (.ref f_check_long)
  f_quotient_and_rest : Addr
  d_quotient_and_rest : FuncData
  F_quotient_and_rest : Fun K "quotient_and_rest" "quotient_and_rest" s_quotient_and_rest f_quotient_and_rest d_quotient_and_rest
  b_quotient_and_rest : Binds K d_quotient_and_rest P_quotient_and_rest []
  m_quotient_and_rest : mg "quotient_and_rest" = some (.ref f_quotient_and_rest)
  f_reached_words : Addr
  d_reached_words : FuncData
  F_reached_words : Fun K "reached_words" "reached_words" s_reached_words f_reached_words d_reached_words
  b_reached_words : Binds K d_reached_words P_reached_words []
  m_reached_words : mg "reached_words" = some (.ref f_reached_words)
  f_is_long_state : Addr
  d_is_long_state : FuncData
  F_is_long_state : Fun K "is_long_state" "is_long_state" s_is_long_state f_is_long_state d_is_long_state
  b_is_long_state : Binds K d_is_long_state P_is_long_state []
  m_is_long_state : mg "is_long_state" = some (.ref f_is_long_state)
  f_is_long : Addr
  d_is_long : FuncData
  F_is_long : Fun K "is_long" "is_long" s_is_long f_is_long d_is_long
  b_is_long : Binds K d_is_long P_is_long []
  m_is_long : mg "is_long" = some (.ref f_is_long)
  f_is_ask : Addr
  d_is_ask : FuncData
  F_is_ask : Fun K "is_ask" "is_ask" s_is_ask f_is_ask d_is_ask
  b_is_ask : Binds K d_is_ask P_is_ask []
  m_is_ask : mg "is_ask" = some (.ref f_is_ask)
  f_round_behind : Addr
  d_round_behind : FuncData
  F_round_behind : Fun K "round_behind" "round_behind" s_round_behind f_round_behind d_round_behind
  b_round_behind : Binds K d_round_behind P_round_behind []
  m_round_behind : mg "round_behind" = some (.ref f_round_behind)
  f_beat_behind : Addr
  d_beat_behind : FuncData
  F_beat_behind : Fun K "beat_behind" "beat_behind" s_beat_behind f_beat_behind d_beat_behind
  b_beat_behind : Binds K d_beat_behind P_beat_behind []
  m_beat_behind : mg "beat_behind" = some (.ref f_beat_behind)
  f_long_beat : Addr
  d_long_beat : FuncData
  F_long_beat : Fun K "long_beat" "long_beat" s_long_beat f_long_beat d_long_beat
  b_long_beat : Binds K d_long_beat P_long_beat []
  m_long_beat : mg "long_beat" = some (.ref f_long_beat)
  f_law_dice : Addr
  d_law_dice : FuncData
  F_law_dice : Fun K "_law_dice" "_law_dice" s_law_dice f_law_dice d_law_dice
  b_law_dice : Binds K d_law_dice P_law_dice []
  m_law_dice : mg "_law_dice" = some (.ref f_law_dice)
  f_law_roll : Addr
  d_law_roll : FuncData
  F_law_roll : Fun K "_law_roll" "_law_roll" s_law_roll f_law_roll d_law_roll
  b_law_roll : Binds K d_law_roll P_law_roll []
  m_law_roll : mg "_law_roll" = some (.ref f_law_roll)
  f_law_one_of : Addr
  d_law_one_of : FuncData
  F_law_one_of : Fun K "_law_one_of" "_law_one_of" s_law_one_of f_law_one_of d_law_one_of
  b_law_one_of : Binds K d_law_one_of P_law_one_of []
  m_law_one_of : mg "_law_one_of" = some (.ref f_law_one_of)
  f_law_two_to : Addr
  d_law_two_to : FuncData
  F_law_two_to : Fun K "_law_two_to" "_law_two_to" s_law_two_to f_law_two_to d_law_two_to
  b_law_two_to : Binds K d_law_two_to P_law_two_to []
  m_law_two_to : mg "_law_two_to" = some (.ref f_law_two_to)
  f_law_round : Addr
  d_law_round : FuncData
  F_law_round : Fun K "_law_round" "_law_round" s_law_round f_law_round d_law_round
  b_law_round : Binds K d_law_round P_law_round []
  m_law_round : mg "_law_round" = some (.ref f_law_round)
  f_law_beat : Addr
  d_law_beat : FuncData
  F_law_beat : Fun K "_law_beat" "_law_beat" s_law_beat f_law_beat d_law_beat
  b_law_beat : Binds K d_law_beat P_law_beat []
  m_law_beat : mg "_law_beat" = some (.ref f_law_beat)
  f_law_begin_drawn : Addr
  d_law_begin_drawn : FuncData
  F_law_begin_drawn : Fun K "_law_begin_drawn" "_law_begin_drawn" s_law_begin_drawn f_law_begin_drawn d_law_begin_drawn
  b_law_begin_drawn : Binds K d_law_begin_drawn P_law_begin_drawn []
  m_law_begin_drawn : mg "_law_begin_drawn" = some (.ref f_law_begin_drawn)
  f_law_all_states : Addr
  d_law_all_states : FuncData
  F_law_all_states : Fun K "_law_all_states" "_law_all_states" s_law_all_states f_law_all_states d_law_all_states
  b_law_all_states : Binds K d_law_all_states P_law_all_states []
  m_law_all_states : mg "_law_all_states" = some (.ref f_law_all_states)
  f_law_small_right : Addr
  d_law_small_right : FuncData
  F_law_small_right : Fun K "_law_small_right" "_law_small_right" s_law_small_right f_law_small_right d_law_small_right
  b_law_small_right : Binds K d_law_small_right P_law_small_right []
  m_law_small_right : mg "_law_small_right" = some (.ref f_law_small_right)
  f_law_is_state : Addr
  d_law_is_state : FuncData
  F_law_is_state : Fun K "_law_is_state" "_law_is_state" s_law_is_state f_law_is_state d_law_is_state
  b_law_is_state : Binds K d_law_is_state P_law_is_state []
  m_law_is_state : mg "_law_is_state" = some (.ref f_law_is_state)
  f_law_great_right : Addr
  d_law_great_right : FuncData
  F_law_great_right : Fun K "_law_great_right" "_law_great_right" s_law_great_right f_law_great_right d_law_great_right
  b_law_great_right : Binds K d_law_great_right P_law_great_right []
  m_law_great_right : mg "_law_great_right" = some (.ref f_law_great_right)
  f_law : Addr
  d_law : FuncData
  F_law : Fun K "law" "law" s_law f_law d_law
  b_law : Binds K d_law P_law []
  m_law : mg "law" = some (.ref f_law)
  n_abs : mg "abs" = none
  n_all : mg "all" = none
  n_bool : mg "bool" = none
  n_dict : mg "dict" = none
  n_int : mg "int" = none
  n_isinstance : mg "isinstance" = none
  n_len : mg "len" = none
  n_list : mg "list" = none
  n_max : mg "max" = none
  n_min : mg "min" = none
  n_range : mg "range" = none
  n_sorted : mg "sorted" = none
  n_str : mg "str" = none
  n_tuple : mg "tuple" = none
  u_LEAST_TOO_LONG : Value
  c_LEAST_TOO_LONG : mg "LEAST_TOO_LONG" = some u_LEAST_TOO_LONG
  r_LEAST_TOO_LONG : RelV (.int 1000000000000000000000000000000000000000000000000000000000000) u_LEAST_TOO_LONG
  u_MAX_LONG : Value
  c_MAX_LONG : mg "MAX_LONG" = some u_MAX_LONG
  r_MAX_LONG : RelV (.int 16) u_MAX_LONG
  u_MAX_STEP : Value
  c_MAX_STEP : mg "MAX_STEP" = some u_MAX_STEP
  r_MAX_STEP : RelV (.int 4) u_MAX_STEP
  u_KINDS : Addr
  c_KINDS : mg "KINDS" = some (.ref u_KINDS)
  t_KINDS : ∀ H, SqT K H u_KINDS [V.str "times", V.str "part", V.str "rest"]
  u_IDLE : Addr
  c_IDLE : mg "IDLE" = some (.ref u_IDLE)
  t_IDLE : ∀ H, SqT K H u_IDLE [V.str "none", V.int 0, V.int 0, V.int 0, V.int 0, V.int 0]
section
variable {P : Program} {w : World} {K : PySem.W.Frag} {mg : Str → Option Value} {base : Heap}
def sp_is_integer (K : PySem.W.Frag) : Sp := fun vs H Q _ => ∃ v, vs = [v] ∧ Typd K H v ∧ Q (.bl (isI v)) H
set_option maxHeartbeats 4000000 in
theorem ok_is_integer (T : Txt K mg) : FnOk P w K mg base CX0 1 T.f_is_integer T.d_is_integer P_is_integer (sp_is_integer K) := by
  refine T.F_is_integer.ok sc_is_integer (fun vs H Q E h => ?_) (fun cdv A outer s H vs Q E hr h => ?_)
  · obtain ⟨v, rfl, _⟩ := h; rfl
  · obtain ⟨v, rfl, ⟨n, hn, ty⟩, q⟩ := h
    refine ⟨_, (pss_one (ps_ret (pe_and (pe_callB call_isi (by rfl) T.n_isinstance (by decide +kernel) (pa_cons (pv 0) (pa_cons (pe_bltn (v := .ty "int") (by rfl) T.n_int (by decide +kernel) rfl) pa_nil))) (pe_and (pe_not (pe_callB call_isi (by rfl) T.n_isinstance (by decide +kernel) (pa_cons (pv 0) (pa_cons (pe_bltn (v := .ty "bool") (by rfl) T.n_bool (by decide +kernel) rfl) pa_nil)))) (pe_one (pe_chain op_lt op_lt (pe_un un_neg (pe_glob (by rfl) T.c_LEAST_TOO_LONG T.r_LEAST_TOO_LONG)) (pv 0) (pe_glob (by rfl) T.c_LEAST_TOO_LONG T.r_LEAST_TOO_LONG))))))), ?_⟩
    walk_at "rd"
    by_cases e : n = "int"
    · subst e
      obtain ⟨i, rfl⟩ := int_of ty
      refine isi_to ty (b := true) (by decide +kernel) ⟨_, rfl, iteT (isi_to ty (b := false) (by decide +kernel) ⟨_, rfl, ?_⟩)⟩
      walk_at "rd"
      by_cases h1 : -1000000000000000000000000000000000000000000000000000000000000 < i
      · rw [if_pos h1]
        have e : isI (.int i) = decide (i < 1000000000000000000000000000000000000000000000000000000000000) := by
          show decide (-(10 ^ 60) < i ∧ i < 10 ^ 60) = _
          rw [decide_eq_decide]
          constructor
          · intro h; exact h.2
          · intro h; exact ⟨h1, h⟩
        rw [← e]; exact q
      · rw [if_neg h1]
        have e : isI (.int i) = false := by
          show decide (-(10 ^ 60) < i ∧ i < 10 ^ 60) = _
          rw [decide_eq_false_iff_not]
          intro h; exact h1 h.1
        rw [← e]; exact q
    · rw [isI_not ty e] at q
      by_cases e2 : n = "bool"
      · subst e2
        refine isi_to ty (b := true) (by decide +kernel) ⟨_, rfl, iteT (isi_to ty (b := true) (by decide +kernel) ⟨_, rfl, ?_⟩)⟩
        walk_at "rd"
        exact q
      · have : kitB n "int" = some false := by
          simp only [kinds, List.mem_cons, List.mem_nil_iff, or_false] at hn
          rcases hn with rfl | rfl | rfl | rfl | rfl | rfl | rfl
          · exact absurd rfl e
          · exact absurd rfl e2
          all_goals decide +kernel
        exact isi_to ty this ⟨_, rfl, iteF q⟩
def sp_is_between (K : PySem.W.Frag) : Sp := fun vs H Q _ => ∃ v lo hi, vs = [v, .int lo, .int hi] ∧ Typd K H v ∧ Q (.bl (btw v lo hi)) H
set_option maxHeartbeats 4000000 in
theorem ok_is_between (T : Txt K mg) : FnOk P w K mg base CX0 2 T.f_is_between T.d_is_between P_is_between (sp_is_between K) := by
  have G_is_integer := ok_is_integer (P := P) (w := w) (base := base) T
  refine T.F_is_between.ok sc_is_between (fun vs H Q E h => ?_) (fun cdv A outer s H vs Q E hr h => ?_)
  · obtain ⟨v, lo, hi, rfl, _⟩ := h; rfl
  · obtain ⟨v, lo, hi, rfl, ty, q⟩ := h
    refine ⟨_, (pss_one (ps_ret (pe_and (pe_call G_is_integer (hr.mono (by decide)) (by rfl) T.m_is_integer T.F_is_integer.kp T.b_is_integer .nil pass0 (pa_cons (pv 0) pa_nil)) (pe_one (pe_chain op_le op_le (pv 1) (pv 0) (pv 2)))))), ?_⟩
    walk_at "rd"
    refine ⟨v, rfl, ty, _, rfl, ?_⟩
    cases e : isI v with
    | false => rw [btw_not e] at q; exact iteF q
    | true =>
      refine iteT ?_
      cases v with
      | int i =>
        walk_at "rd"
        rw [btw_if e] at q
        by_cases h : lo ≤ i
        · rw [if_pos h] at *; exact q
        · rw [if_neg h] at *; exact q
      | _ => cases e
def sp_is_index (K : PySem.W.Frag) : Sp := fun vs H Q _ => ∃ (v : V) (m : Int), vs = [v, .int m] ∧ Typd K H v ∧ Q (.bl (btw v 0 (m - 1))) H
set_option maxHeartbeats 4000000 in
theorem ok_is_index (T : Txt K mg) : FnOk P w K mg base CX0 3 T.f_is_index T.d_is_index P_is_index (sp_is_index K) := by
  have G_is_between := ok_is_between (P := P) (w := w) (base := base) T
  refine T.F_is_index.ok sc_is_index (fun vs H Q E h => ?_) (fun cdv A outer s H vs Q E hr h => ?_)
  · obtain ⟨v, m, rfl, _⟩ := h; rfl
  · obtain ⟨v, m, rfl, ty, q⟩ := h
    refine ⟨_, (pss_one (ps_ret (pe_call G_is_between (hr.mono (by decide)) (by rfl) T.m_is_between T.F_is_between.kp T.b_is_between .nil pass0 (pa_cons (pv 0) (pa_cons pe_int (pa_cons (pe_op op_sub (pv 1) pe_int) pa_nil)))))), ?_⟩
    walk_at "rd"
    exact ⟨v, 0, _, rfl, ty, q⟩
def sp_is_word_of (K : PySem.W.Frag) : Sp := fun vs H Q _ => ∃ (n : Nat) (v : V), vs = [.int n, v] ∧ n ≤ 1000 ∧ Typd K H v ∧ Q (.bl (btw v 0 (2 ^ n - 1))) H
set_option maxHeartbeats 4000000 in
theorem ok_is_word_of (T : Txt K mg) : FnOk P w K mg base CX0 3 T.f_is_word_of T.d_is_word_of P_is_word_of (sp_is_word_of K) := by
  have G_is_between := ok_is_between (P := P) (w := w) (base := base) T
  refine T.F_is_word_of.ok sc_is_word_of (fun vs H Q E h => ?_) (fun cdv A outer s H vs Q E hr h => ?_)
  · obtain ⟨n, v, rfl, _⟩ := h; rfl
  · obtain ⟨n, v, rfl, hn, ty, q⟩ := h
    refine ⟨_, (pss_one (ps_ret (pe_call G_is_between (hr.mono (by decide)) (by rfl) T.m_is_between T.F_is_between.kp T.b_is_between .nil pass0 (pa_cons (pv 1) (pa_cons pe_int (pa_cons (pe_op op_sub (pe_op op_shl pe_int (pv 0)) pe_int) pa_nil)))))), ?_⟩
    walk_at "rd"
    refine ⟨(show CPow 1 n from ⟨by omega, by omega, by decide⟩), v, 0, _, rfl, ty, ?_⟩
    simpa using q
def sp_is_tuple_of (K : PySem.W.Frag) : Sp := fun vs H Q _ => ∃ (v : V) (o : Option (List V)) (lo hi : Int), vs = [v, .int lo, .int hi] ∧ TO K H v o ∧ Q (.bl (tupB o lo hi)) H
set_option maxHeartbeats 4000000 in
theorem ok_is_tuple_of (T : Txt K mg) : FnOk P w K mg base CX0 1 T.f_is_tuple_of T.d_is_tuple_of P_is_tuple_of (sp_is_tuple_of K) := by
  refine T.F_is_tuple_of.ok sc_is_tuple_of (fun vs H Q E h => ?_) (fun cdv A outer s H vs Q E hr h => ?_)
  · obtain ⟨v, o, lo, hi, rfl, _⟩ := h; rfl
  · obtain ⟨v, o, lo, hi, rfl, ho, q⟩ := h
    refine ⟨_, (pss_one (ps_ret (pe_and (pe_callB call_isi (by rfl) T.n_isinstance (by decide +kernel) (pa_cons (pv 0) (pa_cons (pe_bltn (v := .ty "tuple") (by rfl) T.n_tuple (by decide +kernel) rfl) pa_nil))) (pe_one (pe_chain op_le op_le (pv 1) (pe_callB call_len_seq (by rfl) T.n_len (by decide +kernel) (pa_cons (pv 0) pa_nil)) (pv 2)))))), ?_⟩
    walk_at "rd"
    cases o with
    | none =>
      obtain ⟨n, h1, h2, h3⟩ := ho
      exact isi_to h3 (kit_no h1 h2) ⟨_, rfl, iteF q⟩
    | some xs =>
      obtain ⟨a, rfl, ha⟩ := ho
      refine isi_to (tyT ha) (b := true) (by decide +kernel) ⟨_, rfl, iteT ?_⟩
      walk_at "rt"
      refine ⟨_, .inr ha, ?_⟩
      have e : tupB (some xs) lo hi = decide (lo ≤ xs.length ∧ (xs.length : Int) ≤ hi) := rfl
      rw [e] at q
      by_cases h : lo ≤ xs.length
      · rw [if_pos h]
        simp only [h, true_and] at q; exact q
      · rw [if_neg h]
        simp only [h, false_and, decide_false] at q; exact q
def spn_plainly_made (K : PySem.W.Frag) (n : Nat) : Sp := fun vs H Q _ => ∃ v d, vs = [v] ∧ Dp K H v d ∧ plainD d = true ∧ d.depth < n ∧ ∀ v' H', Ex H H' → Dp K H' v' d → Q v' H'
set_option maxHeartbeats 4000000 in
theorem okn_plainly_made (T : Txt K mg) : ∀ n, FnOk P w K mg base CX0 n T.f_plainly_made T.d_plainly_made P_plainly_made (spn_plainly_made K n)
  | 0 => ⟨fun _ _ _ _ ⟨_, _, _, _, _, h, _⟩ => absurd h (Nat.not_lt_zero _), fun _ _ _ _ _ _ _ _ _ _ _ _ _ ⟨_, _, _, _, _, h, _⟩ => absurd h (Nat.not_lt_zero _)⟩
  | n + 1 => by
    have G_plainly_made := okn_plainly_made T n
    refine T.F_plainly_made.ok sc_plainly_made (fun vs H Q E h => ?_) (fun cdv A outer s H vs Q E hr h => ?_)
    · obtain ⟨v, d, rfl, _⟩ := h; rfl
    · obtain ⟨v, d, rfl, hd, hp, hn, q⟩ := h
      refine ⟨_, (pss_cons (ps_if (pt_val (pe_callB call_isi (by rfl) T.n_isinstance (by decide +kernel) (pa_cons (pv 0) (pa_cons (pe_bltn (v := .ty "tuple") (by rfl) T.n_tuple (by decide +kernel) rfl) pa_nil)))) (pss_one (ps_ret (pe_callTy call_tuple_of (by rfl) T.n_tuple (by decide +kernel) (pa_cons (pe_lc (own := [("member", 1)]) (g := gName 1) (tt := tYes) (by rfl) sc_plainly_made.nd (pi_tup (pv 0)) (blkOk_by (own := [("member", 1)]) (N := N_plainly_made) (sc := defScope s_plainly_made) (by decide +kernel)) (fun _ _ _ _ _ => (pg_name (i := 1) sc_plainly_made.nd rfl (by first | exact Or.inl rfl | exact Or.inr rfl))) (fun _ _ _ _ _ => pts_nil) (fun _ _ _ _ _ => (pe_call G_plainly_made (hr.mono (by omega)) (by rfl) T.m_plainly_made T.F_plainly_made.kp T.b_plainly_made .nil pass0 (pa_cons (pv 1) pa_nil)))) pa_nil)))) pss_nil)
      (pss_cons (ps_if (pt_val (pe_callB call_isi (by rfl) T.n_isinstance (by decide +kernel) (pa_cons (pv 0) (pa_cons (pe_bltn (v := .ty "dict") (by rfl) T.n_dict (by decide +kernel) rfl) pa_nil)))) pss_never pss_nil)
      (pss_cons (ps_if (pt_val (pe_callB call_isi (by rfl) T.n_isinstance (by decide +kernel) (pa_cons (pv 0) (pa_cons (pe_bltn (v := .ty "str") (by rfl) T.n_str (by decide +kernel) rfl) pa_nil)))) (pss_one (ps_ret (pe_slice sl_str (pv 0) po_none po_none))) pss_nil)
      (pss_one (ps_ret (pe_ifExp (PW.pt (pw_or (pt_cmpR op_isN (pv 0) pe_non (nomark _)) (pw_or1 (pt_val (pe_callB call_isi (by rfl) T.n_isinstance (by decide +kernel) (pa_cons (pv 0) (pa_cons (pe_bltn (v := .ty "bool") (by rfl) T.n_bool (by decide +kernel) rfl) pa_nil))))))) (pv 0) (pe_callTy call_int1 (by rfl) T.n_int (by decide +kernel) (pa_cons (pv 0) pa_nil)))))))), ?_⟩
      walk_at "rd"
      cases hd with
      | lst => rw [plainD] at hp; cases hp
      | tup ha hl =>
        rename_i a xs ds
        rw [plainD, Bool.and_eq_true] at hp
        have hlen := dpAll_len hl
        have hds := of_decide_eq_true hp.1
        rw [PyData.depth] at hn
        refine isi_to (tyT ha) (b := true) (by decide +kernel) ⟨_, rfl, ?_⟩
        walk_at "rd"
        refine ⟨⟨_, ha⟩, fun D hD => ?_⟩
        refine lc_rel (walk_tup (xs := xs)) (fun H v i => ∃ d, ds[i]? = some d ∧ Dp K H v d) ?_ ?_ (by omega) hD (fun H' e => Evl.ex_t e ha) ?_ ?_
        · rintro H H' v i e ⟨d, h1, h2⟩; exact ⟨d, h1, ex_dp e h2⟩
        · rintro H p o ys v i h0 ⟨d, h1, h2⟩; exact ⟨d, h1, dp_mut h0 (plainAll_at hp.2 h1) h2⟩
        · rintro k x H' H2 hk e ⟨rfl, hx⟩ Qe qe
          obtain ⟨d, h1, h2⟩ := dpAll_at hl hx
          walk_at "rd"
          have := depthAll_at h1
          exact ⟨x, d, rfl, ex_dp e h2, plainAll_at hp.2 h1, by omega, fun v' H' e' h' => qe _ _ e' ⟨d, h1, h'⟩⟩
        intro H2 ys e2 l2 hr2
        have hl2 := Paired.len' hr2
        rw [List.length_range] at hl2
        refine ⟨ys, .inl ⟨.of l2, fun l hl => q _ _ (e2.trans (ex_upd hl)) (.tup (.of upd_same) (dpAll_of (by omega) fun i y d h1 h2 => ?_))⟩⟩
        obtain ⟨i', h3, d', h4, h5⟩ := Paired.at' hr2 h1
        have hi : i < xs.length := by
          have := (List.getElem?_eq_some_iff.mp h1).1; omega
        rw [List.getElem?_range hi] at h3
        cases h3
        rw [h4] at h2; cases h2
        exact ex_dp (ex_upd hl) h5
      | non =>
        refine isi_to (.base .non) (b := false) (by decide +kernel) ⟨_, rfl, iteF (isi_to (.base .non) (b := false) (by decide +kernel) ⟨_, rfl, iteF (isi_to (.base .non) (b := false) (by decide +kernel) ⟨_, rfl, iteF ?_⟩)⟩)⟩
        walk_at "rd"
        exact q _ _ (Ex.refl _) .non
      | bl b =>
        refine isi_to (.base (.bl b)) (b := false) (by decide +kernel) ⟨_, rfl, iteF (isi_to (.base (.bl b)) (b := false) (by decide +kernel) ⟨_, rfl, iteF (isi_to (.base (.bl b)) (b := false) (by decide +kernel) ⟨_, rfl, iteF ?_⟩)⟩)⟩
        walk_at "rd"
        refine isi_to (.base (.bl b)) (b := true) (by decide +kernel) ?_
        walk_at "rd"
        exact q _ _ (Ex.refl _) (.bl b)
      | int i =>
        refine isi_to (.base (.int i)) (b := false) (by decide +kernel) ⟨_, rfl, iteF (isi_to (.base (.int i)) (b := false) (by decide +kernel) ⟨_, rfl, iteF (isi_to (.base (.int i)) (b := false) (by decide +kernel) ⟨_, rfl, iteF ?_⟩)⟩)⟩
        walk_at "rd"
        refine isi_to (.base (.int i)) (b := false) (by decide +kernel) ?_
        walk_at "rd"
        exact q _ _ (Ex.refl _) (.int i)
      | str z =>
        refine isi_to (.base (.str z)) (b := false) (by decide +kernel) ⟨_, rfl, iteF (isi_to (.base (.str z)) (b := false) (by decide +kernel) ⟨_, rfl, iteF (isi_to (.base (.str z)) (b := true) (by decide +kernel) ⟨_, rfl, iteT ?_⟩)⟩)⟩
        rw [plainD] at hp
        have := of_decide_eq_true hp
        refine ⟨z, rfl, by rw [sizeLine_eq]; omega, ?_⟩
        rw [cutS_all z]
        exact q _ _ (Ex.refl _) (.str z)
abbrev sp_plainly_made (K : PySem.W.Frag) : Sp := spn_plainly_made K 5
theorem ok_plainly_made (T : Txt K mg) : FnOk P w K mg base CX0 5 T.f_plainly_made T.d_plainly_made P_plainly_made (sp_plainly_made K) := okn_plainly_made T _

/-- no exception: the number lies between the bounds -/
def sp_check_number (K : PySem.W.Frag) : Sp := fun vs H Q _ => ∃ v lo hi, vs = [v, .int lo, .int hi] ∧ Typd K H v ∧ btw v lo hi = true ∧ Q .non H
set_option maxHeartbeats 4000000 in
theorem ok_check_number (T : Txt K mg) : FnOk P w K mg base CX0 3 T.f_check_number T.d_check_number P_check_number (sp_check_number K) := by
  have G_is_between := ok_is_between (P := P) (w := w) (base := base) T
  refine T.F_check_number.ok sc_check_number (fun vs H Q E h => ?_) (fun cdv A outer s H vs Q E hr h => ?_)
  · obtain ⟨v, lo, hi, rfl, _⟩ := h; rfl
  · obtain ⟨v, lo, hi, rfl, ty, hb, q⟩ := h
    refine ⟨_, (pss_one (ps_if (pt_not (pt_val (pe_call G_is_between (hr.mono (by decide)) (by rfl) T.m_is_between T.F_is_between.kp T.b_is_between .nil pass0 (pa_cons (pv 0) (pa_cons (pv 1) (pa_cons (pv 2) pa_nil)))))) pss_never pss_nil)), ?_⟩
    walk_at "rd"
    refine ⟨v, lo, hi, rfl, ty, true, ?_, ?_⟩
    · rw [hb]
    · walk_at "rd"; exact q
def sp_check_long (K : PySem.W.Frag) : Sp := fun vs H Q _ => ∃ w st : Nat, vs = [.int w, .int st] ∧ 1 ≤ w ∧ w ≤ 16 ∧ 1 ≤ st ∧ st ≤ 4 ∧ Q .non H
set_option maxHeartbeats 4000000 in
theorem ok_check_long (T : Txt K mg) : FnOk P w K mg base CX0 4 T.f_check_long T.d_check_long P_check_long (sp_check_long K) := by
  have G_check_number := ok_check_number (P := P) (w := w) (base := base) T
  refine T.F_check_long.ok sc_check_long (fun vs H Q E h => ?_) (fun cdv A outer s H vs Q E hr h => ?_)
  · obtain ⟨n, m, rfl, _⟩ := h; rfl
  · obtain ⟨n, m, rfl, h1, h2, h3, h4, q⟩ := h
    refine ⟨_, (pss_cons (ps_expr (pe_call G_check_number (hr.mono (by decide)) (by rfl) T.m_check_number T.F_check_number.kp T.b_check_number .nil pass0 (pa_cons (pv 0) (pa_cons pe_int (pa_cons (pe_glob (by rfl) T.c_MAX_LONG T.r_MAX_LONG) pa_nil)))))
      (pss_one (ps_expr (pe_call G_check_number (hr.mono (by decide)) (by rfl) T.m_check_number T.F_check_number.kp T.b_check_number .nil pass0 (pa_cons (pv 1) (pa_cons pe_int (pa_cons (pe_glob (by rfl) T.c_MAX_STEP T.r_MAX_STEP) pa_nil))))))), ?_⟩
    walk_at "rs"
    refine ⟨_, _, _, rfl, .int, btw_ok (by omega) (by omega) (by omega) (by omega), ?_⟩
    walk_at "rs"
    exact ⟨_, _, _, rfl, .int, btw_ok (by omega) (by omega) (by omega) (by omega), q⟩
def sp_quotient_and_rest (K : PySem.W.Frag) : Sp := fun vs H Q _ => ∃ (A s : Int) (n : Nat), vs = [.int A, .int s, .int n] ∧ 0 ≤ A ∧ 0 ≤ s ∧ s < 2 ^ 32 ∧ n ≤ 64 ∧ ∀ p, H p = none → Q (.ref p) (upd H p (.tup [.int (qrM A s n).1, .int (qrM A s n).2]))
set_option maxHeartbeats 4000000 in
theorem ok_quotient_and_rest (T : Txt K mg) : FnOk P w K mg base CX0 1 T.f_quotient_and_rest T.d_quotient_and_rest P_quotient_and_rest (sp_quotient_and_rest K) := by
  refine T.F_quotient_and_rest.ok sc_quotient_and_rest (fun vs H Q E h => ?_) (fun cdv A outer s H vs Q E hr h => ?_)
  · obtain ⟨x, y, n, rfl, _⟩ := h; rfl
  · obtain ⟨x, y, n, rfl, h1, h2, h3, h4, q⟩ := h
    refine ⟨_, (pss_one (ps_ret (pe_ifExp (pt_cmpR op_eq (pv 1) pe_int (nomark _)) (pe_tup (pa_cons (pe_op op_sub (pe_op op_shl pe_int (pv 2)) pe_int) (pa_cons (pv 0) pa_nil))) (pe_tup (pa_cons (pe_op op_fdivW (pv 0) (pv 1)) (pa_cons (pe_op op_mod (pv 0) (pv 1)) pa_nil)))))), ?_⟩
    walk_at "rd"
    unfold qrM at q
    by_cases e : y = 0
    · rw [if_pos e] at q ⊢
      exact ⟨⟨by omega, by omega, by omega⟩, by decide, fun p hp => by simpa using q p hp⟩
    · rw [if_neg e] at q ⊢
      exact ⟨divw 40 (by omega) (by omega), by omega, by decide, fun p hp => q p hp⟩
def sp_reached_words (K : PySem.W.Frag) : Sp := fun vs H Q _ => ∃ (w : Nat) (k : Kd) (f s : Int) (l : Nat), vs = [.int w, .str k.s, .int f, .int s, .int l] ∧ w ≤ 16 ∧ l ≤ w ∧ 0 ≤ f ∧ f < 2 ^ w ∧ 0 ≤ s ∧ s < 2 ^ w ∧
  ∀ p H', Ex H H' → H' p = some (.tup [.int (reM w k f s l).1, .int (reM w k f s l).2]) → Q (.ref p) H'
set_option maxHeartbeats 4000000 in
theorem ok_reached_words (T : Txt K mg) : FnOk P w K mg base CX0 2 T.f_reached_words T.d_reached_words P_reached_words (sp_reached_words K) := by
  have G_quotient_and_rest := ok_quotient_and_rest (P := P) (w := w) (base := base) T
  refine T.F_reached_words.ok sc_reached_words (fun vs H Q E h => ?_) (fun cdv A outer s H vs Q E hr h => ?_)
  · obtain ⟨w, k, f, s, l, rfl, _⟩ := h; rfl
  · obtain ⟨w, k, f, y, l, rfl, hw, hl, f0, f1, s0, s1, q⟩ := h
    refine ⟨_, (pss_cons (ps_set (i := 5) sc_reached_words.nd rfl (Or.inl rfl) (pe_op op_sub (pv 0) (pv 4)))
      (pss_cons (ps_if (pt_cmpR op_eq (pv 1) pe_str (nomark _)) (pss_one (ps_ret (pe_tup (pa_cons (pe_op op_mod (pe_op op_mulA (pv 2) (pe_op op_shr (pv 3) (pv 4))) (pe_op op_shl pe_int (pv 0))) (pa_cons (pe_op op_mod (pe_op op_shl (pv 3) (pv 5)) (pe_op op_shl pe_int (pv 0))) pa_nil))))) pss_nil)
      (pss_cons (ps_asg (pe_call G_quotient_and_rest (hr.mono (by decide)) (by rfl) T.m_quotient_and_rest T.F_quotient_and_rest.kp T.b_quotient_and_rest .nil pass0 (pa_cons (pe_op op_shr (pv 2) (pv 4)) (pa_cons (pv 3) (pa_cons (pv 5) pa_nil)))) (pg_tup (n := 2) rfl (pgs_cons (pg_name (i := 6) sc_reached_words.nd rfl (Or.inl rfl)) (pgs_cons (pg_name (i := 7) sc_reached_words.nd rfl (Or.inl rfl)) pgs_nil))))
      (pss_one (ps_ret (pe_tup (pa_cons (pv 7) (pa_cons (pe_op op_mod (pe_op op_add (pe_op op_shl (pv 2) (pv 5)) (pv 6)) (pe_op op_shl pe_int (pv 0))) pa_nil)))))))), ?_⟩
    have hp : (2 : Int) ^ w ≤ 2 ^ 16 := pow_le hw
    have hpw := pow_pos' w
    have hsub : ((w : Int) - (l : Int)) = ((w - l : Nat) : Int) := by omega
    obtain ⟨a0, a1⟩ := hi_bd hl f0 f1
    walk_at "rs"
    unfold reM at q
    by_cases hk : k = .times
    · subst hk
      rw [if_pos rfl] at q
      rw [if_pos (show Kd.times.s = Str.ofString "times" from rfl), hsub, Int.toNat_natCast, Int.one_mul]
      walk_at "go"
      intro p hp
      exact q _ _ (ex_upd hp) upd_same
    · have hks : ¬ k.s = Str.ofString "times" := by cases k <;> first | exact absurd rfl hk | decide +kernel
      rw [if_neg hk] at q
      rw [if_neg hks, hsub]
      walk_at "rs"
      refine ⟨by omega, f / 2 ^ l, y, w - l, rfl, a0, by omega, by omega, by omega, fun p hp => ?_⟩
      walk_at "go"
      rw [Int.one_mul]
      walk_at "go"
      intro p2 hp2
      exact q _ _ ((ex_upd hp).trans (ex_upd hp2)) upd_same
def sp_is_long_state (K : PySem.W.Frag) : Sp := fun vs H Q _ => ∃ (w step : Nat) (v : V) (o : Option (List V)), vs = [.int w, .int step, v] ∧ 1 ≤ w ∧ w ≤ 16 ∧ 1 ≤ step ∧ step ≤ 4 ∧ TO K H v o ∧ (∀ xs, o = some xs → ∀ x ∈ xs, Sc x) ∧ ∀ b H', Ex H H' → (b = true ↔ IsL w step o) → Q (.bl b) H'
set_option maxHeartbeats 4000000 in
theorem ok_is_long_state (T : Txt K mg) : FnOk P w K mg base CX0 4 T.f_is_long_state T.d_is_long_state P_is_long_state (sp_is_long_state K) := by
  have G_is_tuple_of := ok_is_tuple_of (P := P) (w := w) (base := base) T
  have G_reached_words := ok_reached_words (P := P) (w := w) (base := base) T
  have G_is_index := ok_is_index (P := P) (w := w) (base := base) T
  have G_is_word_of := ok_is_word_of (P := P) (w := w) (base := base) T
  refine T.F_is_long_state.ok sc_is_long_state (fun vs H Q E h => ?_) (fun cdv A outer s H vs Q E hr h => ?_)
  · obtain ⟨w, step, v, st, rfl, _⟩ := h; rfl
  · obtain ⟨w, step, v, o, rfl, h1, h2, h3, h4, ho, hsc, q⟩ := h
    refine ⟨_, (pss_cons (ps_if (pt_not (pt_val (pe_call G_is_tuple_of (hr.mono (by decide)) (by rfl) T.m_is_tuple_of T.F_is_tuple_of.kp T.b_is_tuple_of .nil pass0 (pa_cons (pv 2) (pa_cons pe_int (pa_cons pe_int pa_nil)))))) (pss_one (ps_ret pe_bl)) pss_nil)
      (pss_cons (ps_asg (pv 2) (pg_tup (n := 6) rfl (pgs_cons (pg_name (i := 3) sc_is_long_state.nd rfl (Or.inl rfl)) (pgs_cons (pg_name (i := 4) sc_is_long_state.nd rfl (Or.inl rfl)) (pgs_cons (pg_name (i := 5) sc_is_long_state.nd rfl (Or.inl rfl)) (pgs_cons (pg_name (i := 6) sc_is_long_state.nd rfl (Or.inl rfl)) (pgs_cons (pg_name (i := 7) sc_is_long_state.nd rfl (Or.inl rfl)) (pgs_cons (pg_name (i := 8) sc_is_long_state.nd rfl (Or.inl rfl)) pgs_nil))))))))
      (pss_cons (ps_if (PW.pt (pw_or (pt_not (pt_val (pe_callB (cr_all rfl) (by rfl) T.n_all (by decide +kernel) (pa_cons (pe_lc (own := [("word", 9)]) (g := gName 9) (tt := tYes) (by rfl) sc_is_long_state.nd (pi_tup (pe_tup (pa_cons (pv 4) (pa_cons (pv 5) (pa_cons (pv 7) (pa_cons (pv 8) pa_nil)))))) (blkOk_by (own := [("word", 9)]) (N := N_is_long_state) (sc := defScope s_is_long_state) (by decide +kernel)) (fun _ _ _ _ _ => (pg_name (i := 9) sc_is_long_state.nd rfl (by first | exact Or.inl rfl | exact Or.inr rfl))) (fun _ _ _ _ _ => pts_nil) (fun _ _ _ _ _ => (pe_call G_is_word_of (hr.mono (by decide)) (by rfl) T.m_is_word_of T.F_is_word_of.kp T.b_is_word_of .nil pass0 (pa_cons (pv 0) (pa_cons (pv 9) pa_nil))))) pa_nil)))) (pw_or1 (pt_not (pt_val (pe_call G_is_index (hr.mono (by decide)) (by rfl) T.m_is_index T.F_is_index.kp T.b_is_index .nil pass0 (pa_cons (pv 6) (pa_cons (pe_op op_add (pv 0) pe_int) pa_nil)))))))) (pss_one (ps_ret pe_bl)) pss_nil)
      (pss_cons (ps_if (pt_cmpR op_notIn_seq (pv 3) (pe_glob (v := .ref T.u_KINDS) (by rfl) T.c_KINDS rfl) (by rfl)) (pss_one (ps_ret (pe_cmpR (op_eqD hr.units) (pv 2) (pe_glob (v := .ref T.u_IDLE) (by rfl) T.c_IDLE rfl) (nomark _)))) pss_nil)
      (pss_cons (ps_if (PW.pt (pw_and (pt_cmpR op_gt (pv 6) pe_int (nomark _)) (pw_and1 (pt_cmpR op_ne (pe_op op_mod (pe_op op_sub (pv 0) (pv 6)) (pv 1)) pe_int (nomark _))))) (pss_one (ps_ret pe_bl)) pss_nil)
      (pss_one (ps_ret (pe_cmpR (op_eqD hr.units) (pe_tup (pa_cons (pv 7) (pa_cons (pv 8) pa_nil))) (pe_call G_reached_words (hr.mono (by decide)) (by rfl) T.m_reached_words T.F_reached_words.kp T.b_reached_words .nil pass0 (pa_cons (pv 0) (pa_cons (pv 3) (pa_cons (pv 4) (pa_cons (pv 5) (pa_cons (pv 6) pa_nil)))))) (nomark _))))))))), ?_⟩
    have hp : (2 : Int) ^ w ≤ 2 ^ 16 := pow_le h2
    have hp0 := pow_pos' w
    have six : ∀ st : LSt, (LSt.vs w st).length = 6 := fun st => by cases st <;> rfl
    walk_at "rs"
    refine ⟨_, o, 6, 6, rfl, ho, ?_⟩
    by_cases h6 : tupB o 6 6 = true
    rotate_left
    · rw [Bool.eq_false_iff.mpr h6]
      walk_at "rs"
      refine q false _ (Ex.refl _) ⟨fun h => (by cases h), fun h9 => ?_⟩
      obtain ⟨st, _, e⟩ := h9
      subst e
      exact absurd (decide_eq_true (by rw [six]; decide)) h6
    rw [h6]
    cases o with
    | none => cases h6
    | some xs =>
    obtain ⟨a, rfl, ha⟩ := ho
    have hl : xs.length = 6 := by have := of_decide_eq_true h6; omega
    obtain ⟨k, f, y, l, o, t, rfl⟩ : ∃ k f y l o t, xs = [k, f, y, l, o, t] := by
      match xs, hl with
      | [k, f, y, l, o, t], _ => exact ⟨_, _, _, _, _, _, rfl⟩
    have hs := hsc _ rfl
    walk_at "rs"
    refine ⟨_, ha, rfl, _, _, rfl, _, _, rfl, _, _, rfl, _, _, rfl, _, _, rfl, _, _, rfl, rfl, ?_⟩
    walk_at "go"
    intro p hp
    have e1 := ex_upd (o := .tup [f, y, o, t]) hp
    have u1 : upd H p (.tup [f, y, o, t]) p = _ := upd_same
    generalize upd H p (.tup [f, y, o, t]) = H1 at e1 u1 ⊢
    refine ⟨⟨_, .of u1⟩, fun D hD => ?_⟩
    refine lc_map (walk_tup (xs := [f, y, o, t])) (fun i => .bl (btw (([f, y, o, t] : List V).getD i .non) 0 (2 ^ w - 1))) (show 4 ≤ 50000 by decide) hD (fun H' e => .of (e _ _ u1)) ?_ ?_
    · rintro i x H' H2' hk e ⟨rfl, hx⟩ Qe qe
      rw [getD_some hx] at qe
      have hm := List.mem_of_getElem? hx
      have hsx : Sc x := hs x (by simp only [List.mem_cons, List.mem_nil_iff, or_false] at hm ⊢; rcases hm with h | h | h | h <;> simp [h])
      walk_at "rs"
      exact ⟨w, x, rfl, by omega, hsx.typd, qe _ (Ex.refl _)⟩
    intro H2 e2 l2
    have l2' : H2 D = some (.lst ([btw f 0 (2 ^ w - 1), btw y 0 (2 ^ w - 1), btw o 0 (2 ^ w - 1), btw t 0 (2 ^ w - 1)].map V.bl)) := l2
    have x2 := e1.trans e2
    refine ⟨D, [btw f 0 (2 ^ w - 1), btw y 0 (2 ^ w - 1), btw o 0 (2 ^ w - 1), btw t 0 (2 ^ w - 1)], rfl, .of l2', ?_⟩
    walk_at "rs"
    have no : ∀ H', Ex H H' → ¬ IsL w step (some [k, f, y, l, o, t]) → Q (.bl false) H' := fun H' e h => q false H' e ⟨fun z => (by cases z), fun z => absurd z h⟩
    cases hall : (([btw f 0 (2 ^ w - 1), btw y 0 (2 ^ w - 1), btw o 0 (2 ^ w - 1), btw t 0 (2 ^ w - 1)] : List Bool).all id) with
    | false =>
      rw [if_pos rfl]
      refine no _ x2 fun h => ?_
      obtain ⟨g1, g2, g3, g4, _⟩ := isL_in h2 h
      simp [g1, g2, g3, g4] at hall
    | true =>
    rw [if_neg (by decide)]
    simp only [List.all_cons, List.all_nil, Bool.and_true, Bool.and_eq_true, id] at hall
    obtain ⟨g1, g2, g3, g4⟩ := hall
    refine ⟨l, _, rfl, (hs l (by simp)).typd, ?_⟩
    rw [show ((w : Int) + 1 - 1) = w by omega]
    walk_at "rs"
    cases g5 : btw l 0 w with
    | false =>
      rw [if_pos rfl]
      exact no _ x2 fun h => by rw [(isL_in h2 h).2.2.2.2] at g5; cases g5
    | true =>
    rw [if_neg (by decide)]
    obtain ⟨f, rfl, f0, f1, _⟩ := btw_iff.mp g1
    obtain ⟨y, rfl, y0, y1, _⟩ := btw_iff.mp g2
    obtain ⟨o, rfl, o0, o1, _⟩ := btw_iff.mp g3
    obtain ⟨t, rfl, t0, t1, _⟩ := btw_iff.mp g4
    obtain ⟨l', rfl, l0, l1, _⟩ := btw_iff.mp g5
    obtain ⟨l, rfl⟩ : ∃ n : Nat, l' = n := ⟨l'.toNat, by omega⟩
    have ha2 := Evl.ex_t x2 ha
    walk_at "rs"
    have hks := hs k (by simp)
    refine ⟨_, _, rfl, .inr (T.t_KINDS _), hks.flat, rfl, ?_⟩
    by_cases hk : ∃ kk : Kd, k = .str kk.s
    · obtain ⟨kk, rfl⟩ := hk
      rw [show inV (.str kk.s) [V.str (Str.ofString "times"), V.str (Str.ofString "part"), V.str (Str.ofString "rest")] = true by cases kk <;> decide +kernel]
      walk_at "rs"
      have isl : IsL w step (some [.str kk.s, .int f, .int y, .int l, .int o, .int t]) ↔ ((0 < l → (w - l) % step = 0) ∧ [o, t] = [(reM w kk f y l).1, (reM w kk f y l).2]) := by
        constructor
        · rintro ⟨st, hi, e⟩
          cases st with
          | idle => cases kk <;> (simp only [LSt.vs, Kd.s, Option.some.injEq, List.cons.injEq, V.str.injEq, ofStr_inj] at e; exact absurd e.1 (by decide))
          | run k' f' s' l' =>
            simp only [LSt.vs, Option.some.injEq, List.cons.injEq, V.str.injEq, V.int.injEq, and_true] at e
            obtain ⟨e1, rfl, rfl, e4, e5, e6⟩ := e
            have : l' = l := by omega
            subst this
            have : k' = kk := by
              have := e1
              cases kk <;> cases k' <;> first | rfl | (simp only [Kd.s, ofStr_inj] at this; exact absurd this (by decide))
            subst this
            exact ⟨hi.2.2.2.2.2, by rw [e5, e6]⟩
        · rintro ⟨g, e⟩
          simp only [List.cons.injEq, and_true] at e
          exact ⟨.run kk f y l, ⟨f0, by omega, y0, by omega, by omega, g⟩, by rw [LSt.vs, e.1, e.2]⟩
      have fin : ∀ p, H2 p = none → (0 < l → (w - l) % step = 0) → sp_reached_words K [.int w, .str kk.s, .int f, .int y, .int l] (upd H2 p (.tup [.int o, .int t])) (fun v H' => rEqD K (.ref p) v H' Q) E0 := fun p hp hm =>
        ⟨w, kk, f, y, l, rfl, h2, by omega, f0, by omega, y0, by omega, fun p2 H5 e5 u5 => eqD (d := tupD [o, t]) (e := tupD [(reM w kk f y l).1, (reM w kk f y l).2]) (dp_tup (.of (e5 _ _ upd_same))) (dp_tup (.of u5)) (sh_tup _) (sh_tup _) (eqv_tupD _ _)
          (q _ _ ((x2.trans (ex_upd hp)).trans e5) (by rw [isl, decide_eq_true_iff]; exact ⟨fun h => ⟨hm, h⟩, fun h => h.2⟩))⟩
      by_cases hl9 : 0 < l
      · rw [if_pos (by omega)]
        have e9 : ((w : Int) - l) % step = (((w - l) % step : Nat) : Int) := by
          have e : ((w : Int) - l) = ((w - l : Nat) : Int) := by omega
          rw [e]; exact (Int.natCast_emod _ _).symm
        refine ⟨by omega, ?_⟩
        rw [e9]
        by_cases hm : (w - l) % step = 0
        · rw [if_pos (by omega)]
          exact ⟨by decide, fun p hp => fin p hp fun _ => hm⟩
        · rw [if_neg (by omega)]
          exact no _ x2 fun h => hm ((isl.mp h).1 hl9)
      · rw [if_neg (by omega)]
        exact ⟨by decide, fun p hp => fin p hp fun h => absurd h hl9⟩
    · have hk2 : inV k [V.str (Str.ofString "times"), V.str (Str.ofString "part"), V.str (Str.ofString "rest")] = false := by
        rw [Bool.eq_false_iff]
        intro h
        apply hk
        simp only [inV, List.any_cons, List.any_nil, Bool.or_false, Bool.or_eq_true] at h
        cases k with
        | str z =>
          have e : ∀ a, eqV (.str (Str.ofString a)) (.str z) = true → z = Str.ofString a := fun a h => (beq_iff_eq.mp h).symm
          rcases h with h | h | h
          · exact ⟨.times, by rw [e _ h]; rfl⟩
          · exact ⟨.part, by rw [e _ h]; rfl⟩
          · exact ⟨.rest, by rw [e _ h]; rfl⟩
        | _ => rcases h with h | h | h <;> cases h
      rw [hk2]
      walk_at "rs"
      refine eqD (.tup ha2 (dpAll_sc hs)) (dp_st (w := w) (st := .idle) ⟨_, rfl, T.t_IDLE _⟩) (sh_sc hs) sh_st (b := decide (k = .str sNone ∧ f = 0 ∧ y = 0 ∧ (l : Int) = 0 ∧ o = 0 ∧ t = 0)) ?_ ?_
      · show PyData.eqvAll ([k, .int f, .int y, .int l, .int o, .int t].map scD) [.str sNone, .int 0, .int 0, .int 0, .int 0, .int 0] = _
        have ek : PyData.eqv (scD k) (.str sNone) = decide (k = .str sNone) := by
          cases k with
          | str z =>
            show (z == sNone) = _
            by_cases h : z = sNone
            · subst h; simp
            · rw [decide_eq_false (fun h9 => h (V.str.inj h9))]; simpa using h
          | _ => rfl
        simp only [List.map_cons, List.map_nil, PyData.eqvAll, ek]
        simp only [scD, PyData.eqv, Bool.and_true]
        rw [Bool.eq_iff_iff]
        simp
      · refine q _ _ x2 ?_
        rw [decide_eq_true_iff]
        constructor
        · rintro ⟨rfl, rfl, rfl, e, rfl, rfl⟩
          have : l = 0 := by omega
          subst this
          exact ⟨.idle, trivial, rfl⟩
        · rintro ⟨st, hi, e⟩
          cases st with
          | idle =>
            simp only [LSt.vs, Option.some.injEq, List.cons.injEq, V.int.injEq, and_true] at e
            exact e
          | run k' f' s' l' =>
            simp only [LSt.vs, Option.some.injEq, List.cons.injEq] at e
            exact absurd ⟨k', e.1⟩ hk
def sp_is_long (K : PySem.W.Frag) : Sp := fun vs H Q _ => ∃ (w step : Nat) (v : V) (o : Option (List V)), vs = [.int w, .int step, v] ∧ 1 ≤ w ∧ w ≤ 16 ∧ 1 ≤ step ∧ step ≤ 4 ∧ TO K H v o ∧ (∀ xs, o = some xs → ∀ x ∈ xs, Sc x) ∧ ∀ b H', Ex H H' → (b = true ↔ IsL w step o) → Q (.bl b) H'
set_option maxHeartbeats 4000000 in
theorem ok_is_long (T : Txt K mg) : FnOk P w K mg base CX0 5 T.f_is_long T.d_is_long P_is_long (sp_is_long K) := by
  have G_check_long := ok_check_long (P := P) (w := w) (base := base) T
  have G_is_long_state := ok_is_long_state (P := P) (w := w) (base := base) T
  refine T.F_is_long.ok sc_is_long (fun vs H Q E h => ?_) (fun cdv A outer s H vs Q E hr h => ?_)
  · obtain ⟨w, step, v, st, rfl, _⟩ := h; rfl
  · obtain ⟨w, step, v, st, rfl, h1, h2, h3, h4, hs, hi, q⟩ := h
    refine ⟨_, (pss_cons (ps_expr (pe_call G_check_long (hr.mono (by decide)) (by rfl) T.m_check_long T.F_check_long.kp T.b_check_long .nil pass0 (pa_cons (pv 0) (pa_cons (pv 1) pa_nil))))
      (pss_one (ps_ret (pe_call G_is_long_state (hr.mono (by decide)) (by rfl) T.m_is_long_state T.F_is_long_state.kp T.b_is_long_state .nil pass0 (pa_cons (pv 0) (pa_cons (pv 1) (pa_cons (pv 2) pa_nil))))))), ?_⟩
    walk_at "rs"
    refine ⟨w, step, rfl, h1, h2, h3, h4, ?_⟩
    walk_at "rs"
    exact ⟨w, step, v, st, rfl, h1, h2, h3, h4, hs, hi, q⟩
def sp_is_ask (K : PySem.W.Frag) : Sp := fun vs H Q _ => ∃ (w : Nat) (v : V) (x : Ask), vs = [.int w, v] ∧ w ≤ 16 ∧ AskAt K H v x ∧ AIn w x ∧ Q (.bl true) H
set_option maxHeartbeats 4000000 in
theorem ok_is_ask (T : Txt K mg) : FnOk P w K mg base CX0 4 T.f_is_ask T.d_is_ask P_is_ask (sp_is_ask K) := by
  have G_is_tuple_of := ok_is_tuple_of (P := P) (w := w) (base := base) T
  have G_is_word_of := ok_is_word_of (P := P) (w := w) (base := base) T
  refine T.F_is_ask.ok sc_is_ask (fun vs H Q E h => ?_) (fun cdv A outer s H vs Q E hr h => ?_)
  · obtain ⟨w, v, x, rfl, _⟩ := h; rfl
  · obtain ⟨w, v, x, rfl, hw, hx, hi, q⟩ := h
    refine ⟨_, (pss_cons (ps_if (pt_cmpR op_isN (pv 1) pe_non (nomark _)) (pss_one (ps_ret pe_bl)) pss_nil)
      (pss_cons (ps_if (pt_val (pe_call G_is_tuple_of (hr.mono (by decide)) (by rfl) T.m_is_tuple_of T.F_is_tuple_of.kp T.b_is_tuple_of .nil pass0 (pa_cons (pv 1) (pa_cons pe_int (pa_cons pe_int pa_nil))))) (pss_one (ps_ret (pe_cmpR op_eq (pe_ix ix_tup (pv 1) pe_int (fun _ _ => rfl)) pe_str (nomark _)))) pss_nil)
      (pss_cons (ps_if (PW.pt (pw_or (pt_not (pt_val (pe_call G_is_tuple_of (hr.mono (by decide)) (by rfl) T.m_is_tuple_of T.F_is_tuple_of.kp T.b_is_tuple_of .nil pass0 (pa_cons (pv 1) (pa_cons pe_int (pa_cons pe_int pa_nil)))))) (pw_or (pt_cmpR op_ne (pe_ix ix_tup (pv 1) pe_int (fun _ _ => rfl)) pe_str (nomark _)) (pw_or1 (pt_cmpR op_notIn_seq (pe_ix ix_tup (pv 1) pe_int (fun _ _ => rfl)) (pe_glob (v := .ref T.u_KINDS) (by rfl) T.c_KINDS rfl) (by rfl)))))) (pss_one (ps_ret pe_bl)) pss_nil)
      (pss_one (ps_ret (pe_and (pe_call G_is_word_of (hr.mono (by decide)) (by rfl) T.m_is_word_of T.F_is_word_of.kp T.b_is_word_of .nil pass0 (pa_cons (pv 0) (pa_cons (pe_ix ix_tup (pv 1) pe_int (fun _ _ => rfl)) pa_nil))) (pe_one (pe_call G_is_word_of (hr.mono (by decide)) (by rfl) T.m_is_word_of T.F_is_word_of.kp T.b_is_word_of .nil pass0 (pa_cons (pv 0) (pa_cons (pe_ix ix_tup (pv 1) pe_int (fun _ _ => rfl)) pa_nil)))))))))), ?_⟩
    have hp : (2 : Int) ^ w ≤ 2 ^ 16 := pow_le hw
    walk_at "rs"
    cases x with
    | non => cases hx; rw [if_pos rfl]; exact q
    | stop =>
      obtain ⟨a, rfl, ha⟩ := hx
      rw [if_neg (by simp)]
      walk_at "rs"
      refine ⟨_, some _, 1, 1, rfl, ⟨a, rfl, ha⟩, ?_⟩
      rw [show tupB (some [V.str (Str.ofString "stop")]) 1 1 = true from rfl]
      walk_at "go"
      exact q
    | beg k f s =>
      obtain ⟨a, rfl, ha⟩ := hx
      obtain ⟨f0, f1, s0, s1⟩ := hi
      rw [if_neg (by simp)]
      walk_at "rs"
      refine ⟨_, some _, 1, 1, rfl, ⟨a, rfl, ha⟩, ?_⟩
      rw [show tupB (some [V.str (Str.ofString "begin"), .str k.s, .int f, .int s]) 1 1 = false from rfl]
      walk_at "rs"
      refine ⟨_, some _, 4, 4, rfl, ⟨a, rfl, ha⟩, ?_⟩
      rw [show tupB (some [V.str (Str.ofString "begin"), .str k.s, .int f, .int s]) 4 4 = true from rfl]
      walk_at "go"
      have hk : inV (.str k.s) [V.str (Str.ofString "times"), V.str (Str.ofString "part"), V.str (Str.ofString "rest")] = true := by cases k <;> decide +kernel
      refine ⟨_, _, rfl, .inr (T.t_KINDS H), rfl, rfl, ?_⟩
      rw [hk]
      walk_at "go"
      refine ⟨w, _, rfl, by omega, .int, ?_⟩
      rw [btw_ok f0 (by omega) (by omega) (by omega)]
      walk_at "go"
      refine ⟨w, _, rfl, by omega, .int, ?_⟩
      rw [btw_ok s0 (by omega) (by omega) (by omega)]
      exact q
def sp_round_behind (K : PySem.W.Frag) : Sp := fun vs H Q _ => ∃ (w : Nat) (k : Kd) (f s : Int) (l : Nat) (v : V), vs = [.int w, v] ∧ 1 ≤ w ∧ w ≤ 16 ∧ 1 ≤ l ∧ l ≤ w ∧ 0 ≤ f ∧ f < 2 ^ w ∧ 0 ≤ s ∧ s < 2 ^ w ∧ StAt K H w v (.run k f s l) ∧
  ∀ v' H', Ex H H' → StAt K H' w v' (.run k f s (l - 1)) → Q v' H'
set_option maxHeartbeats 4000000 in
theorem ok_round_behind (T : Txt K mg) : FnOk P w K mg base CX0 1 T.f_round_behind T.d_round_behind P_round_behind (sp_round_behind K) := by
  refine T.F_round_behind.ok sc_round_behind (fun vs H Q E h => ?_) (fun cdv A outer s H vs Q E hr h => ?_)
  · obtain ⟨w, k, f, s, l, v, rfl, _⟩ := h; rfl
  · obtain ⟨w, k, f, y, l, v, rfl, hw, hw2, hl, hl2, f0, f1, s0, s1, ⟨a, rfl, ha⟩, q⟩ := h
    refine ⟨_, (pss_cons (ps_asg (pv 1) (pg_tup (n := 6) rfl (pgs_cons (pg_name (i := 2) sc_round_behind.nd rfl (Or.inl rfl)) (pgs_cons (pg_name (i := 3) sc_round_behind.nd rfl (Or.inl rfl)) (pgs_cons (pg_name (i := 4) sc_round_behind.nd rfl (Or.inl rfl)) (pgs_cons (pg_name (i := 5) sc_round_behind.nd rfl (Or.inl rfl)) (pgs_cons (pg_name (i := 6) sc_round_behind.nd rfl (Or.inl rfl)) (pgs_cons (pg_name (i := 7) sc_round_behind.nd rfl (Or.inl rfl)) pgs_nil))))))))
      (pss_cons (ps_par (i := 8) (j := 9) (by rfl) sc_round_behind.nd rfl rfl (by decide) rfl rfl (pa_cons (pe_op op_shr (pv 7) (pe_op op_sub (pv 0) pe_int)) (pa_cons (pe_op op_shl pe_int (pv 0)) pa_nil)) (by rfl))
      (pss_cons (ps_if (pt_cmpR op_eq (pv 2) pe_str (nomark _)) (pss_one (ps_ret (pe_tup (pa_cons (pv 2) (pa_cons (pv 3) (pa_cons (pv 4) (pa_cons (pe_op op_sub (pv 5) pe_int) (pa_cons (pe_op op_mod (pe_op op_add (pe_op op_mulA pe_int (pv 6)) (pe_op op_mulA (pv 8) (pv 3))) (pv 9)) (pa_cons (pe_op op_mod (pe_op op_mulA pe_int (pv 7)) (pv 9)) pa_nil))))))))) pss_nil)
      (pss_cons (ps_set (i := 10) sc_round_behind.nd rfl (Or.inl rfl) (pe_op op_add (pe_op op_mulA pe_int (pv 6)) (pv 8)))
      (pss_cons (ps_if (pt_cmpR op_ge (pv 10) (pv 4) (nomark _)) (pss_one (ps_ret (pe_tup (pa_cons (pv 2) (pa_cons (pv 3) (pa_cons (pv 4) (pa_cons (pe_op op_sub (pv 5) pe_int) (pa_cons (pe_op op_mod (pe_op op_sub (pv 10) (pv 4)) (pv 9)) (pa_cons (pe_op op_mod (pe_op op_add (pe_op op_mulA pe_int (pv 7)) pe_int) (pv 9)) pa_nil))))))))) pss_nil)
      (pss_one (ps_ret (pe_tup (pa_cons (pv 2) (pa_cons (pv 3) (pa_cons (pv 4) (pa_cons (pe_op op_sub (pv 5) pe_int) (pa_cons (pe_op op_mod (pv 10) (pv 9)) (pa_cons (pe_op op_mod (pe_op op_mulA pe_int (pv 7)) (pv 9)) pa_nil)))))))))))))), ?_⟩
    have hp : (2 : Int) ^ w ≤ 2 ^ 16 := pow_le hw2
    have hp0 := pow_pos' w
    have hR := rd_re (k := k) hl hl2 f0 f1 s0 s1
    obtain ⟨o0, o1, t0, t1⟩ := re_bd (k := k) (s := y) hl2 f0 f1 s0
    generalize hst : reM w k f y l = ot at hR o0 o1 t0 t1
    obtain ⟨o, t⟩ := ot
    simp only [] at hR o0 o1 t0 t1
    have hvs : LSt.vs w (.run k f y l) = [.str k.s, .int f, .int y, .int l, .int o, .int t] := by show [V.str k.s, _, _, _, .int (reM w k f y l).1, .int (reM w k f y l).2] = _; rw [hst]
    rw [hvs] at ha
    have hsub : ((w : Int) - 1) = ((w - 1 : Nat) : Int) := by omega
    have hsl : ((l : Int) - 1) = ((l - 1 : Nat) : Int) := by omega
    have tp0 : 0 ≤ t / 2 ^ (w - 1) := Int.ediv_nonneg t0 (Int.le_of_lt (pow_pos' _))
    have tp1 : t / 2 ^ (w - 1) < 2 := by
      have e : (2 : Int) ^ w = 2 ^ (w - 1) * 2 := by rw [← Int.pow_succ]; congr 1; omega
      exact Int.ediv_lt_of_lt_mul (pow_pos' _) (by rw [Int.mul_comm, ← e]; exact t1)
    unfold rdM at hR
    walk_at "rs"
    refine ⟨_, ha, rfl, _, _, rfl, _, _, rfl, _, _, rfl, _, _, rfl, _, _, rfl, _, _, rfl, rfl, ?_⟩
    walk_at "rs"
    rw [hsub, Int.one_mul, Int.toNat_natCast]
    generalize t / 2 ^ (w - 1) = u at hR tp0 tp1 ⊢
    have fin : ∀ p o' t', H p = none → (o', t') = reM w k f y (l - 1) → Q (.ref p) (upd H p (.tup [.str k.s, .int f, .int y, .int ((l - 1 : Nat) : Int), .int o', .int t'])) := fun p o' t' hp e => by
      refine q _ _ (ex_upd hp) ⟨p, rfl, .of ?_⟩
      rw [upd_same]
      show _ = some (HO.tup [_, _, _, _, .int (reM w k f y (l - 1)).1, .int (reM w k f y (l - 1)).2])
      rw [← e]
    refine ⟨by omega, ⟨by omega, by omega, by omega⟩, ?_⟩
    walk_at "rs"
    by_cases hk : k = .times
    · subst hk
      rw [if_pos rfl] at hR
      rw [if_pos (show Kd.times.s = Str.ofString "times" from rfl)]
      walk_at "go"
      rw [hsl]
      exact fun p hp => fin p _ _ hp hR
    · have hks : ¬ k.s = Str.ofString "times" := by cases k <;> first | exact absurd rfl hk | decide +kernel
      rw [if_neg hk] at hR
      rw [if_neg hks]
      walk_at "go"
      by_cases hc : y ≤ 2 * o + u
      · rw [if_pos hc] at hR ⊢
        walk_at "go"
        rw [hsl]
        exact fun p hp => fin p _ _ hp hR
      · rw [if_neg hc] at hR ⊢
        walk_at "go"
        rw [hsl]
        refine fun p hp => fin p _ _ hp ?_
        rw [← hR, Int.emod_eq_of_lt (by omega) (by omega)]
def sp_beat_behind (K : PySem.W.Frag) : Sp := fun vs H Q _ => ∃ (w step : Nat) (v u : V) (st : LSt) (x : Ask), vs = [.int w, .int step, v, u] ∧ 1 ≤ w ∧ w ≤ 16 ∧ 1 ≤ step ∧ step ≤ 4 ∧ StAt K H w v st ∧ LIn w step st ∧ AskAt K H u x ∧ AIn w x ∧ ∀ r H', Ex H H' → BtAt K H' w r (btM w step st x) → Q r H'
set_option maxHeartbeats 4000000 in
theorem ok_beat_behind (T : Txt K mg) : FnOk P w K mg base CX0 2 T.f_beat_behind T.d_beat_behind P_beat_behind (sp_beat_behind K) := by
  have G_round_behind := ok_round_behind (P := P) (w := w) (base := base) T
  refine T.F_beat_behind.ok sc_beat_behind (fun vs H Q E h => ?_) (fun cdv A outer s H vs Q E hr h => ?_)
  · obtain ⟨w, step, v, u, st, x, rfl, _⟩ := h; rfl
  · obtain ⟨w, step, v, u, st, x, rfl, h1, h2, h3, h4, hs, hi, hx, hy, q⟩ := h
    refine ⟨_, (pss_cons (ps_if (pt_cmpR op_notN (pv 3) pe_non (nomark _)) (pss_cons (ps_if (pt_cmpR op_eq (pe_ix ix_tup (pv 3) pe_int (fun _ _ => rfl)) pe_str (nomark _)) (pss_one (ps_ret (pe_tup (pa_cons (pe_glob (v := .ref T.u_IDLE) (by rfl) T.c_IDLE rfl) (pa_cons pe_non pa_nil))))) pss_nil)
      (pss_cons (ps_asg (pv 3) (pg_tup (n := 4) rfl (pgs_cons (pg_name (i := 4) sc_beat_behind.nd rfl (Or.inl rfl)) (pgs_cons (pg_name (i := 5) sc_beat_behind.nd rfl (Or.inl rfl)) (pgs_cons (pg_name (i := 6) sc_beat_behind.nd rfl (Or.inl rfl)) (pgs_cons (pg_name (i := 7) sc_beat_behind.nd rfl (Or.inl rfl)) pgs_nil))))))
      (pss_one (ps_ret (pe_tup (pa_cons (pe_tup (pa_cons (pv 5) (pa_cons (pv 6) (pa_cons (pv 7) (pa_cons (pv 0) (pa_cons pe_int (pa_cons (pe_ifExp (pt_cmpR op_eq (pv 5) pe_str (nomark _)) (pv 7) (pv 6)) pa_nil))))))) (pa_cons pe_non pa_nil))))))) pss_nil)
      (pss_cons (ps_if (pt_cmpR (op_eqD hr.units) (pv 2) (pe_glob (v := .ref T.u_IDLE) (by rfl) T.c_IDLE rfl) (nomark _)) (pss_one (ps_ret (pe_tup (pa_cons (pe_glob (v := .ref T.u_IDLE) (by rfl) T.c_IDLE rfl) (pa_cons pe_non pa_nil))))) pss_nil)
      (pss_cons (ps_if (pt_cmpR op_eq (pe_ix ix_tup (pv 2) pe_int (fun _ _ => rfl)) pe_int (nomark _)) (pss_one (ps_ret (pe_tup (pa_cons (pe_glob (v := .ref T.u_IDLE) (by rfl) T.c_IDLE rfl) (pa_cons (pe_ifExp (pt_cmpR op_eq (pe_ix ix_tup (pv 2) pe_int (fun _ _ => rfl)) pe_str (nomark _)) (pe_ix ix_tup (pv 2) pe_int (fun _ _ => rfl)) (pe_ix ix_tup (pv 2) pe_int (fun _ _ => rfl))) pa_nil))))) pss_nil)
      (pss_cons (ps_for PassesOwn.never rfl (pi_range1 (by rfl) T.n_range (pa_cons (pe_callB (call_min2 rfl) (by rfl) T.n_min (by decide +kernel) (pa_cons (pv 1) (pa_cons (pe_ix ix_tup (pv 2) pe_int (fun _ _ => rfl)) pa_nil))) pa_nil)) (pg_name (i := 4) sc_beat_behind.nd rfl (Or.inl rfl)) (pss_one (ps_set (i := 2) sc_beat_behind.nd rfl (Or.inl rfl) (pe_call G_round_behind (hr.mono (by decide)) (by rfl) T.m_round_behind T.F_round_behind.kp T.b_round_behind .nil pass0 (pa_cons (pv 0) (pa_cons (pv 2) pa_nil))))))
      (pss_one (ps_ret (pe_tup (pa_cons (pv 2) (pa_cons pe_non pa_nil))))))))), ?_⟩
    have hp : (2 : Int) ^ w ≤ 2 ^ 16 := pow_le h2
    have hp0 := pow_pos' w
    walk_at "rs"
    have hidle : StAt K H w (.ref T.u_IDLE) .idle := ⟨_, rfl, T.t_IDLE H⟩
    cases x with
    | stop =>
      obtain ⟨a, rfl, ha⟩ := hx
      rw [if_neg (by simp)]
      walk_at "go"
      intro p hp
      have e : btM w step st .stop = (.idle, none) := by cases st <;> rfl
      rw [e] at q
      exact q _ _ (ex_upd hp) ⟨p, _, rfl, .of upd_same, hidle.ex (ex_upd hp)⟩
    | beg k f y =>
      obtain ⟨a, rfl, ha⟩ := hx
      obtain ⟨f0, f1, s0, s1⟩ := hy
      rw [if_neg (by simp)]
      have e : btM w step st (.beg k f y) = (.run k f y w, none) := by cases st <;> rfl
      rw [e] at q
      walk_at "go"
      have hre := re_full (k := k) f0 f1 s0 s1
      have fin : ∀ z, z = (if k = .times then y else f) → 6 ≤ sizeLine ∧ ∀ p, H p = none → 2 ≤ sizeLine ∧ ∀ p_1, upd H p (HO.tup [.str k.s, .int f, .int y, .int w, .int 0, .int z]) p_1 = none → Q (.ref p_1) (upd (upd H p (HO.tup [.str k.s, .int f, .int y, .int w, .int 0, .int z])) p_1 (.tup [.ref p, .non])) := fun z hz =>
        ⟨by decide, fun p hp => ⟨by decide, fun p1 hp1 => q _ _ ((ex_upd hp).trans (ex_upd hp1)) ⟨p1, _, rfl, .of upd_same, p, rfl, .of (ex_upd hp1 _ _ (by
          rw [upd_same]
          show _ = some (HO.tup [V.str k.s, .int f, .int y, .int w, .int (reM w k f y w).1, .int (reM w k f y w).2])
          rw [hre, hz]))⟩⟩⟩
      by_cases hk : k = .times
      · subst hk
        rw [if_pos (show Kd.times.s = Str.ofString "times" from rfl)]
        exact fin _ rfl
      · have hks : ¬ k.s = Str.ofString "times" := by cases k <;> first | exact absurd rfl hk | decide +kernel
        rw [if_neg hks]
        exact fin _ (by rw [if_neg hk])
    | non =>
      cases hx
      rw [if_pos rfl]
      walk_at "rs"
      cases st with
      | idle =>
        refine eqSelf (dp_st hs) (dp_st hidle) sh_st ?_
        walk_at "go"
        exact fun p hp => q _ _ (ex_upd hp) ⟨p, _, rfl, .of upd_same, hidle.ex (ex_upd hp)⟩
      | run k f y l =>
        obtain ⟨f0, f1, s0, s1, hl, hm⟩ := hi
        have hk : (k.s == sNone) = false := by cases k <;> decide +kernel
        refine eqD (dp_st hs) (dp_st hidle) sh_st sh_st (b := false) (by simp [LSt.dat, PyData.eqv, PyData.eqvAll, hk]) ?_
        obtain ⟨a, rfl, ha⟩ := hs
        walk_at "go"
        have eb : btM w step (.run k f y l) .non = if l = 0 then (.idle, some (if k = .part then (reM w k f y 0).2 else (reM w k f y 0).1)) else (.run k f y (l - min step l), none) := rfl
        rw [eb] at q
        by_cases hl0 : l = 0
        · subst hl0
          rw [if_pos rfl] at q
          rw [if_pos (by omega)]
          have fin : ∀ z, z = (if k = .part then (reM w k f y 0).2 else (reM w k f y 0).1) → 2 ≤ sizeLine ∧ ∀ p, H p = none → Q (.ref p) (upd H p (.tup [.ref T.u_IDLE, .int z])) := fun z hz =>
            ⟨by decide, fun p hp => q _ _ (ex_upd hp) ⟨p, _, rfl, .of (by rw [upd_same, hz]; rfl), hidle.ex (ex_upd hp)⟩⟩
          refine ixT ha rfl ⟨rfl, ?_⟩
          by_cases hk : k = .part
          · subst hk
            rw [if_pos (show V.str Kd.part.s = V.str (Str.ofString "part") from rfl)]
            refine ixT ha rfl ?_
            exact fin _ rfl
          · have hks : ¬ V.str k.s = V.str (Str.ofString "part") := by cases k <;> first | exact absurd rfl hk | decide +kernel
            rw [if_neg hks]
            refine ixT ha rfl ?_
            exact fin _ (by rw [if_neg hk])
        · rw [if_neg hl0] at q
          rw [if_neg (by omega)]
          walk_at "go"
          have hmin : (if (l : Int) < step then (l : Int) else step) = ((min step l : Nat) : Int) := by
            by_cases h : (l : Int) < step
            · rw [if_pos h]; omega
            · rw [if_neg h]; omega
          rw [hmin, Int.toNat_natCast]
          refine lpR (min step l) (fun i σ H' => Ex H H' ∧ ∃ v t4, σ = [some (.int w), some (.int step), some v, some .non, t4, none, none, none] ∧ StAt K H' w v (.run k f y (l - i))) ⟨Ex.refl _, _, none, rfl, ⟨a, rfl, ha⟩⟩ ?_ ?_
          · rintro i σ H1 hi ⟨e1, v, t4, rfl, hv⟩
            walk_at "rs"
            refine ⟨w, k, f, y, l - i, v, rfl, h1, h2, by omega, by omega, f0, f1, s0, s1, hv, fun v' H2 e2 hv2 => ?_⟩
            walk_at "rs"
            exact ⟨e1.trans e2, by rw [show l - (i + 1) = l - i - 1 by omega]; exact hv2⟩
          · rintro σ H1 ⟨e1, v, t4, rfl, hv⟩
            walk_at "go"
            exact fun p hp => q _ _ (e1.trans (ex_upd hp)) ⟨p, v, rfl, .of upd_same, hv.ex (ex_upd hp)⟩
def sp_long_beat (K : PySem.W.Frag) : Sp := fun vs H Q _ => ∃ (w step : Nat) (v u : V) (st : LSt) (x : Ask), vs = [.int w, .int step, v, u] ∧ 1 ≤ w ∧ w ≤ 16 ∧ 1 ≤ step ∧ step ≤ 4 ∧ StAt K H w v st ∧ LIn w step st ∧ AskAt K H u x ∧ AIn w x ∧ ∀ r H', Ex H H' → BtAt K H' w r (btM w step st x) → Q r H'
set_option maxHeartbeats 4000000 in
theorem ok_long_beat (T : Txt K mg) : FnOk P w K mg base CX0 6 T.f_long_beat T.d_long_beat P_long_beat (sp_long_beat K) := by
  have G_check_long := ok_check_long (P := P) (w := w) (base := base) T
  have G_plainly_made := ok_plainly_made (P := P) (w := w) (base := base) T
  have G_is_long_state := ok_is_long_state (P := P) (w := w) (base := base) T
  have G_is_ask := ok_is_ask (P := P) (w := w) (base := base) T
  have G_beat_behind := ok_beat_behind (P := P) (w := w) (base := base) T
  refine T.F_long_beat.ok sc_long_beat (fun vs H Q E h => ?_) (fun cdv A outer s H vs Q E hr h => ?_)
  · obtain ⟨w, step, v, u, st, x, rfl, _⟩ := h; rfl
  · obtain ⟨w, step, v, u, st, x, rfl, h1, h2, h3, h4, hs, hi, hx, hy, q⟩ := h
    refine ⟨_, (pss_cons (ps_expr (pe_call G_check_long (hr.mono (by decide)) (by rfl) T.m_check_long T.F_check_long.kp T.b_check_long .nil pass0 (pa_cons (pv 0) (pa_cons (pv 1) pa_nil))))
      (pss_cons (ps_if (pt_not (pt_val (pe_call G_is_long_state (hr.mono (by decide)) (by rfl) T.m_is_long_state T.F_is_long_state.kp T.b_is_long_state .nil pass0 (pa_cons (pv 0) (pa_cons (pv 1) (pa_cons (pv 2) pa_nil)))))) pss_never pss_nil)
      (pss_cons (ps_if (pt_not (pt_val (pe_call G_is_ask (hr.mono (by decide)) (by rfl) T.m_is_ask T.F_is_ask.kp T.b_is_ask .nil pass0 (pa_cons (pv 0) (pa_cons (pv 3) pa_nil))))) pss_never pss_nil)
      (pss_one (ps_ret (pe_call G_plainly_made (hr.mono (by decide)) (by rfl) T.m_plainly_made T.F_plainly_made.kp T.b_plainly_made .nil pass0 (pa_cons (pe_call G_beat_behind (hr.mono (by decide)) (by rfl) T.m_beat_behind T.F_beat_behind.kp T.b_beat_behind .nil pass0 (pa_cons (pv 0) (pa_cons (pv 1) (pa_cons (pv 2) (pa_cons (pv 3) pa_nil))))) pa_nil))))))), ?_⟩
    walk_at "rs"
    refine ⟨w, step, rfl, h1, h2, h3, h4, ?_⟩
    walk_at "rs"
    refine ⟨w, step, v, some (st.vs w), rfl, h1, h2, h3, h4, hs, fun xs e => by cases e; exact sc_st, fun b H1 e1 hb => ?_⟩
    have : b = true := hb.mpr ⟨st, hi, rfl⟩
    subst this
    walk_at "rs"
    refine ⟨w, u, x, rfl, h2, hx.ex e1, hy, ?_⟩
    walk_at "rs"
    refine ⟨w, step, v, u, st, x, rfl, h1, h2, h3, h4, hs.ex e1, hi, hx.ex e1, hy, fun r H2 e2 hb => ?_⟩
    refine ⟨r, _, rfl, dp_bt hb, plain_bt, by rw [dep_bt]; decide, fun v' H' e' hd => q _ _ ((e1.trans e2).trans e') (bt_of_dp hd)⟩
def sp_law_dice (K : PySem.W.Frag) : Sp := fun vs H Q _ => ∃ (a : Addr) (ns : List Int) (k : Nat), vs = [.ref a, .int k] ∧ SqL K H a (ns.map V.int) ∧ k ≤ 1000 ∧ ∀ l m p, 0 ≤ l → 0 ≤ m → H p = none → Q (.ref p) (upd H p (dice3 l m 0))
set_option maxHeartbeats 4000000 in
theorem ok_law_dice (T : Txt K mg) : FnOk P w K mg base CX0 1 T.f_law_dice T.d_law_dice P_law_dice (sp_law_dice K) := by
  refine T.F_law_dice.ok sc_law_dice (fun vs H Q E h => ?_) (fun cdv A outer s H vs Q E hr h => ?_)
  · obtain ⟨a, ns, k, rfl, _⟩ := h; rfl
  · obtain ⟨a, ns, k, rfl, hS, hk, q⟩ := h
    refine ⟨_, (pss_cons (ps_set (i := 2) sc_law_dice.nd rfl (Or.inl rfl) (pe_op op_add (pe_op op_mulA pe_int (pv 1)) pe_int))
      (pss_cons (ps_if (pt_cmpR op_lt (pv 1) (pe_callB call_len_seq (by rfl) T.n_len (by decide +kernel) (pa_cons (pv 0) pa_nil)) (nomark _)) (pss_one (ps_set (i := 2) sc_law_dice.nd rfl (Or.inl rfl) (pe_ix ix_list (pv 0) (pv 1) (fun _ _ => rfl)))) pss_nil)
      (pss_cons (ps_set (i := 3) sc_law_dice.nd rfl (Or.inl rfl) (pe_op op_mod (pe_callTy call_int1 (by rfl) T.n_int (by decide +kernel) (pa_cons (pe_callB call_abs (by rfl) T.n_abs (by decide +kernel) (pa_cons (pv 2) pa_nil)) pa_nil)) (pe_op op_powW (pe_op op_powW pe_int pe_int) pe_int)))
      (pss_cons (ps_set (i := 4) sc_law_dice.nd rfl (Or.inl rfl) (pe_op op_fdivW (pv 3) (pe_op op_powW pe_int pe_int)))
      (pss_cons (ps_set (i := 5) sc_law_dice.nd rfl (Or.inl rfl) (pe_op op_add (pe_op op_add (pe_op op_add (pe_op op_mulA (pe_op op_mod (pv 3) pe_int) pe_int) (pe_op op_mulA pe_int (pv 1))) (pe_op op_mulA pe_int (pe_callTy call_int1 (by rfl) T.n_int (by decide +kernel) (pa_cons (pe_cmpR op_lt (pv 2) pe_int (nomark _)) pa_nil)))) pe_int))
      (pss_one (ps_ret (pe_lst (pa_cons (pv 4) (pa_cons (pe_op op_mod (pv 5) pe_int) (pa_cons pe_int pa_nil))))))))))), ?_⟩
    walk_at "rd"
    have hM : (0 : Int) < (10 ^ Int.toNat 62) ^ Int.toNat 10 := by decide +kernel
    have hD : (0 : Int) < 10 ^ Int.toNat 18 := by decide +kernel
    have p1 : CPowW 10 62 := ⟨by decide, by decide +kernel⟩
    have p2 : CPowW (10 ^ Int.toNat 62) 10 := ⟨by decide, by decide +kernel⟩
    have p3 : CPowW 10 18 := ⟨by decide, by decide +kernel⟩
    have d1 : ∀ x : Int, CDivW x (10 ^ Int.toNat 18) := fun x => divw 100 hD (by decide +kernel)
    refine ⟨mulL (by decide), ns.map V.int, .inl hS, ?_⟩
    refine ite2 (fun hlt => ?_) (fun hlt => ?_)
    · have hlt' : k < ns.length := by simpa using hlt
      refine ixL (v := .int ns[k]) hS (atI_nat (by simp [hlt'])) ⟨ns[k], rfl, p1, p2, hM, p3, d1 _, by decide, mulR (by decide), mulL (by decide), ns[k], rfl, mulL (by decide), by decide, by decide, fun p hp => q _ _ p ?_ ?_ hp⟩
      · exact Int.ediv_nonneg (mod_bd hM).1 (by omega)
      · exact (mod_bd (by decide)).1
    · refine ⟨p1, p2, hM, p3, d1 _, by decide, mulR (by decide), mulL (by decide), mulL (by decide), by decide, by decide, fun p hp => q _ _ p ?_ ?_ hp⟩
      · exact Int.ediv_nonneg (mod_bd hM).1 (by omega)
      · exact (mod_bd (by decide)).1
def sp_law_roll (K : PySem.W.Frag) : Sp := fun vs H Q _ => ∃ (d : Addr) (t : Int), vs = [.ref d, .int t] ∧ DiceAt H d ∧ 0 < t ∧ t < 2 ^ 4000 ∧ ∀ i l m n, 0 ≤ i → i < t → 0 ≤ l → 0 ≤ m → 0 ≤ n → Q (.int i) (upd H d (dice3 l m n))
set_option maxHeartbeats 4000000 in
theorem ok_law_roll (T : Txt K mg) : FnOk P w K mg base CX0 1 T.f_law_roll T.d_law_roll P_law_roll (sp_law_roll K) := by
  refine T.F_law_roll.ok sc_law_roll (fun vs H Q E h => ?_) (fun cdv A outer s H vs Q E hr h => ?_)
  · obtain ⟨d, t, rfl, _⟩ := h; rfl
  · obtain ⟨d, t, rfl, ⟨l, m, n, hl, hm, hn, hd⟩, h0, h1, q⟩ := h
    refine ⟨_, (pss_cons (ps_set (i := 2) sc_law_roll.nd rfl (Or.inl rfl) (pe_callTy call_int1 (by rfl) T.n_int (by decide +kernel) (pa_cons (pv 1) pa_nil)))
      (pss_cons (ps_if (pt_cmpR op_gt (pe_ix ix_list (pv 0) pe_int (fun _ _ => rfl)) pe_int (nomark _)) (pss_cons (ps_set (i := 3) sc_law_roll.nd rfl (Or.inl rfl) (pe_op op_mod (pe_ix ix_list (pv 0) pe_int (fun _ _ => rfl)) (pv 2)))
      (pss_cons (ps_asg (pe_op op_fdivW (pe_ix ix_list (pv 0) pe_int (fun _ _ => rfl)) (pv 2)) (pg_sub (pv 0) pe_int set_list))
      (pss_one (ps_ret (pe_callTy call_int1 (by rfl) T.n_int (by decide +kernel) (pa_cons (pv 3) pa_nil)))))) pss_nil)
      (pss_cons (ps_asg (pe_op op_add (pe_ix ix_list (pv 0) pe_int (fun _ _ => rfl)) pe_int) (pg_sub (pv 0) pe_int set_list))
      (pss_cons (ps_set (i := 4) sc_law_roll.nd rfl (Or.inl rfl) (pe_op op_mod (pe_op op_add (pe_ix ix_list (pv 0) pe_int (fun _ _ => rfl)) (pe_op op_mulA pe_int (pe_ix ix_list (pv 0) pe_int (fun _ _ => rfl)))) pe_int))
      (pss_cons (ps_set (i := 5) sc_law_roll.nd rfl (Or.inl rfl) (pe_op op_add (pe_op op_mulA (pe_op op_mod (pe_op op_mulA (pv 4) (pv 4)) pe_int) (pv 4)) (pe_op op_mulA pe_int (pe_ix ix_list (pv 0) pe_int (fun _ _ => rfl)))))
      (pss_cons (ps_set (i := 5) sc_law_roll.nd rfl (Or.inl rfl) (pe_op op_mod (pv 5) pe_int))
      (pss_one (ps_ret (pe_callTy call_int1 (by rfl) T.n_int (by decide +kernel) (pa_cons (pe_op op_mod (pe_op op_fdivW (pv 5) pe_int) (pv 2)) pa_nil)))))))))), ?_⟩
    walk_at "rd"
    refine ixM hd (v := .int l) rfl ⟨l, rfl, ite2 (fun hl0 => ?_) (fun hl0 => ?_)⟩
    · refine ixM hd (v := .int l) rfl ⟨l, rfl, h0, ixM hd (v := .int l) rfl ⟨l, rfl, divw 4000 h0 (by omega), setL hd (j := 0) rfl ?_⟩⟩
      exact q _ _ m n (mod_bd h0).1 (mod_bd h0).2 (Int.ediv_nonneg hl (by omega)) hm hn
    · refine ixM hd (v := .int n) rfl ⟨n, rfl, setL hd (j := 2) rfl (ixM upd_same (v := .int m) rfl (ixM upd_same (v := .int (n + 1)) rfl ⟨_, rfl, mulL (by decide), _, rfl, by decide, ?_⟩))⟩
      have b1 := mod_bd (a := m + 1000427 * (n + 1)) (b := 2305843009213693951) (by decide)
      generalize (m + 1000427 * (n + 1)) % 2305843009213693951 = one at b1 ⊢
      refine ⟨mulL (by omega), by decide, mulR (by omega), ixM upd_same (v := .int (n + 1)) rfl ⟨_, rfl, mulL (by decide), by decide, divw 20 (by decide) (by decide), h0, ?_⟩⟩
      exact q _ l m (n + 1) (mod_bd h0).1 (mod_bd h0).2 hl hm (by omega)
def sp_law_one_of (K : PySem.W.Frag) : Sp := fun vs H Q _ => ∃ (d a : Addr) (xs : List V), vs = [.ref d, .ref a] ∧ DiceAt H d ∧ d ≠ a ∧ SqL K H a xs ∧ 0 < xs.length ∧ xs.length ≤ 100000 ∧
  ∀ x l m n, x ∈ xs → 0 ≤ l → 0 ≤ m → 0 ≤ n → Q x (upd H d (dice3 l m n))
set_option maxHeartbeats 4000000 in
theorem ok_law_one_of (T : Txt K mg) : FnOk P w K mg base CX0 2 T.f_law_one_of T.d_law_one_of P_law_one_of (sp_law_one_of K) := by
  have G_law_roll := ok_law_roll (P := P) (w := w) (base := base) T
  refine T.F_law_one_of.ok sc_law_one_of (fun vs H Q E h => ?_) (fun cdv A outer s H vs Q E hr h => ?_)
  · obtain ⟨d, a, xs, rfl, _⟩ := h; rfl
  · obtain ⟨d, a, xs, rfl, hd, hda, hx, h0, h1, q⟩ := h
    refine ⟨_, (pss_one (ps_ret (pe_ix ix_list (pv 1) (pe_call G_law_roll (hr.mono (by decide)) (by rfl) T.m_law_roll T.F_law_roll.kp T.b_law_roll .nil pass0 (pa_cons (pv 0) (pa_cons (pe_callB call_len_seq (by rfl) T.n_len (by decide +kernel) (pa_cons (pv 1) pa_nil)) pa_nil))) (fun _ _ => rfl)))), ?_⟩
    walk_at "rd"
    refine ⟨xs, .inl hx, d, _, rfl, hd, by omega, Int.lt_of_le_of_lt (Int.ofNat_le.mpr h1) (by decide +kernel), fun i l m n hi hi2 hl hm hn => ?_⟩
    obtain ⟨k, rfl⟩ : ∃ k : Nat, i = k := ⟨i.toNat, by omega⟩
    have hk : k < xs.length := by omega
    exact ixL (sq_upd hda.symm hx) (atI_nat' hk) (q _ _ _ _ (List.getElem_mem hk) hl hm hn)
def sp_law_two_to (K : PySem.W.Frag) : Sp := fun vs H Q _ => ∃ n : Nat, vs = [.int n] ∧ n ≤ 100000 ∧ Q (.int (2 ^ n)) H
set_option maxHeartbeats 4000000 in
theorem ok_law_two_to (T : Txt K mg) : FnOk P w K mg base CX0 1 T.f_law_two_to T.d_law_two_to P_law_two_to (sp_law_two_to K) := by
  refine T.F_law_two_to.ok sc_law_two_to (fun vs H Q E h => ?_) (fun cdv A outer s H vs Q E hr h => ?_)
  · obtain ⟨n, rfl, _⟩ := h; rfl
  · obtain ⟨n, rfl, hn, q⟩ := h
    refine ⟨_, (pss_cons (ps_set (i := 1) sc_law_two_to.nd rfl (Or.inl rfl) pe_int)
      (pss_cons (ps_for PassesOwn.never rfl (pi_range1 (by rfl) T.n_range (pa_cons (pv 0) pa_nil)) (pg_name (i := 2) sc_law_two_to.nd rfl (Or.inl rfl)) (pss_one (ps_set (i := 1) sc_law_two_to.nd rfl (Or.inl rfl) (pe_op op_mulA pe_int (pv 1)))))
      (pss_one (ps_ret (pv 1))))), ?_⟩
    walk_at "rd"
    refine ⟨by omega, by omega, lpR n (fun i σ H' => H' = H ∧ ∃ t, σ = [some (.int n), some (.int (2 ^ i)), t]) ⟨rfl, _, rfl⟩ ?_ ?_⟩
    · rintro i σ H' hi ⟨rfl, t, rfl⟩
      walk_at "rd"
      exact ⟨mulL (by decide), by rw [Int.pow_succ, Int.mul_comm]⟩
    · rintro σ H' ⟨rfl, t, rfl⟩
      walk_at "rd"
      exact q
def sp_law_round (K : PySem.W.Frag) : Sp := fun vs H Q _ => ∃ (w : Nat) (k : Kd) (f s : Int) (l : Nat) (v : V), vs = [.int w, v] ∧ 1 ≤ w ∧ w ≤ 16 ∧ 1 ≤ l ∧ l ≤ w ∧ 0 ≤ f ∧ f < 2 ^ w ∧ 0 ≤ s ∧ s < 2 ^ w ∧ StAt K H w v (.run k f s l) ∧
  ∀ v' H', Ex H H' → (∃ a', v' = .ref a' ∧ H' a' = some (.tup (LSt.vs w (.run k f s (l - 1))))) → Q v' H'
set_option maxHeartbeats 4000000 in
theorem ok_law_round (T : Txt K mg) : FnOk P w K mg base CX0 2 T.f_law_round T.d_law_round P_law_round (sp_law_round K) := by
  have G_law_two_to := ok_law_two_to (P := P) (w := w) (base := base) T
  refine T.F_law_round.ok sc_law_round (fun vs H Q E h => ?_) (fun cdv A outer s H vs Q E hr h => ?_)
  · obtain ⟨w, k, f, s, l, v, rfl, _⟩ := h; rfl
  · obtain ⟨w, k, f, y, l, v, rfl, hw, hw2, hl, hl2, f0, f1, s0, s1, ⟨a, rfl, ha⟩, q⟩ := h
    refine ⟨_, (pss_cons (ps_asg (pv 1) (pg_tup (n := 6) rfl (pgs_cons (pg_name (i := 2) sc_law_round.nd rfl (Or.inl rfl)) (pgs_cons (pg_name (i := 3) sc_law_round.nd rfl (Or.inl rfl)) (pgs_cons (pg_name (i := 4) sc_law_round.nd rfl (Or.inl rfl)) (pgs_cons (pg_name (i := 5) sc_law_round.nd rfl (Or.inl rfl)) (pgs_cons (pg_name (i := 6) sc_law_round.nd rfl (Or.inl rfl)) (pgs_cons (pg_name (i := 7) sc_law_round.nd rfl (Or.inl rfl)) pgs_nil))))))))
      (pss_cons (ps_par (i := 8) (j := 9) (by rfl) sc_law_round.nd rfl rfl (by decide) rfl rfl (pa_cons (pe_call G_law_two_to (hr.mono (by decide)) (by rfl) T.m_law_two_to T.F_law_two_to.kp T.b_law_two_to .nil pass0 (pa_cons (pv 0) pa_nil)) (pa_cons (pe_op op_fdivW (pv 7) (pe_call G_law_two_to (hr.mono (by decide)) (by rfl) T.m_law_two_to T.F_law_two_to.kp T.b_law_two_to .nil pass0 (pa_cons (pe_op op_sub (pv 0) pe_int) pa_nil))) pa_nil)) (by rfl))
      (pss_cons (ps_if (pt_cmpR op_eq (pv 2) pe_str (nomark _)) (pss_one (ps_ret (pe_tup (pa_cons (pv 2) (pa_cons (pv 3) (pa_cons (pv 4) (pa_cons (pe_op op_sub (pv 5) pe_int) (pa_cons (pe_op op_mod (pe_op op_add (pe_op op_mulA pe_int (pv 6)) (pe_op op_mulA (pv 9) (pv 3))) (pv 8)) (pa_cons (pe_op op_mod (pe_op op_mulA pe_int (pv 7)) (pv 8)) pa_nil))))))))) pss_nil)
      (pss_cons (ps_set (i := 10) sc_law_round.nd rfl (Or.inl rfl) (pe_op op_add (pe_op op_mulA pe_int (pv 6)) (pv 9)))
      (pss_cons (ps_if (pt_cmpR op_ge (pv 10) (pv 4) (nomark _)) (pss_one (ps_ret (pe_tup (pa_cons (pv 2) (pa_cons (pv 3) (pa_cons (pv 4) (pa_cons (pe_op op_sub (pv 5) pe_int) (pa_cons (pe_op op_mod (pe_op op_sub (pv 10) (pv 4)) (pv 8)) (pa_cons (pe_op op_mod (pe_op op_add (pe_op op_mulA pe_int (pv 7)) pe_int) (pv 8)) pa_nil))))))))) pss_nil)
      (pss_one (ps_ret (pe_tup (pa_cons (pv 2) (pa_cons (pv 3) (pa_cons (pv 4) (pa_cons (pe_op op_sub (pv 5) pe_int) (pa_cons (pv 10) (pa_cons (pe_op op_mod (pe_op op_mulA pe_int (pv 7)) (pv 8)) pa_nil)))))))))))))), ?_⟩
    have hp : (2 : Int) ^ w ≤ 2 ^ 16 := pow_le hw2
    have hp0 := pow_pos' w
    have hR := rd_re (k := k) hl hl2 f0 f1 s0 s1
    obtain ⟨o0, o1, t0, t1⟩ := re_bd (k := k) (s := y) hl2 f0 f1 s0
    generalize hst : reM w k f y l = ot at hR o0 o1 t0 t1
    obtain ⟨o, t⟩ := ot
    simp only [] at hR o0 o1 t0 t1
    have hvs : LSt.vs w (.run k f y l) = [.str k.s, .int f, .int y, .int l, .int o, .int t] := by show [V.str k.s, _, _, _, .int (reM w k f y l).1, .int (reM w k f y l).2] = _; rw [hst]
    rw [hvs] at ha
    have hsub : ((w : Int) - 1) = ((w - 1 : Nat) : Int) := by omega
    have hsl : ((l : Int) - 1) = ((l - 1 : Nat) : Int) := by omega
    have tp0 : 0 ≤ t / 2 ^ (w - 1) := Int.ediv_nonneg t0 (Int.le_of_lt (pow_pos' _))
    have tp1 : t / 2 ^ (w - 1) < 2 := by
      have e : (2 : Int) ^ w = 2 ^ (w - 1) * 2 := by rw [← Int.pow_succ]; congr 1; omega
      exact Int.ediv_lt_of_lt_mul (pow_pos' _) (by rw [Int.mul_comm, ← e]; exact t1)
    unfold rdM at hR
    walk_at "rs"
    refine ⟨_, ha, rfl, _, _, rfl, _, _, rfl, _, _, rfl, _, _, rfl, _, _, rfl, _, _, rfl, rfl, ?_⟩
    walk_at "rs"
    refine ⟨w, rfl, by omega, ?_⟩
    rw [hsub]
    refine ⟨w - 1, rfl, by omega, _, rfl, divw 40 (pow_pos' _) (by have := pow_le (show w - 1 ≤ 16 by omega); have := pow_pos' (w - 1); omega), ?_⟩
    generalize t / 2 ^ (w - 1) = u at hR tp0 tp1 ⊢
    have fin : ∀ p o' t', H p = none → (o', t') = reM w k f y (l - 1) → Q (.ref p) (upd H p (.tup [.str k.s, .int f, .int y, .int ((l - 1 : Nat) : Int), .int o', .int t'])) := fun p o' t' hp e => by
      refine q _ _ (ex_upd hp) ⟨p, rfl, ?_⟩
      rw [upd_same]
      show _ = some (HO.tup [_, _, _, _, .int (reM w k f y (l - 1)).1, .int (reM w k f y (l - 1)).2])
      rw [← e]
    walk_at "rs"
    by_cases hk : k = .times
    · subst hk
      rw [if_pos rfl] at hR
      rw [if_pos (show Kd.times.s = Str.ofString "times" from rfl)]
      walk_at "go"
      rw [hsl]
      exact fun p hp => fin p _ _ hp hR
    · rw [if_neg hk] at hR
      rw [if_neg (kd_ne hk)]
      walk_at "go"
      by_cases hc : y ≤ 2 * o + u
      · rw [if_pos hc] at hR ⊢
        walk_at "go"
        rw [hsl]
        exact fun p hp => fin p _ _ hp hR
      · rw [if_neg hc] at hR ⊢
        walk_at "go"
        rw [hsl]
        exact fun p hp => fin p _ _ hp hR
def sp_law_beat (K : PySem.W.Frag) : Sp := fun vs H Q _ => ∃ (w step : Nat) (v u : V) (st : LSt) (x : Ask), vs = [.int w, .int step, v, u] ∧ 1 ≤ w ∧ w ≤ 16 ∧ 1 ≤ step ∧ step ≤ 4 ∧ (x = .non → StAt K H w v st ∧ LIn w step st) ∧ AskAt K H u x ∧ AIn w x ∧ ∀ r H', Ex H H' → BtH H' w r (btM w step st x) → Q r H'
set_option maxHeartbeats 4000000 in
theorem ok_law_beat (T : Txt K mg) : FnOk P w K mg base CX0 3 T.f_law_beat T.d_law_beat P_law_beat (sp_law_beat K) := by
  have G_law_round := ok_law_round (P := P) (w := w) (base := base) T
  refine T.F_law_beat.ok sc_law_beat (fun vs H Q E h => ?_) (fun cdv A outer s H vs Q E hr h => ?_)
  · obtain ⟨w, step, v, u, st, x, rfl, _⟩ := h; rfl
  · obtain ⟨w, step, v, u, st, x, rfl, h1, h2, h3, h4, hsi, hx, hy, q⟩ := h
    refine ⟨_, (pss_cons (ps_set (i := 4) sc_law_beat.nd rfl (Or.inl rfl) (pe_tup (pa_cons pe_str (pa_cons pe_int (pa_cons pe_int (pa_cons pe_int (pa_cons pe_int (pa_cons pe_int pa_nil))))))))
      (pss_cons (ps_if (pt_cmpR op_notN (pv 3) pe_non (nomark _)) (pss_cons (ps_if (pt_cmpR op_eq (pe_ix ix_tup (pv 3) pe_int (fun _ _ => rfl)) pe_str (nomark _)) (pss_one (ps_ret (pe_tup (pa_cons (pv 4) (pa_cons pe_non pa_nil))))) pss_nil)
      (pss_one (ps_ret (pe_tup (pa_cons (pe_tup (pa_cons (pe_ix ix_tup (pv 3) pe_int (fun _ _ => rfl)) (pa_cons (pe_ix ix_tup (pv 3) pe_int (fun _ _ => rfl)) (pa_cons (pe_ix ix_tup (pv 3) pe_int (fun _ _ => rfl)) (pa_cons (pv 0) (pa_cons pe_int (pa_cons (pe_ifExp (pt_cmpR op_eq (pe_ix ix_tup (pv 3) pe_int (fun _ _ => rfl)) pe_str (nomark _)) (pe_ix ix_tup (pv 3) pe_int (fun _ _ => rfl)) (pe_ix ix_tup (pv 3) pe_int (fun _ _ => rfl))) pa_nil))))))) (pa_cons pe_non pa_nil)))))) pss_nil)
      (pss_cons (ps_if (pt_cmpR (op_eqD hr.units) (pv 2) (pv 4) (nomark _)) (pss_one (ps_ret (pe_tup (pa_cons (pv 4) (pa_cons pe_non pa_nil))))) pss_nil)
      (pss_cons (ps_if (pt_cmpR op_eq (pe_ix ix_tup (pv 2) pe_int (fun _ _ => rfl)) pe_int (nomark _)) (pss_one (ps_ret (pe_tup (pa_cons (pv 4) (pa_cons (pe_ifExp (pt_cmpR op_eq (pe_ix ix_tup (pv 2) pe_int (fun _ _ => rfl)) pe_str (nomark _)) (pe_ix ix_tup (pv 2) pe_int (fun _ _ => rfl)) (pe_ix ix_tup (pv 2) pe_int (fun _ _ => rfl))) pa_nil))))) pss_nil)
      (pss_cons (ps_for PassesOwn.never rfl (pi_range1 (by rfl) T.n_range (pa_cons (pv 1) pa_nil)) (pg_name (i := 5) sc_law_beat.nd rfl (Or.inl rfl)) (pss_one (ps_if (pt_cmpR op_gt (pe_ix ix_tup (pv 2) pe_int (fun _ _ => rfl)) pe_int (nomark _)) (pss_one (ps_set (i := 2) sc_law_beat.nd rfl (Or.inl rfl) (pe_call G_law_round (hr.mono (by decide)) (by rfl) T.m_law_round T.F_law_round.kp T.b_law_round .nil pass0 (pa_cons (pv 0) (pa_cons (pv 2) pa_nil))))) pss_nil)))
      (pss_one (ps_ret (pe_tup (pa_cons (pv 2) (pa_cons pe_non pa_nil)))))))))), ?_⟩
    have hp : (2 : Int) ^ w ≤ 2 ^ 16 := pow_le h2
    have hp0 := pow_pos' w
    walk_at "rs"
    refine ⟨by decide, fun p0 hp0' => ?_⟩
    have g0 := ex_upd (o := .tup [.str sNone, .int 0, .int 0, .int 0, .int 0, .int 0]) hp0'
    have hidle : (upd H p0 (.tup [.str sNone, .int 0, .int 0, .int 0, .int 0, .int 0])) p0 = some (.tup (LSt.vs w .idle)) := upd_same
    have hsi := fun h => And.intro ((hsi h).1.ex g0) (hsi h).2
    have hx := hx.ex g0
    generalize upd H p0 (.tup [.str sNone, .int 0, .int 0, .int 0, .int 0, .int 0]) = H0 at g0 hidle hsi hx ⊢
    have q : ∀ r H', Ex H0 H' → BtH H' w r (btM w step st x) → Q r H' := fun r H' e => q r H' (g0.trans e)
    clear g0 hp0'
    walk_at "rs"
    cases x with
    | stop =>
      obtain ⟨a, rfl, ha⟩ := hx
      rw [if_neg (by simp)]
      walk_at "go"
      intro p hp
      have e : btM w step st .stop = (.idle, none) := by cases st <;> rfl
      rw [e] at q
      exact q _ _ (ex_upd hp) ⟨p, _, rfl, upd_same, ex_upd hp _ _ hidle⟩
    | beg k f y =>
      obtain ⟨a, rfl, ha⟩ := hx
      obtain ⟨f0, f1, s0, s1⟩ := hy
      rw [if_neg (by simp)]
      have e : btM w step st (.beg k f y) = (.run k f y w, none) := by cases st <;> rfl
      rw [e] at q
      have hre := re_full (k := k) f0 f1 s0 s1
      have fin : ∀ z, z = (if k = .times then y else f) → 6 ≤ sizeLine ∧ ∀ p, H0 p = none → 2 ≤ sizeLine ∧ ∀ p_1, upd H0 p (HO.tup [.str k.s, .int f, .int y, .int w, .int 0, .int z]) p_1 = none → Q (.ref p_1) (upd (upd H0 p (HO.tup [.str k.s, .int f, .int y, .int w, .int 0, .int z])) p_1 (.tup [.ref p, .non])) := fun z hz =>
        ⟨by decide, fun p hp => ⟨by decide, fun p1 hp1 => q _ _ ((ex_upd hp).trans (ex_upd hp1)) ⟨p1, p, rfl, upd_same, ex_upd hp1 _ _ (by
          rw [upd_same]
          show _ = some (HO.tup [V.str k.s, .int f, .int y, .int w, .int (reM w k f y w).1, .int (reM w k f y w).2])
          rw [hre, hz])⟩⟩⟩
      walk_at "go"
      by_cases hk : k = .times
      · subst hk
        rw [if_pos (show Kd.times.s = Str.ofString "times" from rfl)]
        refine ixT ha rfl ?_
        exact fin _ rfl
      · rw [if_neg (kd_ne hk)]
        refine ixT ha rfl ?_
        exact fin _ (by rw [if_neg hk])
    | non =>
      cases hx
      obtain ⟨hs, hi⟩ := hsi rfl
      have hidle' : StAt K H0 w (.ref p0) .idle := ⟨_, rfl, .of hidle⟩
      rw [if_pos rfl]
      walk_at "rs"
      cases st with
      | idle =>
        refine eqSelf (dp_st hs) (dp_st hidle') sh_st ?_
        walk_at "go"
        exact fun p hp => q _ _ (ex_upd hp) ⟨p, _, rfl, upd_same, ex_upd hp _ _ hidle⟩
      | run k f y l =>
        obtain ⟨f0, f1, s0, s1, hl, hm⟩ := hi
        have hk : (k.s == sNone) = false := by cases k <;> decide +kernel
        refine eqD (dp_st hs) (dp_st hidle') sh_st sh_st (b := false) (by simp [LSt.dat, PyData.eqv, PyData.eqvAll, hk]) ?_
        obtain ⟨a, rfl, ha⟩ := hs
        walk_at "go"
        have eb : btM w step (.run k f y l) .non = if l = 0 then (.idle, some (if k = .part then (reM w k f y 0).2 else (reM w k f y 0).1)) else (.run k f y (l - min step l), none) := rfl
        rw [eb] at q
        by_cases hl0 : l = 0
        · subst hl0
          rw [if_pos rfl] at q
          rw [if_pos (by omega)]
          have fin : ∀ z, z = (if k = .part then (reM w k f y 0).2 else (reM w k f y 0).1) → 2 ≤ sizeLine ∧ ∀ p, H0 p = none → Q (.ref p) (upd H0 p (.tup [.ref p0, .int z])) := fun z hz =>
            ⟨by decide, fun p hp => q _ _ (ex_upd hp) ⟨p, _, rfl, (by rw [upd_same, hz]; rfl), ex_upd hp _ _ hidle⟩⟩
          refine ixT ha rfl ⟨rfl, ?_⟩
          by_cases hk : k = .part
          · subst hk
            rw [if_pos (show V.str Kd.part.s = V.str (Str.ofString "part") from rfl)]
            refine ixT ha rfl ?_
            exact fin _ rfl
          · rw [if_neg (kd_nv2 hk)]
            refine ixT ha rfl ?_
            exact fin _ (by rw [if_neg hk])
        · rw [if_neg hl0] at q
          rw [if_neg (by omega)]
          walk_at "go"
          refine lpR step (fun i σ H' => Ex H0 H' ∧ ∃ v t4, σ = [some (.int w), some (.int step), some v, some .non, some (.ref p0), t4] ∧ StAt K H' w v (.run k f y (l - min i l)) ∧ (0 < i → ∃ a, v = .ref a ∧ H' a = some (.tup (LSt.vs w (.run k f y (l - min i l)))))) ⟨Ex.refl _, _, none, rfl, ⟨a, rfl, ha⟩, fun h => absurd h (by decide)⟩ ?_ ?_
          · rintro i σ H1 hi ⟨e1, v, t4, rfl, ⟨a1, rfl, hv⟩, htr⟩
            walk_at "go"
            by_cases hg : 0 < l - min i l
            · rw [if_pos (by omega)]
              refine ⟨w, k, f, y, l - min i l, .ref a1, rfl, h1, h2, by omega, by omega, f0, f1, s0, s1, ⟨a1, rfl, hv⟩, fun v' H2 e2 hv2 => ?_⟩
              walk_at "rs"
              obtain ⟨a2, rfl, hv2⟩ := hv2
              exact ⟨e1.trans e2, ⟨a2, rfl, by rw [show l - min (i + 1) l = l - min i l - 1 by omega]; exact .of hv2⟩, fun _ => ⟨a2, rfl, by rw [show l - min (i + 1) l = l - min i l - 1 by omega]; exact hv2⟩⟩
            · rw [if_neg (by omega)]
              rw [show l - min (i + 1) l = l - min i l by omega]
              obtain ⟨a9, e9, h9⟩ := htr (by omega)
              cases e9
              exact ⟨e1, ⟨a1, rfl, hv⟩, fun _ => h9⟩
          · rintro σ H1 ⟨e1, v, t4, rfl, hv, htr⟩
            walk_at "go"
            exact fun p hp => q _ _ (e1.trans (ex_upd hp)) (by obtain ⟨a9, rfl, h9⟩ := htr h3; exact ⟨p, a9, rfl, upd_same, ex_upd hp _ _ h9⟩)
def sp_law_begin_drawn (K : PySem.W.Frag) : Sp := fun vs H Q _ => ∃ (d : Addr) (w : Nat), vs = [.ref d, .int w] ∧ DiceAt H d ∧ 1 ≤ w ∧ w ≤ 16 ∧ ∀ v k f s H', ExD d H H' → DiceAt H' d → AskAt K H' v (.beg k f s) → AIn w (.beg k f s) → Q v H'
set_option maxHeartbeats 4000000 in
theorem ok_law_begin_drawn (T : Txt K mg) : FnOk P w K mg base CX0 3 T.f_law_begin_drawn T.d_law_begin_drawn P_law_begin_drawn (sp_law_begin_drawn K) := by
  have G_law_two_to := ok_law_two_to (P := P) (w := w) (base := base) T
  have G_law_one_of := ok_law_one_of (P := P) (w := w) (base := base) T
  have G_law_roll := ok_law_roll (P := P) (w := w) (base := base) T
  refine T.F_law_begin_drawn.ok sc_law_begin_drawn (fun vs H Q E h => ?_) (fun cdv A outer s H vs Q E hr h => ?_)
  · obtain ⟨d, w, rfl, _⟩ := h; rfl
  · obtain ⟨d, w, rfl, hd, hw, hw2, q⟩ := h
    refine ⟨_, (pss_cons (ps_set (i := 2) sc_law_begin_drawn.nd rfl (Or.inl rfl) (pe_call G_law_two_to (hr.mono (by decide)) (by rfl) T.m_law_two_to T.F_law_two_to.kp T.b_law_two_to .nil pass0 (pa_cons (pv 1) pa_nil)))
      (pss_cons (ps_par (i := 3) (j := 4) (by rfl) sc_law_begin_drawn.nd rfl rfl (by decide) rfl rfl (pa_cons (pe_call G_law_roll (hr.mono (by decide)) (by rfl) T.m_law_roll T.F_law_roll.kp T.b_law_roll .nil pass0 (pa_cons (pv 0) (pa_cons (pv 2) pa_nil))) (pa_cons (pe_call G_law_roll (hr.mono (by decide)) (by rfl) T.m_law_roll T.F_law_roll.kp T.b_law_roll .nil pass0 (pa_cons (pv 0) (pa_cons (pv 2) pa_nil))) pa_nil)) (by rfl))
      (pss_cons (ps_set (i := 4) sc_law_begin_drawn.nd rfl (Or.inl rfl) (pe_call G_law_one_of (hr.mono (by decide)) (by rfl) T.m_law_one_of T.F_law_one_of.kp T.b_law_one_of .nil pass0 (pa_cons (pv 0) (pa_cons (pe_lst (pa_cons (pv 4) (pa_cons (pv 4) (pa_cons (pv 4) (pa_cons pe_int (pa_cons pe_int (pa_cons (pe_op op_sub (pv 2) pe_int) (pa_cons (pe_callB (call_min2 rfl) (by rfl) T.n_min (by decide +kernel) (pa_cons (pv 4) (pa_cons pe_int pa_nil))) pa_nil)))))))) pa_nil))))
      (pss_one (ps_ret (pe_tup (pa_cons pe_str (pa_cons (pe_call G_law_one_of (hr.mono (by decide)) (by rfl) T.m_law_one_of T.F_law_one_of.kp T.b_law_one_of .nil pass0 (pa_cons (pv 0) (pa_cons (pe_lst (pa_cons pe_str (pa_cons pe_str (pa_cons pe_str pa_nil)))) pa_nil))) (pa_cons (pv 3) (pa_cons (pv 4) pa_nil)))))))))), ?_⟩
    have hp : (2 : Int) ^ w ≤ 2 ^ 16 := pow_le hw2
    have hp0 := pow_pos' w
    have big : (65536 : Int) < 2 ^ 4000 := by decide +kernel
    walk_at "rs"
    refine ⟨w, rfl, by omega, ?_⟩
    walk_at "rs"
    refine ⟨d, _, rfl, hd, hp0, by omega, fun f x y z f0 f1 hx hy hz => ?_⟩
    have d1 : DiceAt (upd H d (dice3 x y z)) d := dice_upd hx hy hz
    have e1 : ExD d H (upd H d (dice3 x y z)) := exd_upd
    generalize upd H d (dice3 x y z) = H1 at d1 e1 ⊢
    refine ⟨d, _, rfl, d1, hp0, by omega, fun s1 x y z s10 s11 hx hy hz => ?_⟩
    have d2 : DiceAt (upd H1 d (dice3 x y z)) d := dice_upd hx hy hz
    have e2 : ExD d H (upd H1 d (dice3 x y z)) := e1.trans exd_upd
    generalize upd H1 d (dice3 x y z) = H2 at d2 e2 ⊢
    walk_at "go"
    intro p hp
    have nd := d2.ne hp
    have d3 := d2.new (o := .lst [.int s1, .int s1, .int s1, .int 0, .int 1, .int (2 ^ w - 1), .int (if 3 < s1 then 3 else s1)]) hp
    have e3 := e2.trans (exd_new (d := d) (o := .lst [.int s1, .int s1, .int s1, .int 0, .int 1, .int (2 ^ w - 1), .int (if 3 < s1 then 3 else s1)]) hp)
    have u3 : upd H2 p (.lst [.int s1, .int s1, .int s1, .int 0, .int 1, .int (2 ^ w - 1), .int (if 3 < s1 then 3 else s1)]) p = _ := upd_same
    generalize upd H2 p (.lst [.int s1, .int s1, .int s1, .int 0, .int 1, .int (2 ^ w - 1), .int (if 3 < s1 then 3 else s1)]) = H3 at d3 e3 u3 ⊢
    refine ⟨d, p, _, rfl, d3, nd, .of u3, by simp, by simp, fun v x y z hv hx hy hz => ?_⟩
    have hp1 : (2 : Int) ^ w = 2 ^ (w - 1) * 2 := by rw [← Int.pow_succ]; congr 1; omega
    have hp2 := pow_pos' (w - 1)
    obtain ⟨s, rfl, s0, s1'⟩ : ∃ s : Int, v = .int s ∧ 0 ≤ s ∧ s < 2 ^ w := by
      simp only [List.mem_cons, List.mem_nil_iff, or_false] at hv
      rcases hv with rfl | rfl | rfl | rfl | rfl | rfl | rfl
      all_goals refine ⟨_, rfl, ?_, ?_⟩
      all_goals first | omega | (split <;> omega)
    have d4 : DiceAt (upd H3 d (dice3 x y z)) d := dice_upd hx hy hz
    have e4 : ExD d H (upd H3 d (dice3 x y z)) := e3.trans exd_upd
    generalize upd H3 d (dice3 x y z) = H4 at d4 e4 ⊢
    refine ⟨by decide, fun p hp => ?_⟩
    have nd := d4.ne hp
    have d5 := d4.new (o := .lst [.str (Str.ofString "times"), .str (Str.ofString "part"), .str (Str.ofString "rest")]) hp
    have e5 := e4.trans (exd_new (d := d) (o := .lst [.str (Str.ofString "times"), .str (Str.ofString "part"), .str (Str.ofString "rest")]) hp)
    have u5 : upd H4 p (.lst [.str (Str.ofString "times"), .str (Str.ofString "part"), .str (Str.ofString "rest")]) p = _ := upd_same
    generalize upd H4 p (.lst [.str (Str.ofString "times"), .str (Str.ofString "part"), .str (Str.ofString "rest")]) = H5 at d5 e5 u5 ⊢
    refine ⟨d, p, _, rfl, d5, nd, .of u5, by simp, by simp, fun v x y z hv hx hy hz => ?_⟩
    obtain ⟨k, rfl⟩ : ∃ k : Kd, v = .str k.s := by
      simp only [List.mem_cons, List.mem_nil_iff, or_false] at hv
      rcases hv with rfl | rfl | rfl
      · exact ⟨.times, rfl⟩
      · exact ⟨.part, rfl⟩
      · exact ⟨.rest, rfl⟩
    have d6 : DiceAt (upd H5 d (dice3 x y z)) d := dice_upd hx hy hz
    have e6 : ExD d H (upd H5 d (dice3 x y z)) := e5.trans exd_upd
    generalize upd H5 d (dice3 x y z) = H6 at d6 e6 ⊢
    exact ⟨by decide, fun p hp => q _ k f s _ (e6.trans (exd_new hp)) (d6.new hp) ⟨p, rfl, .of upd_same⟩ ⟨f0, f1, s0, s1'⟩⟩
def sp_law_all_states (K : PySem.W.Frag) : Sp := fun vs H Q _ => ∃ (w step : Nat), vs = [.int w, .int step] ∧ 1 ≤ w ∧ w ≤ 2 ∧ 1 ≤ step ∧ step ≤ 4 ∧ ∀ p kvs H', Ex H H' → H' p = some (.dT kvs) → AllSt w step kvs → Q (.ref p) H'
set_option maxHeartbeats 4000000 in
theorem ok_law_all_states (T : Txt K mg) : FnOk P w K mg base CX0 4 T.f_law_all_states T.d_law_all_states P_law_all_states (sp_law_all_states K) := by
  have G_law_two_to := ok_law_two_to (P := P) (w := w) (base := base) T
  have G_law_beat := ok_law_beat (P := P) (w := w) (base := base) T
  refine T.F_law_all_states.ok sc_law_all_states (fun vs H Q E h => ?_) (fun cdv A outer s H vs Q E hr h => ?_)
  · obtain ⟨w, step, rfl, _⟩ := h; rfl
  · obtain ⟨w, step, rfl, h1, h2, h3, h4, q⟩ := h
    refine ⟨_, (pss_cons (ps_par (i := 2) (j := 3) (by rfl) sc_law_all_states.nd rfl rfl (by decide) rfl rfl (pa_cons (pe_call G_law_two_to (hr.mono (by decide)) (by rfl) T.m_law_two_to T.F_law_two_to.kp T.b_law_two_to .nil pass0 (pa_cons (pv 0) pa_nil)) (pa_cons (pe_disp1T (u1 hr.units) (pe_tup (pa_cons pe_str (pa_cons pe_int (pa_cons pe_int (pa_cons pe_int (pa_cons pe_int (pa_cons pe_int pa_nil))))))) pe_int) pa_nil)) (by rfl))
      (pss_cons (ps_for PassesOwn.never rfl (pi_tup (pe_tup (pa_cons pe_str (pa_cons pe_str (pa_cons pe_str pa_nil))))) (pg_name (i := 4) sc_law_all_states.nd rfl (Or.inl rfl)) (pss_one (ps_for PassesOwn.never rfl (pi_range1 (by rfl) T.n_range (pa_cons (pv 2) pa_nil)) (pg_name (i := 5) sc_law_all_states.nd rfl (Or.inl rfl)) (pss_one (ps_for PassesOwn.never rfl (pi_range1 (by rfl) T.n_range (pa_cons (pv 2) pa_nil)) (pg_name (i := 6) sc_law_all_states.nd rfl (Or.inl rfl)) (pss_cons (ps_set (i := 7) sc_law_all_states.nd rfl (Or.inl rfl) (pe_ix ix_tup (pe_call G_law_beat (hr.mono (by decide)) (by rfl) T.m_law_beat T.F_law_beat.kp T.b_law_beat .nil pass0 (pa_cons (pv 0) (pa_cons (pv 1) (pa_cons pe_non (pa_cons (pe_tup (pa_cons pe_str (pa_cons (pv 4) (pa_cons (pv 5) (pa_cons (pv 6) pa_nil))))) pa_nil))))) pe_int (fun _ _ => rfl)))
      (pss_one (ps_while PassesOwn.never (pt_cmp (pc_dnotin (u1 hr.units) (pv 7) (pv 3))) (pss_cons (ps_dput (u1 hr.units) (pv 3) (pv 7) pe_int rfl)
      (pss_one (ps_set (i := 7) sc_law_all_states.nd rfl (Or.inl rfl) (pe_ix ix_tup (pe_call G_law_beat (hr.mono (by decide)) (by rfl) T.m_law_beat T.F_law_beat.kp T.b_law_beat .nil pass0 (pa_cons (pv 0) (pa_cons (pv 1) (pa_cons (pv 7) (pa_cons pe_non pa_nil))))) pe_int (fun _ _ => rfl)))))))))))))
      (pss_one (ps_ret (pv 3))))), ?_⟩
    walk_at "rs"
    refine ⟨w, rfl, by omega, ?_⟩
    walk_at "rs"
    intro p hp
    refine ⟨by decide, fun b hb => ?_⟩
    have npb : p ≠ b := ne_of_none upd_same hb
    have x1 := ex_upd (o := .dT []) hp
    have x2 := x1.trans (ex_upd (o := .tup [.str (Str.ofString "none"), .int 0, .int 0, .int 0, .int 0, .int 0]) hb)
    refine ⟨by rw [upd_ne npb, upd_same], LSt.idle.key w, upd_same, ?_⟩
    have x3 := x2.mut (o := .dT [(LSt.idle.key w, .int 1)]) hp
    have u3 : (upd (upd (upd H p (.dT [])) b (.tup [.str (Str.ofString "none"), .int 0, .int 0, .int 0, .int 0, .int 0])) p (.dT [(LSt.idle.key w, .int 1)])) p = _ := upd_same
    generalize upd (upd (upd H p (.dT [])) b (.tup [.str (Str.ofString "none"), .int 0, .int 0, .int 0, .int 0, .int 0])) p (.dT [(LSt.idle.key w, .int 1)]) = H1 at x3 u3 ⊢
    have k1 : KI w step [(LSt.idle.key w, V.int 1)] (fun k _ _ _ => kidx k < 0) := ⟨fun e he => .inl (by rw [List.mem_singleton.mp he]), valV_some.mpr ⟨_, List.mem_singleton.mpr rfl, rfl⟩, fun k f s l h => absurd h (Nat.not_lt_zero _)⟩
    have hful : (2 : Int) ^ w ≤ 4 ∧ 2 ≤ (2 : Int) ^ w := by
      have : w = 1 ∨ w = 2 := by omega
      rcases this with rfl | rfl <;> decide
    generalize hF : (2 : Int) ^ w = F at hful
    walk_at "rs"
    refine ⟨by decide, fun t ht => ?_⟩
    have x4 := x3.trans (ex_upd (o := .tup [.str (Str.ofString "times"), .str (Str.ofString "part"), .str (Str.ofString "rest")]) ht)
    have u4 := ex_upd (o := .tup [.str (Str.ofString "times"), .str (Str.ofString "part"), .str (Str.ofString "rest")]) ht _ _ u3
    have ut : (upd H1 t (.tup [.str (Str.ofString "times"), .str (Str.ofString "part"), .str (Str.ofString "rest")])) t = _ := upd_same
    have npt : t ≠ p := fun z => by rw [z, u3] at ht; cases ht
    generalize upd H1 t (.tup [.str (Str.ofString "times"), .str (Str.ofString "part"), .str (Str.ofString "rest")]) = H2 at x4 u4 ut ⊢
    have hk : ∀ (i : Nat) (v : V), ([.str (Str.ofString "times"), .str (Str.ofString "part"), .str (Str.ofString "rest")] : List V)[i]? = some v → ∃ k : Kd, v = .str k.s ∧ kidx k = i := by
      intro i v hv
      match i, hv with
      | 0, hv => cases hv; exact ⟨.times, rfl, rfl⟩
      | 1, hv => cases hv; exact ⟨.part, rfl, rfl⟩
      | 2, hv => cases hv; exact ⟨.rest, rfl, rfl⟩
    refine ⟨⟨_, .of ut⟩, lpT (xs := [.str (Str.ofString "times"), .str (Str.ofString "part"), .str (Str.ofString "rest")]) (fun i σ H' => Ex H H' ∧ ExD p H2 H' ∧ ∃ kvs t4 t5 t6 t7, σ = [some (.int w), some (.int step), some (.int F), some (.ref p), t4, t5, t6, t7] ∧ H' p = some (.dT kvs) ∧ kvs.length ≤ 1 + i * 48 ∧ KI w step kvs (fun k _ _ _ => kidx k < i))
      ⟨x4, ExD.refl _, _, none, none, none, none, rfl, u4, (show 1 ≤ 1 + 0 * 48 by decide), k1⟩ (fun i σ' H' _ h => .of (h.2.1 _ _ npt ut)) ?_ ?_⟩
    · rintro i v σ H3 hv ⟨e3, g3, kvs, t4, t5, t6, t7, rfl, u3, hlen, hki⟩
      obtain ⟨k, rfl, hki2⟩ := hk i v hv
      have hi3 : i < 3 := by rw [← hki2]; cases k <;> decide
      walk_at "rs"
      refine ⟨by omega, by omega, lpR F.toNat (fun j σ H' => Ex H H' ∧ ExD p H2 H' ∧ ∃ kvs t5 t6 t7, σ = [some (.int w), some (.int step), some (.int F), some (.ref p), some (.str k.s), t5, t6, t7] ∧ H' p = some (.dT kvs) ∧ kvs.length ≤ 1 + i * 48 + j * 12 ∧ KI w step kvs (fun k' f' _ _ => kidx k' < i ∨ (k' = k ∧ f' < j)))
        ⟨e3, g3, kvs, t5, t6, t7, rfl, u3, by omega, hki.iff fun k' f' s' l' hl => ⟨fun h => .inl h, fun h => h.elim id fun h => absurd h.2 (by have := hl.1; omega)⟩⟩ ?_ ?_⟩
      · rintro j σ H4 hj ⟨e4, g4, kvs, t5, t6, t7, rfl, u4, hlen, hki⟩
        walk_at "rs"
        refine ⟨by omega, by omega, lpR F.toNat (fun m σ H' => Ex H H' ∧ ExD p H2 H' ∧ ∃ kvs t6 t7, σ = [some (.int w), some (.int step), some (.int F), some (.ref p), some (.str k.s), some (.int j), t6, t7] ∧ H' p = some (.dT kvs) ∧ kvs.length ≤ 1 + i * 48 + j * 12 + m * 3 ∧ KI w step kvs (fun k' f' s' _ => kidx k' < i ∨ (k' = k ∧ f' < j) ∨ (k' = k ∧ f' = j ∧ s' < m)))
          ⟨e4, g4, kvs, t6, t7, rfl, u4, by omega, hki.iff fun k' f' s' l' hl => ⟨fun h => h.elim .inl fun h => .inr (.inl h), fun h => h.elim .inl fun h => h.elim .inr fun h => absurd h.2.2 (by have := hl.2.2.1; omega)⟩⟩ ?_ ?_⟩
        · rintro m σ H5 hm ⟨e5, g5, kvs, t6, t7, rfl, u5, hlen, hki⟩
          walk_at "go"
          intro b hb
          have y6 := ex_upd (o := .tup [.str (Str.ofString "begin"), .str k.s, .int j, .int m]) hb
          have ub : upd H5 b (.tup [.str (Str.ofString "begin"), .str k.s, .int j, .int m]) b = _ := upd_same
          generalize upd H5 b (.tup [.str (Str.ofString "begin"), .str k.s, .int j, .int m]) = H6 at y6 ub ⊢
          have hj2 : (j : Int) < 2 ^ w := by rw [hF]; omega
          have hm2 : (m : Int) < 2 ^ w := by rw [hF]; omega
          refine ⟨w, step, .non, _, .idle, .beg k j m, rfl, h1, by omega, h3, h4, fun h => (by cases h), ⟨b, rfl, .of ub⟩, ⟨by omega, hj2, by omega, hm2⟩, fun r H7 e7 b7 => ?_⟩
          obtain ⟨pr, a, rfl, hpr, ha⟩ := b7
          have y7 := y6.trans e7
          refine ixT (.of hpr) rfl ?_
          have ha : H7 a = some (.tup (LSt.vs w (.run k j m w))) := ha
          refine whW (fun μ σ H' => Ex H H' ∧ ExD p H2 H' ∧ ∃ (kvs : List (List L2.Key × V)) (a : Addr) (st : LSt), σ = [some (.int w), some (.int step), some (.int F), some (.ref p), some (.str k.s), some (.int j), some (.int m), some (.ref a)] ∧ H' p = some (.dT kvs) ∧ H' a = some (.tup (st.vs w)) ∧
            ((∃ l, st = .run k j m l ∧ μ = l + 1 ∧ LIn w step st ∧ kvs.length + l ≤ 1 + i * 48 + j * 12 + m * 3 + w ∧ KI w step kvs (fun k' f' s' l' => (kidx k' < i ∨ (k' = k ∧ f' < j) ∨ (k' = k ∧ f' = j ∧ s' < m)) ∨ (k' = k ∧ f' = j ∧ s' = m ∧ l < l'))) ∨
            (st = .idle ∧ kvs.length ≤ 1 + i * 48 + j * 12 + m * 3 + w + 1 ∧ KI w step kvs (fun k' f' s' _ => kidx k' < i ∨ (k' = k ∧ f' < j) ∨ (k' = k ∧ f' = j ∧ s' < (m + 1 : Nat)))))) (w + 1) ⟨e5.trans y7, g5.trans (ExD.of y7), kvs, a, _, rfl, y7 _ _ u5, ha, .inl ⟨w, rfl, rfl, ⟨by omega, hj2, by omega, hm2, Nat.le_refl _, fun _ => by rw [Nat.sub_self, Nat.zero_mod]⟩, by omega, hki.iff fun k' f' s' l' hl => ⟨.inl, fun h => h.elim id fun h => absurd h.2.2.2 (by have := hl.2.2.2.2.1; omega)⟩⟩⟩ ?_
          rintro μ σ H8 ⟨e8, g8, kvs, a, st, rfl, u8, ha8, hcase⟩
          walk_at "rs"
          have hkey : H8 a = some (.tup ((st.key w).map kV)) := by rw [LSt.key_vs]; exact ha8
          refine ⟨_, DGet.t u8 hkey, ?_⟩
          rcases hcase with ⟨l, rfl, rfl, hli, hln, hk8⟩ | ⟨rfl, hln, hk8⟩
          · have hnP : ¬ ((kidx k < i ∨ (k = k ∧ (j : Int) < j) ∨ (k = k ∧ (j : Int) = j ∧ (m : Int) < m)) ∨ (k = k ∧ (j : Int) = j ∧ (m : Int) = m ∧ l < l)) := by
              rintro ((h | h | h) | h) <;> omega
            rw [hk8.fresh hnP]
            obtain ⟨hk9, hl9⟩ := hk8.put (v := .int 1) hli hnP
            walk_at "rs"
            refine ⟨_, fun _ _ h => h, ?_⟩
            walk_at "rs"
            refine ⟨_, DPut.t u8 hkey (by rw [sizeLine_eq]; omega), ?_⟩
            generalize putK kvs ((LSt.run k j m l).key w) (.int 1) = kv9 at hk9 hl9 ⊢
            have nap : a ≠ p := fun z => by rw [z, u8] at ha8; cases ha8
            have ha9 : upd H8 p (.dT kv9) a = some (.tup (LSt.vs w (.run k j m l))) := by rw [upd_ne nap]; exact ha8
            have u9 : upd H8 p (.dT kv9) p = some (.dT kv9) := upd_same
            have e9 : Ex H (upd H8 p (.dT kv9)) := e8.mut hp
            have g9 : ExD p H2 (upd H8 p (.dT kv9)) := g8.trans exd_upd
            generalize upd H8 p (.dT kv9) = H9 at ha9 u9 e9 g9 ⊢
            refine ⟨w, step, _, _, .run k j m l, .non, rfl, h1, by omega, h3, h4, fun _ => ⟨⟨a, rfl, .of ha9⟩, hli⟩, rfl, trivial, fun r H10 e10 b10 => ?_⟩
            obtain ⟨pr, a2, rfl, hpr, ha10⟩ := b10
            refine ixT (.of hpr) rfl ?_
            have hbt : (btM w step (.run k j m l) .non).1 = if l = 0 then .idle else .run k j m (l - min step l) := by
              show (if l = 0 then ((.idle, some _) : LSt × Option Int) else (.run k j m (l - min step l), none)).1 = _
              by_cases hc : l = 0
              · rw [if_pos hc, if_pos hc]
              · rw [if_neg hc, if_neg hc]
            rw [hbt] at ha10
            walk_at "rs"
            have e10' := e9.trans e10
            have g10 := g9.trans (ExD.of e10)
            by_cases hc : l = 0
            · subst hc
              rw [if_pos rfl] at ha10
              refine ⟨0, by omega, e10', g10, kv9, e10 _ _ u9, .idle, ha10, .inr ⟨rfl, by omega, hk9.iff fun k' f' s' l' hl => ?_⟩⟩
              constructor
              · rintro (((h | h | h) | h) | h)
                · exact .inl h
                · exact .inr (.inl h)
                · exact .inr (.inr ⟨h.1, h.2.1, by omega⟩)
                · exact .inr (.inr ⟨h.1, h.2.1, by omega⟩)
                · exact .inr (.inr ⟨h.1, h.2.1, by omega⟩)
              · rintro (h | h | h)
                · exact .inl (.inl (.inl h))
                · exact .inl (.inl (.inr (.inl h)))
                · by_cases hs : s' < m
                  · exact .inl (.inl (.inr (.inr ⟨h.1, h.2.1, hs⟩)))
                  · by_cases h0 : l' = 0
                    · exact .inr ⟨h.1, h.2.1, by omega, h0⟩
                    · exact .inl (.inr ⟨h.1, h.2.1, by omega, by omega⟩)
            · rw [if_neg hc] at ha10
              have hli2 := bt_in (x := .non) h3 hli trivial
              rw [hbt, if_neg hc] at hli2
              refine ⟨l - min step l + 1, by omega, e10', g10, kv9, e10 _ _ u9, _, ha10, .inl ⟨_, rfl, rfl, hli2, by omega, hk9.iff fun k' f' s' l' hl => ?_⟩⟩
              have hgap := gap (l' := l') h3 h4 (by omega) hli.2.2.2.2.1 hl.2.2.2.2.1 (hli.2.2.2.2.2 (by omega)) hl.2.2.2.2.2
              constructor
              · rintro ((h | h) | h)
                · exact .inl h
                · exact .inr ⟨h.1, h.2.1, h.2.2.1, by omega⟩
                · exact .inr ⟨h.1, h.2.1, h.2.2.1, by omega⟩
              · rintro (h | h)
                · exact .inl (.inl h)
                · have := hgap.mpr h.2.2.2
                  by_cases he : l' = l
                  · exact .inr ⟨h.1, h.2.1, h.2.2.1, he⟩
                  · exact .inl (.inr ⟨h.1, h.2.1, h.2.2.1, by omega⟩)
          · have := hk8.2.1
            rw [this]
            walk_at "rs"
            exact ⟨e8, g8, kvs, u8, by omega, hk8⟩
        · rintro σ H5 ⟨e5, g5, kvs, t6, t7, rfl, u5, hlen, hki⟩
          walk_at "rs"
          refine ⟨e5, g5, kvs, u5, by omega, hki.iff fun k' f' s' l' hl => ?_⟩
          have := hl.1
          have := hl.2.2.1
          have := hl.2.2.2.1
          rw [hF] at this
          constructor
          · rintro (h | h | h)
            · exact .inl h
            · exact .inr ⟨h.1, by omega⟩
            · exact .inr ⟨h.1, by omega⟩
          · rintro (h | h)
            · exact .inl h
            · by_cases hc : f' < j
              · exact .inr (.inl ⟨h.1, hc⟩)
              · exact .inr (.inr ⟨h.1, by omega, by omega⟩)
      · rintro σ H4 ⟨e4, g4, kvs, t5, t6, t7, rfl, u4, hlen, hki⟩
        walk_at "rs"
        refine ⟨e4, g4, kvs, u4, by omega, hki.iff fun k' f' s' l' hl => ?_⟩
        have := hl.1
        have := hl.2.1
        rw [hF] at this
        constructor
        · rintro (h | h)
          · omega
          · rw [h.1]; omega
        · intro h
          by_cases hc : kidx k' < i
          · exact .inl hc
          · exact .inr ⟨kidx_inj (by omega), by omega⟩
    · rintro σ H3 ⟨e3, g3, kvs, t4, t5, t6, t7, rfl, u3, hlen, hki⟩
      walk_at "rs"
      refine q p kvs H3 e3 u3 ⟨by have : kvs.length ≤ 1 + 3 * 48 := hlen; omega, fun e he => ?_, fun st hl => ?_⟩
      · rcases hki.1 e he with h | ⟨k, f, s, l, _, h2, h3⟩
        · exact ⟨.idle, trivial, h⟩
        · exact ⟨_, h2, h3⟩
      · cases st with
        | idle => exact hki.2.1
        | run k f s l => exact hki.2.2 k f s l (show kidx k < 3 by cases k <;> decide) hl
def sp_law_small_right (K : PySem.W.Frag) : Sp := fun vs H Q _ => ∃ (d : Addr) (w step : Nat), vs = [.ref d, .int w, .int step] ∧ DiceAt H d ∧ 1 ≤ w ∧ w ≤ 2 ∧ 1 ≤ step ∧ step ≤ 4 ∧ ∀ H', ExD d H H' → DiceAt H' d → Q (.bl true) H'
set_option maxHeartbeats 4000000 in
theorem ok_law_small_right (T : Txt K mg) : FnOk P w K mg base CX0 6 T.f_law_small_right T.d_law_small_right P_law_small_right (sp_law_small_right K) := by
  have G_law_all_states := ok_law_all_states (P := P) (w := w) (base := base) T
  have G_law_two_to := ok_law_two_to (P := P) (w := w) (base := base) T
  have G_law_roll := ok_law_roll (P := P) (w := w) (base := base) T
  have G_is_long := ok_is_long (P := P) (w := w) (base := base) T
  refine T.F_law_small_right.ok sc_law_small_right (fun vs H Q E h => ?_) (fun cdv A outer s H vs Q E hr h => ?_)
  · obtain ⟨d, w, step, rfl, _⟩ := h; rfl
  · obtain ⟨d, w, step, rfl, hd, h1, h2, h3, h4, q⟩ := h
    refine ⟨_, (pss_cons (ps_par (i := 3) (j := 4) (by rfl) sc_law_small_right.nd rfl rfl (by decide) rfl rfl (pa_cons (pe_call G_law_all_states (hr.mono (by decide)) (by rfl) T.m_law_all_states T.F_law_all_states.kp T.b_law_all_states .nil pass0 (pa_cons (pv 1) (pa_cons (pv 2) pa_nil))) (pa_cons (pe_call G_law_two_to (hr.mono (by decide)) (by rfl) T.m_law_two_to T.F_law_two_to.kp T.b_law_two_to .nil pass0 (pa_cons (pv 1) pa_nil)) pa_nil)) (by rfl))
      (pss_cons (ps_for PassesOwn.never rfl (pi_tup (pe_tup (pa_cons pe_str (pa_cons pe_str (pa_cons pe_str (pa_cons pe_str pa_nil)))))) (pg_name (i := 5) sc_law_small_right.nd rfl (Or.inl rfl)) (pss_one (ps_for PassesOwn.never rfl (pi_range1 (by rfl) T.n_range (pa_cons (pv 4) pa_nil)) (pg_name (i := 6) sc_law_small_right.nd rfl (Or.inl rfl)) (pss_one (ps_for PassesOwn.never rfl (pi_range1 (by rfl) T.n_range (pa_cons (pv 4) pa_nil)) (pg_name (i := 7) sc_law_small_right.nd rfl (Or.inl rfl)) (pss_cons (ps_set (i := 8) sc_law_small_right.nd rfl (Or.inl rfl) (pe_call G_law_roll (hr.mono (by decide)) (by rfl) T.m_law_roll T.F_law_roll.kp T.b_law_roll .nil pass0 (pa_cons (pv 0) (pa_cons (pe_op op_add (pv 1) pe_int) pa_nil))))
      (pss_one (ps_for PassesOwn.never rfl (pi_range1 (by rfl) T.n_range (pa_cons (pv 4) pa_nil)) (pg_name (i := 9) sc_law_small_right.nd rfl (Or.inl rfl)) (pss_one (ps_for PassesOwn.never rfl (pi_range1 (by rfl) T.n_range (pa_cons (pv 4) pa_nil)) (pg_name (i := 10) sc_law_small_right.nd rfl (Or.inl rfl)) (pss_cons (ps_set (i := 11) sc_law_small_right.nd rfl (Or.inl rfl) (pe_tup (pa_cons (pv 5) (pa_cons (pv 6) (pa_cons (pv 7) (pa_cons (pv 8) (pa_cons (pv 9) (pa_cons (pv 10) pa_nil))))))))
      (pss_one (ps_if (pt_cmpR op_ne (pe_call G_is_long (hr.mono (by decide)) (by rfl) T.m_is_long T.F_is_long.kp T.b_is_long .nil pass0 (pa_cons (pv 1) (pa_cons (pv 2) (pa_cons (pv 11) pa_nil)))) (pe_cmp (pc_din (u1 hr.units) (pv 11) (pv 3))) (nomark _)) (pss_one (ps_ret pe_bl)) pss_nil)))))))))))))
      (pss_one (ps_ret (pe_cmpR (op_eqD hr.units) (pe_lock (pe_lc (own := [("state", 12)]) (g := gName 12) (by rfl) sc_law_small_right.nd (pi_keys (pv 3)) (blkOk_by (own := [("state", 12)]) (N := N_law_small_right) (sc := defScope s_law_small_right) (by decide +kernel)) (fun _ _ _ _ _ => (pg_name (i := 12) sc_law_small_right.nd rfl (by first | exact Or.inl rfl | exact Or.inr rfl))) (fun _ _ _ _ _ => pts_one (pt_not (pt_val (pe_call G_is_long (hr.mono (by decide)) (by rfl) T.m_is_long T.F_is_long.kp T.b_is_long .nil pass0 (pa_cons (pv 1) (pa_cons (pv 2) (pa_cons (pv 12) pa_nil))))))) (fun _ _ _ _ _ => (pv 12)))) (pe_lst pa_nil) (nomark _)))))), ?_⟩
    walk_at "rs"
    refine ⟨w, step, rfl, h1, h2, h3, h4, fun p kvs H1 e1 u1 hk => ?_⟩
    refine ⟨w, rfl, by omega, ?_⟩
    walk_at "rs"
    refine ⟨by decide, fun tk htk => ?_⟩
    have x2 := e1.trans (ex_upd (o := .tup [.str (Str.ofString "times"), .str (Str.ofString "part"), .str (Str.ofString "rest"), .str (Str.ofString "none")]) htk)
    have u2 := ex_upd (o := .tup [.str (Str.ofString "times"), .str (Str.ofString "part"), .str (Str.ofString "rest"), .str (Str.ofString "none")]) htk _ _ u1
    have ut : (upd H1 tk (.tup [.str (Str.ofString "times"), .str (Str.ofString "part"), .str (Str.ofString "rest"), .str (Str.ofString "none")])) tk = _ := upd_same
    generalize upd H1 tk (.tup [.str (Str.ofString "times"), .str (Str.ofString "part"), .str (Str.ofString "rest"), .str (Str.ofString "none")]) = H2 at x2 u2 ut ⊢
    have d2 := hd.ex x2
    have ndp : p ≠ d := fun z => by obtain ⟨l, m, n, _, _, _, hh⟩ := d2; rw [z, hh] at u2; cases u2
    have ndt : tk ≠ d := fun z => by obtain ⟨l, m, n, _, _, _, hh⟩ := d2; rw [z, hh] at ut; cases ut
    have hful : (2 : Int) ^ w ≤ 4 ∧ 2 ≤ (2 : Int) ^ w := by
      have : w = 1 ∨ w = 2 := by omega
      rcases this with rfl | rfl <;> decide
    generalize hF : (2 : Int) ^ w = F at hful ⊢
    have mem : ∀ (z : Str) (f y l o t : Int), IsL w step (some [.str z, .int f, .int y, .int l, .int o, .int t]) ↔ (valV kvs ([.inr z, .inl f, .inl y, .inl l, .inl o, .inl t] : List L2.Key)).isSome = true := fun z f y l o t => by
      constructor
      · rintro ⟨st, hl, e⟩
        have : ([.inr z, .inl f, .inl y, .inl l, .inl o, .inl t] : List L2.Key) = st.key w := kVs_inj (by rw [LSt.key_vs]; exact Option.some.inj e)
        rw [this]; exact hk.2.2 st hl
      · intro h
        obtain ⟨e, he, h2⟩ := valV_some.mp h
        obtain ⟨st, hl, h3⟩ := hk.2.1 e he
        refine ⟨st, hl, ?_⟩
        rw [← LSt.key_vs, ← h3, h2]; rfl
    refine ⟨⟨_, .of ut⟩, lpT (xs := [.str (Str.ofString "times"), .str (Str.ofString "part"), .str (Str.ofString "rest"), .str (Str.ofString "none")]) (fun _ σ H' => (ExD d H2 H' ∧ DiceAt H' d) ∧ ∃ t5 t6 t7 t8 t9 t10 t11, σ = [some (.ref d), some (.int w), some (.int step), some (.ref p), some (.int F), t5, t6, t7, t8, t9, t10, t11, none])
      ⟨⟨ExD.refl _, d2⟩, none, none, none, none, none, none, none, rfl⟩ (fun i σ' H' _ h => .of (h.1.1 _ _ ndt ut)) ?_ ?_⟩
    · rintro i v σ H3 hv ⟨g3, t5, t6, t7, t8, t9, t10, t11, rfl⟩
      obtain ⟨z, rfl, hz⟩ : ∃ z, v = .str z ∧ PyData.canLay0 (.str z) = true := by
        have := List.mem_of_getElem? hv
        simp only [List.mem_cons, List.mem_nil_iff, or_false] at this
        rcases this with rfl | rfl | rfl | rfl <;> exact ⟨_, rfl, by decide +kernel⟩
      walk_at "rs"
      refine ⟨by omega, by omega, lpR F.toNat (fun _ σ H' => (ExD d H2 H' ∧ DiceAt H' d) ∧ ∃ t6 t7 t8 t9 t10 t11, σ = [some (.ref d), some (.int w), some (.int step), some (.ref p), some (.int F), some (.str z), t6, t7, t8, t9, t10, t11, none]) ⟨g3, t6, t7, t8, t9, t10, t11, rfl⟩ ?_ ?_⟩
      · rintro f σ H4 hf ⟨g4, t6, t7, t8, t9, t10, t11, rfl⟩
        walk_at "rs"
        refine ⟨by omega, by omega, lpR F.toNat (fun _ σ H' => (ExD d H2 H' ∧ DiceAt H' d) ∧ ∃ t7 t8 t9 t10 t11, σ = [some (.ref d), some (.int w), some (.int step), some (.ref p), some (.int F), some (.str z), some (.int f), t7, t8, t9, t10, t11, none]) ⟨g4, t7, t8, t9, t10, t11, rfl⟩ ?_ ?_⟩
        · rintro y σ H5 hy ⟨g5, t7, t8, t9, t10, t11, rfl⟩
          walk_at "rs"
          refine ⟨d, _, rfl, g5.2, by omega, by omega, fun l a b c l0 l1 ha hb hc => ?_⟩
          have g6 : ExD d H2 (upd H5 d (dice3 a b c)) ∧ DiceAt (upd H5 d (dice3 a b c)) d := ⟨g5.1.trans exd_upd, dice_upd ha hb hc⟩
          generalize upd H5 d (dice3 a b c) = H6 at g6 ⊢
          walk_at "rs"
          refine ⟨by omega, by omega, lpR F.toNat (fun _ σ H' => (ExD d H2 H' ∧ DiceAt H' d) ∧ ∃ t9 t10 t11, σ = [some (.ref d), some (.int w), some (.int step), some (.ref p), some (.int F), some (.str z), some (.int f), some (.int y), some (.int l), t9, t10, t11, none]) ⟨g6, t9, t10, t11, rfl⟩ ?_ ?_⟩
          · rintro o σ H7 ho ⟨g7, t9, t10, t11, rfl⟩
            walk_at "rs"
            refine ⟨by omega, by omega, lpR F.toNat (fun _ σ H' => (ExD d H2 H' ∧ DiceAt H' d) ∧ ∃ t10 t11, σ = [some (.ref d), some (.int w), some (.int step), some (.ref p), some (.int F), some (.str z), some (.int f), some (.int y), some (.int l), some (.int o), t10, t11, none]) ⟨g7, t10, t11, rfl⟩ ?_ ?_⟩
            · rintro t σ H8 ht ⟨g8, t10, t11, rfl⟩
              walk_at "rs"
              refine ⟨by decide, fun b hb => ?_⟩
              have y9 := ex_upd (o := .tup [.str z, .int f, .int y, .int l, .int o, .int t]) hb
              have ub : upd H8 b (.tup [.str z, .int f, .int y, .int l, .int o, .int t]) b = _ := upd_same
              generalize upd H8 b (.tup [.str z, .int f, .int y, .int l, .int o, .int t]) = H9 at y9 ub ⊢
              refine ⟨w, step, _, some _, rfl, h1, by omega, h3, h4, ⟨b, rfl, .of ub⟩, fun xs e => ?_, fun c H10 e10 hc => ?_⟩
              · cases e
                intro x hx
                simp only [List.mem_cons, List.mem_nil_iff, or_false] at hx
                rcases hx with rfl | rfl | rfl | rfl | rfl | rfl
                · exact .str _ hz
                all_goals exact .int _
              walk_at "rs"
              have y10 := y9.trans e10
              have u10 : H10 p = some (.dT kvs) := y10 _ _ (g8.1 _ _ ndp u2)
              refine ⟨_, DGet.t (k := [.inr z, .inl f, .inl y, .inl l, .inl o, .inl t]) u10 (e10 _ _ ub), ?_⟩
              have hceq : c = (valV kvs ([.inr z, .inl (f : Int), .inl (y : Int), .inl l, .inl (o : Int), .inl (t : Int)] : List L2.Key)).isSome := by
                rw [Bool.eq_iff_iff, hc, mem]
              rw [← hceq]
              walk_at "rs"
              exact ⟨g8.1.trans (ExD.of y10), g8.2.ex y10⟩
            · rintro σ H8 ⟨g8, t10, t11, rfl⟩
              walk_at "rs"
              exact g8
          · rintro σ H7 ⟨g7, t9, t10, t11, rfl⟩
            walk_at "rs"
            exact g7
        · rintro σ H5 ⟨g5, t7, t8, t9, t10, t11, rfl⟩
          walk_at "rs"
          exact g5
      · rintro σ H4 ⟨g4, t6, t7, t8, t9, t10, t11, rfl⟩
        walk_at "rs"
        exact g4
    · rintro σ H3 ⟨g3, t5, t6, t7, t8, t9, t10, t11, rfl⟩
      walk_at "rs"
      have u3 := g3.1 _ _ ndp u2
      refine ⟨p, .dT kvs, u3, trivial, fun od => ?_⟩
      have uf : upd H3 p (.frz od (.dT kvs)) p = some (.frz od (.dT kvs)) := upd_same
      refine ⟨_, rfl, p, od, rfl, .inr ⟨kvs, uf, fun D hD => ?_⟩⟩
      have npD : p ≠ D := fun z => by rw [← z, uf] at hD; cases hD
      refine lc_go (walk_keysT (kvs := kvs)) (fun _ => false) (fun _ => .non) (by have := hk.1; omega) hD (fun H' e => e _ _ uf) ?_ ?_
      · rintro i x H' H2' hi e ⟨rfl, kk, v, b, hkv, rfl, hb⟩ Qe Qn qe qn
        obtain ⟨st, hl, hst⟩ := hk.2.1 _ (List.mem_of_getElem? hkv)
        have hst : kk = st.key w := hst
        subst hst
        rw [LSt.key_vs] at hb
        walk_at "rs"
        refine ⟨w, step, _, some (st.vs w), rfl, h1, by omega, h3, h4, ⟨b, rfl, .of hb⟩, fun xs e9 => (by cases e9; exact sc_st), fun c H10 e10 hc => ?_⟩
        have : c = true := hc.mpr ⟨st, hl, rfl⟩
        subst this
        walk_at "rs"
        exact qn _ e10 rfl
      intro H5 e5 l5
      rw [kept_none] at l5
      refine ⟨e5 _ _ uf, ?_⟩
      have l6 : upd H5 p (.dT kvs) D = some (.lst []) := by rw [upd_ne npD.symm]; exact l5
      refine ⟨by decide, fun p9 hp9 => ?_⟩
      have x9 := ex_upd (o := .lst []) hp9
      refine eqD (d := .list []) (e := .list []) (.lst (.of (x9 _ _ l6)) .nil) (.lst (.of upd_same) .nil) (sh_lst []) (sh_lst []) (b := true) rfl ?_
      have ee : ExD d H3 (upd (upd H5 p (.dT kvs)) p9 (.lst [])) := fun b o hb h => by
        by_cases hbp : b = p
        · subst hbp
          rw [u3] at h; cases h
          exact x9 _ _ upd_same
        · refine x9 _ _ ?_
          rw [upd_ne hbp]
          refine e5 _ _ ?_
          rw [upd_ne hbp]; exact h
      have hdd : DiceAt (upd (upd H5 p (.dT kvs)) p9 (.lst [])) d := by
        obtain ⟨l, m, n, a, b, c, hh⟩ := g3.2
        refine ⟨l, m, n, a, b, c, x9 _ _ ?_⟩
        rw [upd_ne ndp.symm]
        refine e5 _ _ ?_
        rw [upd_ne ndp.symm]; exact hh
      exact q _ ((ExD.of x2).trans (g3.1.trans ee)) hdd
def sp_law_is_state (K : PySem.W.Frag) : Sp := fun vs H Q _ => ∃ (w step : Nat) (a : Addr) (k : Kd) (f s : Int) (l : Nat) (o t : Int), vs = [.int w, .int step, .ref a] ∧ SqT K H a [.str k.s, .int f, .int s, .int l, .int o, .int t] ∧ 1 ≤ w ∧ w ≤ 16 ∧ 1 ≤ step ∧ step ≤ 4 ∧ 0 ≤ f ∧ f < 2 ^ w ∧ 0 ≤ s ∧ s < 2 ^ w ∧ l ≤ w ∧
  ∀ b H', Ex H H' → (b = true ↔ IsL w step (some [.str k.s, .int f, .int s, .int l, .int o, .int t])) → Q (.bl b) H'
set_option maxHeartbeats 4000000 in
theorem ok_law_is_state (T : Txt K mg) : FnOk P w K mg base CX0 4 T.f_law_is_state T.d_law_is_state P_law_is_state (sp_law_is_state K) := by
  have G_law_beat := ok_law_beat (P := P) (w := w) (base := base) T
  refine T.F_law_is_state.ok sc_law_is_state (fun vs H Q E h => ?_) (fun cdv A outer s H vs Q E hr h => ?_)
  · obtain ⟨w, step, a, k, f, s, l, o, t, rfl, _⟩ := h; rfl
  · obtain ⟨w, step, a, k, f, y, l, o, t, rfl, ha, h1, h2, h3, h4, f0, f1, s0, s1, hl, q⟩ := h
    refine ⟨_, (pss_cons (ps_set (i := 3) sc_law_is_state.nd rfl (Or.inl rfl) (pe_ix ix_tup (pe_call G_law_beat (hr.mono (by decide)) (by rfl) T.m_law_beat T.F_law_beat.kp T.b_law_beat .nil pass0 (pa_cons (pv 0) (pa_cons (pv 1) (pa_cons pe_non (pa_cons (pe_tup (pa_cons pe_str (pa_cons (pe_ix ix_tup (pv 2) pe_int (fun _ _ => rfl)) (pa_cons (pe_ix ix_tup (pv 2) pe_int (fun _ _ => rfl)) (pa_cons (pe_ix ix_tup (pv 2) pe_int (fun _ _ => rfl)) pa_nil))))) pa_nil))))) pe_int (fun _ _ => rfl)))
      (pss_cons (ps_while PassesOwn.never (pt_cmpR op_gt (pe_ix ix_tup (pv 3) pe_int (fun _ _ => rfl)) (pe_ix ix_tup (pv 2) pe_int (fun _ _ => rfl)) (nomark _)) (pss_one (ps_set (i := 3) sc_law_is_state.nd rfl (Or.inl rfl) (pe_ix ix_tup (pe_call G_law_beat (hr.mono (by decide)) (by rfl) T.m_law_beat T.F_law_beat.kp T.b_law_beat .nil pass0 (pa_cons (pv 0) (pa_cons (pv 1) (pa_cons (pv 3) (pa_cons pe_non pa_nil))))) pe_int (fun _ _ => rfl)))))
      (pss_one (ps_ret (pe_cmpR (op_eqD hr.units) (pv 3) (pv 2) (nomark _)))))), ?_⟩
    walk_at "go"
    intro b hb
    have y1 := ex_upd (o := .tup [.str (Str.ofString "begin"), .str k.s, .int f, .int y]) hb
    have ub : upd H b (.tup [.str (Str.ofString "begin"), .str k.s, .int f, .int y]) b = _ := upd_same
    generalize upd H b (.tup [.str (Str.ofString "begin"), .str k.s, .int f, .int y]) = H1 at y1 ub ⊢
    refine ⟨w, step, .non, _, .idle, .beg k f y, rfl, h1, h2, h3, h4, fun h => (by cases h), ⟨b, rfl, .of ub⟩, ⟨f0, f1, s0, s1⟩, fun r H2 e2 b2 => ?_⟩
    obtain ⟨pr, a2, rfl, hpr, ha2⟩ := b2
    have ha2 : H2 a2 = some (.tup (LSt.vs w (.run k f y w))) := ha2
    have y2 := y1.trans e2
    refine ixT (.of hpr) rfl ?_
    walk_at "rs"
    refine whW (fun μ σ H' => Ex H H' ∧ ∃ (a' : Addr) (l' : Nat), σ = [some (.int w), some (.int step), some (.ref a), some (.ref a')] ∧ H' a' = some (.tup (LSt.vs w (.run k f y l'))) ∧ l' = μ ∧ LIn w step (.run k f y l') ∧ (l ≤ l' ∨ ¬ (0 < l → (w - l) % step = 0))) w
      ⟨y2, a2, w, rfl, ha2, rfl, ⟨f0, f1, s0, s1, Nat.le_refl _, fun _ => by rw [Nat.sub_self, Nat.zero_mod]⟩, .inl hl⟩ ?_
    rintro μ σ H3 ⟨e3, a3, l', rfl, ha3, rfl, hli, hor⟩
    have hta := Evl.ex_t e3 ha
    walk_at "rs"
    refine ixT (.of ha3) rfl (ixT hta rfl ?_)
    walk_at "rs"
    by_cases hlt : l < l'
    · rw [if_pos (by omega)]
      refine ⟨_, fun _ _ h => h, ?_⟩
      walk_at "rs"
      refine ⟨w, step, _, _, .run k f y l', .non, rfl, h1, h2, h3, h4, fun _ => ⟨⟨a3, rfl, .of ha3⟩, hli⟩, rfl, trivial, fun r H4 e4 b4 => ?_⟩
      obtain ⟨pr4, a4, rfl, hpr4, ha4⟩ := b4
      have hbt : (btM w step (.run k f y l') .non).1 = .run k f y (l' - min step l') := by
        show (if l' = 0 then ((.idle, some _) : LSt × Option Int) else (.run k f y (l' - min step l'), none)).1 = _
        rw [if_neg (by omega)]
      have hli2 := bt_in (x := .non) h3 hli trivial
      rw [hbt] at ha4 hli2
      refine ixT (.of hpr4) rfl ?_
      walk_at "rs"
      refine ⟨_, (by omega : l' - min step l' < l'), e3.trans e4, _, ha4, rfl, hli2, ?_⟩
      by_cases hc : 0 < l → (w - l) % step = 0
      · have hg := gap h3 h4 (show 0 < l' by omega) hli.2.2.2.2.1 hl (hli.2.2.2.2.2 (by omega)) hc
        exact .inl (by omega)
      · exact .inr hc
    · rw [if_neg (by omega)]
      walk_at "rs"
      refine eqD (d := (LSt.run k f y l').dat w) (e := .tuple [.str k.s, .int f, .int y, .int l, .int o, .int t]) (dp_st ⟨a3, rfl, .of ha3⟩) (.tup hta (.cons (.str _) (.cons (.int _) (.cons (.int _) (.cons (.int _) (.cons (.int _) (.cons (.int _) .nil))))))) sh_st ?_ (b := decide (l' = l ∧ (reM w k f y l').1 = o ∧ (reM w k f y l').2 = t)) ?_ ?_
      · cases k <;> (simp [SeqAt.shaped, PyData.canLay0, PyData.canLayAll0, PyData.depth, PyData.depthAll, Kd.s]; decide +kernel)
      · show PyData.eqvAll [.str k.s, .int f, .int y, .int l', .int (reM w k f y l').1, .int (reM w k f y l').2] [.str k.s, .int f, .int y, .int l, .int o, .int t] = _
        simp only [PyData.eqvAll, PyData.eqv, Bool.and_true]
        rw [Bool.eq_iff_iff]
        simp
        intros; omega
      · refine q _ _ e3 ?_
        rw [decide_eq_true_iff]
        constructor
        · rintro ⟨rfl, rfl, rfl⟩
          exact ⟨_, hli, rfl⟩
        · rintro ⟨st, hst, e⟩
          cases st with
          | idle => cases k <;> (simp only [LSt.vs, Kd.s, Option.some.injEq, List.cons.injEq, V.str.injEq, ofStr_inj] at e; exact absurd e.1 (by decide))
          | run k' f' s' l2 =>
            simp only [LSt.vs, Option.some.injEq, List.cons.injEq, V.str.injEq, V.int.injEq, and_true] at e
            obtain ⟨e1, rfl, rfl, e4, e5, e6⟩ := e
            have e1 := kd_inj e1
            have e4 : l = l2 := by omega
            subst e1 e4
            have : l' = l := by
              rcases hor with h | h
              · omega
              · exact absurd hst.2.2.2.2.2 h
            subst this
            exact ⟨rfl, e5.symm, e6.symm⟩
def sp_law_great_right (K : PySem.W.Frag) : Sp := fun vs H Q _ => ∃ (d : Addr), vs = [.ref d] ∧ DiceAt H d ∧ ∀ H', ExD d H H' → DiceAt H' d → Q (.bl true) H'
set_option maxHeartbeats 4000000 in
theorem ok_law_great_right (T : Txt K mg) : FnOk P w K mg base CX0 7 T.f_law_great_right T.d_law_great_right P_law_great_right (sp_law_great_right K) := by
  have G_law_two_to := ok_law_two_to (P := P) (w := w) (base := base) T
  have G_law_roll := ok_law_roll (P := P) (w := w) (base := base) T
  have G_law_begin_drawn := ok_law_begin_drawn (P := P) (w := w) (base := base) T
  have G_law_beat := ok_law_beat (P := P) (w := w) (base := base) T
  have G_is_long := ok_is_long (P := P) (w := w) (base := base) T
  have G_law_is_state := ok_law_is_state (P := P) (w := w) (base := base) T
  have G_long_beat := ok_long_beat (P := P) (w := w) (base := base) T
  have G_law_one_of := ok_law_one_of (P := P) (w := w) (base := base) T
  refine T.F_law_great_right.ok sc_law_great_right (fun vs H Q E h => ?_) (fun cdv A outer s H vs Q E hr h => ?_)
  · obtain ⟨d, rfl, _⟩ := h; rfl
  · obtain ⟨d, rfl, hd, q⟩ := h
    refine ⟨_, (pss_cons (ps_asg (pe_tup (pa_cons (pe_op op_add pe_int (pe_call G_law_roll (hr.mono (by decide)) (by rfl) T.m_law_roll T.F_law_roll.kp T.b_law_roll .nil pass0 (pa_cons (pv 0) (pa_cons pe_int pa_nil)))) (pa_cons (pe_op op_add pe_int (pe_call G_law_roll (hr.mono (by decide)) (by rfl) T.m_law_roll T.F_law_roll.kp T.b_law_roll .nil pass0 (pa_cons (pv 0) (pa_cons pe_int pa_nil)))) pa_nil))) (pg_tup (n := 2) rfl (pgs_cons (pg_name (i := 1) sc_law_great_right.nd rfl (Or.inr rfl)) (pgs_cons (pg_name (i := 2) sc_law_great_right.nd rfl (Or.inr rfl)) pgs_nil))))
      (pss_cons (ps_par (i := 3) (j := 4) (by rfl) sc_law_great_right.nd rfl rfl (by decide) rfl rfl (pa_cons (pe_ix ix_tup (pe_call G_law_beat (hr.mono (by decide)) (by rfl) T.m_law_beat T.F_law_beat.kp T.b_law_beat .nil pass0 (pa_cons (pv 1) (pa_cons (pv 2) (pa_cons pe_non (pa_cons (pe_call G_law_begin_drawn (hr.mono (by decide)) (by rfl) T.m_law_begin_drawn T.F_law_begin_drawn.kp T.b_law_begin_drawn .nil pass0 (pa_cons (pv 0) (pa_cons (pv 1) pa_nil))) pa_nil))))) pe_int (fun _ _ => rfl)) (pa_cons (pe_call G_law_two_to (hr.mono (by decide)) (by rfl) T.m_law_two_to T.F_law_two_to.kp T.b_law_two_to .nil pass0 (pa_cons (pv 1) pa_nil)) pa_nil)) (by rfl))
      (pss_cons (ps_for PassesOwn.never rfl (pi_range1 (by rfl) T.n_range (pa_cons (pe_call G_law_roll (hr.mono (by decide)) (by rfl) T.m_law_roll T.F_law_roll.kp T.b_law_roll .nil pass0 (pa_cons (pv 0) (pa_cons (pe_op op_add (pv 1) pe_int) pa_nil))) pa_nil)) (pg_name (i := 5) sc_law_great_right.nd rfl (Or.inl rfl)) (pss_one (ps_if (pt_cmpR op_gt (pe_ix ix_tup (pv 3) pe_int (fun _ _ => rfl)) pe_int (nomark _)) (pss_one (ps_set (i := 3) sc_law_great_right.nd rfl (Or.inl rfl) (pe_ix ix_tup (pe_call G_law_beat (hr.mono (by decide)) (by rfl) T.m_law_beat T.F_law_beat.kp T.b_law_beat .nil pass0 (pa_cons (pv 1) (pa_cons (pv 2) (pa_cons (pv 3) (pa_cons pe_non pa_nil))))) pe_int (fun _ _ => rfl)))) pss_nil)))
      (pss_cons (ps_for PassesOwn.never rfl (pi_range1 (by rfl) T.n_range (pa_cons pe_int pa_nil)) (pg_name (i := 5) sc_law_great_right.nd rfl (Or.inl rfl)) (pss_cons (ps_set (i := 6) sc_law_great_right.nd rfl (Or.inl rfl) (pe_op op_add pe_int (pe_call G_law_roll (hr.mono (by decide)) (by rfl) T.m_law_roll T.F_law_roll.kp T.b_law_roll .nil pass0 (pa_cons (pv 0) (pa_cons pe_int pa_nil)))))
      (pss_cons (ps_set (i := 7) sc_law_great_right.nd rfl (Or.inl rfl) (pe_ifV (pt_cmpR op_eq (pv 6) pe_int (nomark _)) (pe_op op_add (pv 1) pe_int) (pv 4)))
      (pss_cons (ps_set (i := 8) sc_law_great_right.nd rfl (Or.inl rfl) (pe_op op_catA (pe_op op_catA (pe_slice sl_tupA (pv 3) po_none (po_some (pv 6))) (pe_tup (pa_cons (pe_call G_law_one_of (hr.mono (by decide)) (by rfl) T.m_law_one_of T.F_law_one_of.kp T.b_law_one_of .nil pass0 (pa_cons (pv 0) (pa_cons (pe_lst (pa_cons (pe_op op_mod (pe_op op_add (pe_ix ix_tup (pv 3) (pv 6) (fun _ _ => rfl)) pe_int) (pv 7)) (pa_cons (pe_call G_law_roll (hr.mono (by decide)) (by rfl) T.m_law_roll T.F_law_roll.kp T.b_law_roll .nil pass0 (pa_cons (pv 0) (pa_cons (pv 7) pa_nil))) pa_nil))) pa_nil))) pa_nil))) (pe_slice sl_tupA (pv 3) (po_some (pe_op op_add (pv 6) pe_int)) po_none)))
      (pss_one (ps_if (pt_cmpR op_ne (pe_call G_is_long (hr.mono (by decide)) (by rfl) T.m_is_long T.F_is_long.kp T.b_is_long .nil pass0 (pa_cons (pv 1) (pa_cons (pv 2) (pa_cons (pv 8) pa_nil)))) (pe_call G_law_is_state (hr.mono (by decide)) (by rfl) T.m_law_is_state T.F_law_is_state.kp T.b_law_is_state .nil pass0 (pa_cons (pv 1) (pa_cons (pv 2) (pa_cons (pv 8) pa_nil)))) (nomark _)) (pss_one (ps_ret pe_bl)) pss_nil))))))
      (pss_cons (ps_set (i := 9) sc_law_great_right.nd rfl (Or.inl rfl) (pe_lst (pa_cons pe_non (pa_cons (pe_tup pa_nil) (pa_cons (pe_slice sl_tupA (pv 3) po_none (po_some pe_int)) (pa_cons (pe_op op_catA (pv 3) (pe_tup (pa_cons pe_int pa_nil))) (pa_cons (pe_callTy call_list_of (by rfl) T.n_list (by decide +kernel) (pa_cons (pv 3) pa_nil)) (pa_cons (pe_op op_catA (pe_tup (pa_cons pe_str pa_nil)) (pe_slice sl_tupA (pv 3) (po_some pe_int) po_none)) (pa_cons pe_int (pa_cons pe_str (pa_cons pe_dnewK pa_nil)))))))))))
      (pss_cons (ps_join (ps_if (pt_cmpR op_gt (pe_callB (cr_maxT rfl hr.units) (by rfl) T.n_max (by decide +kernel) (pa_cons (pe_slice sl_tupA (pv 3) (po_some pe_int) po_none) pa_nil)) pe_int (nomark _)) (pss_one (ps_expr (pe_bm PySem.F.plainAttrs_list PySem.F.slot_list_append PySem.F.type_list_append mt_append (pv 9) (pa_cons (pe_op op_catA (pe_tup (pa_cons pe_str pa_nil)) (pe_slice sl_tupA (pv 3) (po_some pe_int) po_none)) pa_nil)))) pss_nil))
      (pss_cons (ps_set (i := 9) sc_law_great_right.nd rfl (Or.inl rfl) (pe_op op_cat (pv 9) (pe_lst (pa_cons (pe_op op_catA (pe_op op_catA (pe_slice sl_tupA (pv 3) po_none (po_some pe_int)) (pe_tup (pa_cons (pe_op op_add (pv 1) pe_int) pa_nil))) (pe_slice sl_tupA (pv 3) (po_some pe_int) po_none)) (pa_cons (pe_op op_catA (pe_op op_catA (pe_slice sl_tupA (pv 3) po_none (po_some pe_int)) (pe_tup (pa_cons (pe_un un_neg pe_int) pa_nil))) (pe_slice sl_tupA (pv 3) (po_some pe_int) po_none)) (pa_cons (pe_op op_catA (pe_op op_catA (pe_slice sl_tupA (pv 3) po_none (po_some pe_int)) (pe_tup (pa_cons (pv 4) pa_nil))) (pe_slice sl_tupA (pv 3) (po_some pe_int) po_none)) pa_nil))))))
      (pss_cons (ps_set (i := 9) sc_law_great_right.nd rfl (Or.inl rfl) (pe_op op_cat (pv 9) (pe_lst (pa_cons (pe_op op_catA (pe_slice sl_tupA (pv 3) po_none (po_some pe_int)) (pe_tup (pa_cons pe_non (pa_cons (pe_ix ix_tup (pv 3) pe_int (fun _ _ => rfl)) pa_nil)))) (pa_cons (pe_op op_catA (pe_slice sl_tupA (pv 3) po_none (po_some pe_int)) (pe_tup (pa_cons (pv 4) pa_nil))) (pa_cons (pe_op op_catA (pe_tup (pa_cons pe_non pa_nil)) (pe_slice sl_tupA (pv 3) (po_some pe_int) po_none)) (pa_cons (pe_tup (pa_cons pe_str (pa_cons pe_int (pa_cons pe_int (pa_cons pe_int (pa_cons pe_int (pa_cons pe_bl pa_nil))))))) pa_nil)))))))
      (pss_cons (ps_if (PW.pt (pw_or (pt_cmpR (op_neD hr.units) (pe_lc (own := [("value", 8)]) (g := gName 8) (by rfl) sc_law_great_right.nd (pi_list (pv 9)) (blkOk_by (own := [("value", 8)]) (N := N_law_great_right) (sc := defScope s_law_great_right) (by decide +kernel)) (fun _ _ _ _ _ => (pg_name (i := 8) sc_law_great_right.nd rfl (by first | exact Or.inl rfl | exact Or.inr rfl))) (fun _ _ _ _ _ => pts_one (pt_val (pe_call G_is_long (hr.mono (by decide)) (by rfl) T.m_is_long T.F_is_long.kp T.b_is_long .nil pass0 (pa_cons (pv 1) (pa_cons (pv 2) (pa_cons (pv 8) pa_nil)))))) (fun _ _ _ _ _ => (pv 8))) (pe_lst pa_nil) (nomark _)) (pw_or1 (pt_not (pt_val (pe_call G_is_long (hr.mono (by decide)) (by rfl) T.m_is_long T.F_is_long.kp T.b_is_long .nil pass0 (pa_cons (pv 1) (pa_cons (pv 2) (pa_cons (pv 3) pa_nil))))))))) (pss_one (ps_ret pe_bl)) pss_nil)
      (pss_cons (ps_for PassesOwn.never rfl (pi_tup (pe_tup (pa_cons pe_non (pa_cons (pe_tup (pa_cons pe_str pa_nil)) (pa_cons (pe_call G_law_begin_drawn (hr.mono (by decide)) (by rfl) T.m_law_begin_drawn T.F_law_begin_drawn.kp T.b_law_begin_drawn .nil pass0 (pa_cons (pv 0) (pa_cons (pv 1) pa_nil))) pa_nil))))) (pg_name (i := 10) sc_law_great_right.nd rfl (Or.inl rfl)) (pss_one (ps_if (pt_cmpR (op_neD hr.units) (pe_call G_long_beat (hr.mono (by decide)) (by rfl) T.m_long_beat T.F_long_beat.kp T.b_long_beat .nil pass0 (pa_cons (pv 1) (pa_cons (pv 2) (pa_cons (pv 3) (pa_cons (pv 10) pa_nil))))) (pe_call G_law_beat (hr.mono (by decide)) (by rfl) T.m_law_beat T.F_law_beat.kp T.b_law_beat .nil pass0 (pa_cons (pv 1) (pa_cons (pv 2) (pa_cons (pv 3) (pa_cons (pv 10) pa_nil))))) (nomark _)) (pss_one (ps_ret pe_bl)) pss_nil)))
      (pss_one (ps_ret pe_bl)))))))))))), ?_⟩
    walk_at "rs"
    refine ⟨d, _, rfl, hd, by decide, by decide +kernel, fun w0 x y z w00 w01 hx hy hz => ?_⟩
    obtain ⟨w, hw, hw1, hw2⟩ : ∃ n : Nat, (3 + w0 : Int) = n ∧ 3 ≤ n ∧ n ≤ 16 := ⟨(3 + w0).toNat, by omega, by omega, by omega⟩
    have d1 : DiceAt (upd H d (dice3 x y z)) d := dice_upd hx hy hz
    have e1 : ExD d H (upd H d (dice3 x y z)) := exd_upd
    generalize upd H d (dice3 x y z) = H1 at d1 e1 ⊢
    refine ⟨w0, rfl, d, _, rfl, d1, by decide, by decide +kernel, fun s0 x y z s00 s01 hx hy hz => ?_⟩
    obtain ⟨step, hs, hs1, hs2⟩ : ∃ n : Nat, (1 + s0 : Int) = n ∧ 1 ≤ n ∧ n ≤ 4 := ⟨(1 + s0).toNat, by omega, by omega, by omega⟩
    have d2 : DiceAt (upd H1 d (dice3 x y z)) d := dice_upd hx hy hz
    have e2 : ExD d H (upd H1 d (dice3 x y z)) := e1.trans exd_upd
    generalize upd H1 d (dice3 x y z) = H2 at d2 e2 ⊢
    refine ⟨s0, rfl, ?_⟩
    rw [hw, hs]
    have h16 : (2 : Int) ^ w ≤ 2 ^ 16 := pow_le hw2
    have hpos := pow_pos' w
    have big : (65536 : Int) < 2 ^ 4000 := by decide +kernel
    walk_at "rs"
    refine ⟨by decide, fun p0 hp0 => ⟨_, .of upd_same, rfl, _, _, rfl, _, _, rfl, rfl, ?_⟩⟩
    have d2 := d2.new (o := .tup [.int w, .int step]) hp0
    have e2 := e2.trans (ExD.of (ex_upd (o := .tup [.int w, .int step]) hp0))
    generalize upd H2 p0 (.tup [.int w, .int step]) = H2 at d2 e2 ⊢
    walk_at "rs"
    refine ⟨d, w, rfl, d2, by omega, hw2, fun v k f y H3 e3 d3 hv hi => ?_⟩
    have e3' := e2.trans e3
    refine ⟨w, step, .non, v, .idle, _, rfl, by omega, hw2, hs1, hs2, fun h => (by cases h), hv, hi, fun r H4 e4 b4 => ?_⟩
    obtain ⟨pr, a4, rfl, hpr, ha4⟩ := b4
    have ha4 : H4 a4 = some (.tup (LSt.vs w (.run k f y w))) := ha4
    have d4 := d3.ex e4
    have e4' := e3'.trans (ExD.of e4)
    refine ixT (.of hpr) rfl ⟨w, rfl, by omega, ?_⟩
    obtain ⟨f0, f1, y0, y1⟩ := hi
    walk_at "rs"
    refine ⟨d, _, rfl, d4, by omega, by omega, fun r x y' z r0 r1 hx hy hz => ?_⟩
    have n4 : a4 ≠ d := fun z => by obtain ⟨l, m, n, _, _, _, hh⟩ := d4; rw [z, hh] at ha4; cases ha4
    have d5 : DiceAt (upd H4 d (dice3 x y' z)) d := dice_upd hx hy hz
    have e5 : ExD d H (upd H4 d (dice3 x y' z)) := e4'.trans exd_upd
    have ha5 : (upd H4 d (dice3 x y' z)) a4 = some (.tup (LSt.vs w (.run k f y w))) := by rw [upd_ne n4]; exact ha4
    generalize upd H4 d (dice3 x y' z) = H5 at d5 e5 ha5 ⊢
    walk_at "rs"
    refine ⟨by omega, by omega, lpR r.toNat (fun _ σ H' => Ex H5 H' ∧ ∃ a l t5, σ = [some (.ref d), some (.int w), some (.int step), some (.ref a), some (.int (2 ^ w)), t5, none, none, none, none, none] ∧ H' a = some (.tup (LSt.vs w (.run k f y l))) ∧ LIn w step (.run k f y l)) ⟨Ex.refl _, a4, w, none, rfl, ha5, ⟨f0, f1, y0, y1, Nat.le_refl _, fun _ => by rw [Nat.sub_self, Nat.zero_mod]⟩⟩ ?_ ?_⟩
    · rintro i σ H6 hi ⟨e6, a, l, t5, rfl, ha6, hl6⟩
      walk_at "rs"
      refine ixT (.of ha6) rfl ?_
      walk_at "rs"
      by_cases hl0 : 0 < l
      · rw [if_pos (by omega)]
        refine ⟨w, step, _, _, .run k f y l, .non, rfl, by omega, hw2, hs1, hs2, fun _ => ⟨⟨a, rfl, .of ha6⟩, hl6⟩, rfl, trivial, fun r H7 e7 b7 => ?_⟩
        obtain ⟨pr7, a7, rfl, hpr7, ha7⟩ := b7
        have hbt : (btM w step (.run k f y l) .non).1 = .run k f y (l - min step l) := by
          show (if l = 0 then ((.idle, some _) : LSt × Option Int) else (.run k f y (l - min step l), none)).1 = _
          rw [if_neg (by omega)]
        have hl7 := bt_in (x := .non) hs1 hl6 trivial
        rw [hbt] at ha7 hl7
        refine ixT (.of hpr7) rfl ?_
        walk_at "rs"
        exact ⟨e6.trans e7, _, ha7, hl7⟩
      · rw [if_neg (by omega)]
        exact ⟨e6, _, ha6, hl6⟩
    · rintro σ H6 ⟨e6, a, l, t5, rfl, ha6, hl6⟩
      have d6 := d5.ex e6
      have e6' := e5.trans (ExD.of e6)
      clear e6 e5 d5 ha5
      have na : a ≠ d := fun z => by obtain ⟨l, m, n, _, _, _, hh⟩ := d6; rw [z, hh] at ha6; cases ha6
      obtain ⟨_, _, _, _, hlw, hmod⟩ := id hl6
      obtain ⟨o0, o1, t0, t1⟩ := re_bd (k := k) (s := y) hlw f0 f1 y0
      walk_at "rs"
      refine ⟨by decide, by decide, lpR 8 (fun _ σ H' => (ExD d H6 H' ∧ DiceAt H' d) ∧ ∃ t5 t6 t7 t8, σ = [some (.ref d), some (.int w), some (.int step), some (.ref a), some (.int (2 ^ w)), t5, t6, t7, t8, none, none]) ⟨⟨ExD.refl _, d6⟩, t5, none, none, none, rfl⟩ ?_ ?_⟩
      · rintro i σ H7 hi ⟨g7, t5, t6, t7, t8, rfl⟩
        walk_at "rs"
        refine ⟨d, _, rfl, g7.2, by decide, by decide +kernel, fun at0 x y' z at00 at01 hx hy hz => ?_⟩
        obtain ⟨at_, hat, hat1, hat5⟩ : ∃ n : Nat, (1 + at0 : Int) = n ∧ 1 ≤ n ∧ n ≤ 5 := ⟨(1 + at0).toNat, by omega, by omega, by omega⟩
        have g8 : ExD d H6 (upd H7 d (dice3 x y' z)) ∧ DiceAt (upd H7 d (dice3 x y' z)) d := ⟨g7.1.trans exd_upd, dice_upd hx hy hz⟩
        generalize upd H7 d (dice3 x y' z) = H8 at g8 ⊢
        refine ⟨at0, rfl, ?_⟩
        rw [hat]
        walk_at "rs"
        obtain ⟨most, hmost⟩ : ∃ m : Int, m = if at_ = 3 then (w : Int) + 1 else 2 ^ w := ⟨_, rfl⟩
        have hm0 : 0 < most := by rw [hmost]; split <;> omega
        refine ⟨.int most, ?_, ?_⟩
        · by_cases h : at_ = 3
          · rw [if_pos (by omega), hmost, if_pos h]
          · rw [if_neg (by omega), hmost, if_neg h]
        walk_at "rs"
        have ha8 := g8.1 _ _ na ha6
        have hz : ∃ z : Int, (LSt.vs w (.run k f y l))[at_]? = some (.int z) := by
          have : at_ = 1 ∨ at_ = 2 ∨ at_ = 3 ∨ at_ = 4 ∨ at_ = 5 := by omega
          rcases this with rfl | rfl | rfl | rfl | rfl <;> exact ⟨_, rfl⟩
        obtain ⟨z, hz⟩ := hz
        refine slA_use (.of ha8) fun p1 H9 x9 hp1 => ?_
        rw [cut_to] at hp1
        have ha9 := x9 _ _ ha8
        refine ixT (.of ha9) (atI_nat hz) ?_
        walk_at "rs"
        have g9 : ExD d H6 H9 ∧ DiceAt H9 d := ⟨g8.1.trans (ExD.of x9), g8.2.ex x9⟩
        refine ⟨hm0, d, most, rfl, g9.2, hm0, by rw [hmost]; split <;> omega, fun r x y' z' r0 r1 hx hy hz' => ?_⟩
        have g10 : ExD d H9 (upd H9 d (dice3 x y' z')) ∧ DiceAt (upd H9 d (dice3 x y' z')) d := ⟨exd_upd, dice_upd hx hy hz'⟩
        generalize upd H9 d (dice3 x y' z') = H10 at g10 ⊢
        refine ⟨by decide, fun p2 hp2 => ?_⟩
        have x11 := ex_upd (o := .lst [.int ((z + 1) % most), .int r]) hp2
        have u11 : upd H10 p2 (.lst [.int ((z + 1) % most), .int r]) p2 = _ := upd_same
        have ndp2 := g10.2.ne hp2
        generalize upd H10 p2 (.lst [.int ((z + 1) % most), .int r]) = H11 at x11 u11 ⊢
        refine ⟨d, p2, _, rfl, g10.2.ex x11, ndp2, .of u11, by simp, by simp, fun v x y' z' hv hx hy hz' => ?_⟩
        obtain ⟨n, rfl, n0, n1⟩ : ∃ n : Int, v = .int n ∧ 0 ≤ n ∧ n < most := by
          simp only [List.mem_cons, List.mem_nil_iff, or_false] at hv
          rcases hv with rfl | rfl
          · exact ⟨_, rfl, (mod_bd hm0).1, (mod_bd hm0).2⟩
          · exact ⟨_, rfl, r0, r1⟩
        have g12 : ExD d H9 (upd H11 d (dice3 x y' z')) ∧ DiceAt (upd H11 d (dice3 x y' z')) d := ⟨(g10.1.trans (ExD.of x11)).trans exd_upd, dice_upd hx hy hz'⟩
        generalize upd H11 d (dice3 x y' z') = H12 at g12 ⊢
        refine ⟨by decide, fun p3 hp3 => ?_⟩
        have x13 := ex_upd (o := .tup [.int n]) hp3
        have u13 : upd H12 p3 (.tup [.int n]) p3 = _ := upd_same
        generalize upd H12 p3 (.tup [.int n]) = H13 at x13 u13 ⊢
        have g13 : ExD d H9 H13 ∧ DiceAt H13 d := ⟨g12.1.trans (ExD.of x13), g12.2.ex x13⟩
        have hp13 := sqT_exd g9.2 g13.1 hp1
        have ha13 := sqT_exd g9.2 g13.1 (.of (K := K) ha9)
        refine catT_use hp13 (.of u13) (by rw [List.length_take, List.length_singleton]; have : (LSt.vs w (.run k f y l)).length = 6 := rfl; omega) fun p4 H14 x14 hp4 => ?_
        refine slA_use (Evl.ex_t x14 ha13) fun p5 H15 x15 hp5 => ?_
        rw [show ((at_ : Int) + 1) = ((at_ + 1 : Nat) : Int) by omega, cut_from] at hp5
        refine catT_use (Evl.ex_t x15 hp4) hp5 (by rw [List.length_append, List.length_take, List.length_singleton, List.length_drop]; have : (LSt.vs w (.run k f y l)).length = 6 := rfl; omega) fun p6 H16 x16 hp6 => ?_
        have x6 := (x14.trans x15).trans x16
        obtain ⟨f', y1', l', o', t', hval, b1, b2, b3, b4, b5⟩ : ∃ (f' y' : Int) (l' : Nat) (o' t' : Int), (LSt.vs w (.run k f y l)).take at_ ++ [V.int n] ++ (LSt.vs w (.run k f y l)).drop (at_ + 1) = [.str k.s, .int f', .int y', .int l', .int o', .int t'] ∧ 0 ≤ f' ∧ f' < 2 ^ w ∧ 0 ≤ y' ∧ y' < 2 ^ w ∧ l' ≤ w := by
          have : at_ = 1 ∨ at_ = 2 ∨ at_ = 3 ∨ at_ = 4 ∨ at_ = 5 := by omega
          rcases this with rfl | rfl | rfl | rfl | rfl
          · rw [if_neg (by decide)] at hmost
            exact ⟨n, y, l, _, _, rfl, n0, by omega, y0, y1, hlw⟩
          · rw [if_neg (by decide)] at hmost
            exact ⟨f, n, l, _, _, rfl, f0, f1, n0, by omega, hlw⟩
          · rw [if_pos rfl] at hmost
            obtain ⟨n', rfl⟩ : ∃ m : Nat, n = m := ⟨n.toNat, by omega⟩
            exact ⟨f, y, n', _, _, rfl, f0, f1, y0, y1, by omega⟩
          · exact ⟨f, y, l, n, _, rfl, f0, f1, y0, y1, hlw⟩
          · exact ⟨f, y, l, _, n, rfl, f0, f1, y0, y1, hlw⟩
        rw [hval] at hp6
        walk_at "rs"
        refine ⟨w, step, _, some _, rfl, by omega, hw2, hs1, hs2, ⟨p6, rfl, hp6⟩, fun xs e => ?_, fun c H17 x17 hc => ?_⟩
        · cases e
          intro x hx
          simp only [List.mem_cons, List.mem_nil_iff, or_false] at hx
          rcases hx with rfl | rfl | rfl | rfl | rfl | rfl
          · exact .str _ (by cases k <;> decide +kernel)
          all_goals exact .int _
        refine ⟨w, step, p6, k, f', y1', l', o', t', rfl, Evl.ex_t x17 hp6, by omega, hw2, hs1, hs2, b1, b2, b3, b4, b5, fun c2 H18 x18 hc2 => ?_⟩
        have : c = c2 := by rw [Bool.eq_iff_iff, hc, hc2]
        subst this
        walk_at "rs"
        have x7 := (x6.trans x17).trans x18
        exact ⟨g9.1.trans (g13.1.trans (ExD.of x7)), g13.2.ex x7⟩
      · rintro σ H7 ⟨g7, t5, t6, t7, t8, rfl⟩
        walk_at "rs"
        have ha7 := g7.1 _ _ na ha6
        have hscs : ∀ x ∈ LSt.vs w (.run k f y l), Sc x := sc_st
        have hlen : (LSt.vs w (.run k f y l)).length = 6 := rfl
        have shrt : ∀ xs : List V, xs.length ≠ 6 → ¬ IsL w step (some xs) := fun xs h h9 => h (isL_six h9)
        have scT : ∀ x ∈ [V.str (Str.ofString "time")], Sc x := fun x hx => by rw [List.mem_singleton.mp hx]; exact .str _ (by decide +kernel)
        refine ⟨by decide, fun p1 hp1 => ?_⟩
        have b1 : Bad K w step (upd H7 p1 (.tup [])) (.ref p1) := .tup (.of upd_same) (by simp) (shrt _ (by decide))
        have z1 := ex_upd (o := .tup []) hp1
        generalize upd H7 p1 (.tup []) = K1 at b1 z1 ⊢
        refine slA_use (.of (z1 _ _ ha7)) fun p2 K2 z2 h2 => ?_
        rw [show (some (5 : Int)) = some ((5 : Nat) : Int) from rfl, cut_to] at h2
        have b2 : Bad K w step K2 (.ref p2) := .tup h2 (fun x hx => hscs x (List.mem_of_mem_take hx)) (shrt _ (by rw [List.length_take]; omega))
        have y2 := z1.trans z2
        refine ⟨by decide, fun p3 hp3 => ?_⟩
        have z3 := ex_upd (o := .tup [.int 0]) hp3
        have u3 : upd K2 p3 (.tup [.int 0]) p3 = _ := upd_same
        generalize upd K2 p3 (.tup [.int 0]) = K3 at z3 u3 ⊢
        have y3 := y2.trans z3
        refine catT_use (.of (y3 _ _ ha7)) (.of u3) (by rw [hlen]; decide) fun p4 K4 z4 h4 => ?_
        have b4 : Bad K w step K4 (.ref p4) := .tup h4 (fun x hx => by rcases List.mem_append.mp hx with h | h; exact hscs x h; rw [List.mem_singleton.mp h]; exact .int _) (shrt _ (by rw [List.length_append, hlen]; decide))
        have y4 := y3.trans z4
        refine ⟨_, .inr (.of (y4 _ _ ha7)), fun p5 hp5 => ?_⟩
        have b5 : Bad K w step (upd K4 p5 (.lst (LSt.vs w (.run k f y l)))) (.ref p5) := .oth (.base (.lst upd_same)) (by decide) (by decide)
        have z5 := ex_upd (o := .lst (LSt.vs w (.run k f y l))) hp5
        generalize upd K4 p5 (.lst (LSt.vs w (.run k f y l))) = K5 at b5 z5 ⊢
        refine ⟨by decide, fun p6 hp6 => ?_⟩
        have z6 := ex_upd (o := .tup [.str (Str.ofString "time")]) hp6
        have u6 : upd K5 p6 (.tup [.str (Str.ofString "time")]) p6 = _ := upd_same
        generalize upd K5 p6 (.tup [.str (Str.ofString "time")]) = K6 at z6 u6 ⊢
        have y6 := y4.trans (z5.trans z6)
        refine slA_use (.of (y6 _ _ ha7)) fun p7 K7 z7 h7 => ?_
        rw [show (some (1 : Int)) = some ((1 : Nat) : Int) from rfl, cut_from] at h7
        refine catT_use (.of (z7 _ _ u6)) h7 (by rw [List.length_drop, hlen]; decide) fun p8 K8 z8 h8 => ?_
        have b8 : Bad K w step K8 (.ref p8) := .tup h8 (fun x hx => by rcases List.mem_append.mp hx with h | h; exact scT x h; exact hscs x (List.mem_of_mem_drop h)) (fun h => by
          rcases isL_head h with e | ⟨kk, e⟩
          · exact absurd (V.str.inj e) (by rw [ofStr_inj]; decide)
          · cases kk <;> exact absurd (V.str.inj e) (by rw [Kd.s, ofStr_inj]; decide))
        refine fun p9 hp9 => ?_
        have b9 : Bad K w step (upd K8 p9 (.dK [])) (.ref p9) := .oth (.base (.dK upd_same)) (by decide) (by decide)
        have z9 := ex_upd (o := .dK []) hp9
        generalize upd K8 p9 (.dK []) = K9 at b9 z9 ⊢
        have z48 := z7.trans (z8.trans z9)
        have y9 := y6.trans z48
        refine ⟨by decide, fun L hL => ?_⟩
        have o9 : ∀ v ∈ [V.non, .ref p1, .ref p2, .ref p4, .ref p5, .ref p8, .int 5, .str (Str.ofString "none"), .ref p9], Bad K w step K9 v := by
          intro v hv
          simp only [List.mem_cons, List.mem_nil_iff, or_false] at hv
          rcases hv with rfl | rfl | rfl | rfl | rfl | rfl | rfl | rfl | rfl
          · exact .oth (.base .non) (n := "NoneType") (by decide) (by decide)
          · exact b1.ex (z2.trans (z3.trans (z4.trans (z5.trans (z6.trans z48)))))
          · exact b2.ex (z3.trans (z4.trans (z5.trans (z6.trans z48))))
          · exact b4.ex (z5.trans (z6.trans z48))
          · exact b5.ex (z6.trans z48)
          · exact b8.ex z9
          · exact .oth (.base (.int 5)) (n := "int") (by decide) (by decide)
          · exact .oth (.base (.str _)) (n := "str") (by decide) (by decide)
          · exact b9
        generalize hvs : ([V.non, .ref p1, .ref p2, .ref p4, .ref p5, .ref p8, .int 5, .str (Str.ofString "none"), .ref p9] : List V) = vs9 at o9 ⊢
        have zL := ex_upd (o := .lst vs9) hL
        have uL : upd K9 L (.lst vs9) L = _ := upd_same
        have nLa : L ≠ d := (((g7.2.ex (y9)).ne hL)).symm
        generalize upd K9 L (.lst vs9) = KL at zL uL ⊢
        have oL : ∀ v ∈ vs9, Bad K w step KL v := fun v hv => (o9 v hv).ex zL
        have yL := y9.trans zL
        have hv9 : vs9.length = 9 := by rw [← hvs]; rfl
        have hL7 : H7 L = none := y9.fresh hL
        clear hvs o9
        walk_at "rs"
        refine ⟨fun σ' H' => σ' = [some (.ref d), some (.int w), some (.int step), some (.ref a), some (.int (2 ^ w)), t5, t6, t7, t8, some (.ref L), none] ∧ ∃ vs1, H' L = some (.lst vs1) ∧ (∀ v ∈ vs1, Bad K w step H' v) ∧ vs1.length ≤ 10 ∧ Ex H7 H', ?_, ?_⟩
        · walk_at "rs"
          refine slA_use (.of (yL _ _ ha7)) fun q1 M1 m1 g1 => ?_
          rw [show (some (1 : Int)) = some ((1 : Nat) : Int) from rfl, cut_from] at g1
          refine ⟨q1, f, [y, l, (reM w k f y l).1, (reM w k f y l).2], rfl, g1, ?_⟩
          walk_at "rs"
          by_cases hmx : 0 < [y, (l : Int), (reM w k f y l).1, (reM w k f y l).2].foldl max f
          · rw [if_pos hmx]
            have u1 := m1 _ _ uL
            refine ⟨.inl ⟨rfl, _, .of u1⟩, by decide, fun q2 hq2 => ?_⟩
            have m2 := ex_upd (o := .tup [.str (Str.ofString "none")]) hq2
            have v2 : upd M1 q2 (.tup [.str (Str.ofString "none")]) q2 = _ := upd_same
            generalize upd M1 q2 (.tup [.str (Str.ofString "none")]) = M2 at m2 v2 ⊢
            have n2 := yL.trans (m1.trans m2)
            refine slA_use (.of (n2 _ _ ha7)) fun q3 M3 m3 g3 => ?_
            rw [show (some (1 : Int)) = some ((1 : Nat) : Int) from rfl, cut_from] at g3
            refine catT_use (.of (m3 _ _ v2)) g3 (by rw [List.length_drop, hlen]; decide) fun q4 M4 m4 g4 => ?_
            have n4 := n2.trans (m3.trans m4)
            have u4 := m4 _ _ (m3 _ _ (m2 _ _ u1))
            have bn : Bad K w step M4 (.ref q4) := .tup g4 (fun x hx => by
              rcases List.mem_append.mp hx with h | h
              · rw [List.mem_singleton.mp h]; exact .str _ (by decide +kernel)
              · exact hscs x (List.mem_of_mem_drop h)) (fun h => by
              have e := isL_zero h
              have e : [V.int f, .int y, .int l, .int (reM w k f y l).1, .int (reM w k f y l).2] = [.int 0, .int 0, .int 0, .int 0, .int 0] := e
              simp only [List.cons.injEq, V.int.injEq, and_true] at e
              obtain ⟨a1, a2, a3, a4, a5⟩ := e
              rw [a5, a4, a3, a2, a1] at hmx
              exact absurd hmx (by decide))
            refine ⟨L, _, _, rfl, rfl, u4, by rw [sizeLine_eq]; omega, ?_⟩
            refine ⟨_, upd_same, fun v hv => ?_, by rw [List.length_append, List.length_singleton]; omega, n4.mut hL7⟩
            refine Bad.mut u4 ?_
            rcases List.mem_append.mp hv with h | h
            · exact (oL v h).ex (m1.trans (m2.trans (m3.trans m4)))
            · rw [List.mem_singleton.mp h]; exact bn
          · rw [if_neg hmx]
            exact ⟨_, m1 _ _ uL, fun v hv => (oL v hv).ex m1, by omega, yL.trans m1⟩
        rintro σ' M0 ⟨rfl, vs1, w1, o1', hl1, n0⟩
        walk_at "rs"
        have mid : ∀ (Kh : Hp) (i j : Nat) (v : V) (Q : VK), Ex H7 Kh → Sc v → ¬ IsL w step (some ((LSt.vs w (.run k f y l)).take i ++ [v] ++ (LSt.vs w (.run k f y l)).drop j)) → (∀ p K', Ex Kh K' → Bad K w step K' (.ref p) → Q (.ref p) K') →
            rSlA K (.ref a) none (some (i : Int)) Kh fun x H1 => 1 ≤ sizeLine ∧ ∀ p, H1 p = none → rCatA K x (.ref p) (upd H1 p (.tup [v])) fun x H2 => rSlA K (.ref a) (some (j : Int)) none H2 fun y H3 => rCatA K x y H3 Q := by
          intro Kh i j v Q hx hv hn hq
          refine slA_use (.of (hx _ _ ha7)) fun q1 M1 m1 g1 => ⟨by decide, fun q2 hq2 => ?_⟩
          rw [cut_to] at g1
          have m2 := ex_upd (o := .tup [v]) hq2
          refine catT_use (Evl.ex_t m2 g1) (.of upd_same) (by rw [List.length_take, List.length_singleton, hlen]; omega) fun q3 M3 m3 g3 => ?_
          have m13 := m1.trans (m2.trans m3)
          refine slA_use (.of (m13 _ _ (hx _ _ ha7))) fun q4 M4 m4 g4 => ?_
          rw [cut_from] at g4
          refine catT_use (Evl.ex_t m4 g3) g4 (by rw [List.length_append, List.length_take, List.length_singleton, List.length_drop, hlen]; omega) fun q5 M5 m5 g5 => ?_
          refine hq q5 M5 (m13.trans (m4.trans m5)) (.tup g5 (fun x hx => ?_) hn)
          rcases List.mem_append.mp hx with h | h
          · rcases List.mem_append.mp h with h | h
            · exact hscs x (List.mem_of_mem_take h)
            · rw [List.mem_singleton.mp h]; exact hv
          · exact hscs x (List.mem_of_mem_drop h)
        have bt0 : ∀ i : Int, ¬ (0 ≤ i ∧ i ≤ 2 ^ w - 1) → btw (.int i) 0 (2 ^ w - 1) = false := fun i h => by
          rw [Bool.eq_false_iff]
          intro h9
          obtain ⟨i', e, a, b, _⟩ := btw_iff.mp h9
          cases e; exact h ⟨a, b⟩
        refine mid M0 3 4 _ _ n0 (.int _) (fun h => ?_) fun q1 M1 m1 c1 => ?_
        · have := (isL_in hw2 h).2.2.2.2
          obtain ⟨i', e, a, b, _⟩ := btw_iff.mp this
          cases e; omega
        refine mid M1 3 4 _ _ (n0.trans m1) (.int _) (fun h => ?_) fun q2 M2 m2 c2 => ?_
        · have := (isL_in hw2 h).2.2.2.2
          obtain ⟨i', e, a, b, _⟩ := btw_iff.mp this
          cases e; omega
        refine mid M2 1 2 _ _ (n0.trans (m1.trans m2)) (.int _) (fun h => ?_) fun q3 M3 m3 c3 => ?_
        · have := (isL_in hw2 h).1
          obtain ⟨i', e, a, b, _⟩ := btw_iff.mp this
          cases e; omega
        refine ⟨by decide, fun L1 hL1 => ?_⟩
        have m123 := m1.trans (m2.trans m3)
        have m4 := ex_upd (o := .lst [.ref q1, .ref q2, .ref q3]) hL1
        refine ⟨L, L1, vs1, _, rfl, rfl, m4 _ _ (m123 _ _ w1), upd_same, by rw [sizeLine_eq]; show vs1.length + 3 ≤ _; omega, fun L2 hL2 => ?_⟩
        have m5 := ex_upd (o := .lst (vs1 ++ [.ref q1, .ref q2, .ref q3])) hL2
        have w2 : upd (upd M3 L1 (.lst [.ref q1, .ref q2, .ref q3])) L2 (.lst (vs1 ++ [.ref q1, .ref q2, .ref q3])) L2 = _ := upd_same
        have m05 := m123.trans (m4.trans m5)
        have o2 : ∀ v ∈ vs1 ++ [.ref q1, .ref q2, .ref q3], Bad K w step (upd (upd M3 L1 (.lst [.ref q1, .ref q2, .ref q3])) L2 (.lst (vs1 ++ [.ref q1, .ref q2, .ref q3]))) v := by
          intro v hv
          rcases List.mem_append.mp hv with h | h
          · exact (o1' v h).ex m05
          · simp only [List.mem_cons, List.mem_nil_iff, or_false] at h
            rcases h with rfl | rfl | rfl
            · exact c1.ex (m2.trans (m3.trans (m4.trans m5)))
            · exact c2.ex (m3.trans (m4.trans m5))
            · exact c3.ex (m4.trans m5)
        generalize upd (upd M3 L1 (.lst [.ref q1, .ref q2, .ref q3])) L2 (.lst (vs1 ++ [.ref q1, .ref q2, .ref q3])) = M5 at w2 m05 o2 ⊢
        have hl2 : (vs1 ++ [V.ref q1, .ref q2, .ref q3]).length ≤ 13 := by rw [List.length_append]; show vs1.length + 3 ≤ 13; omega
        generalize vs1 ++ [V.ref q1, .ref q2, .ref q3] = vs2 at w2 o2 hl2
        have n5 := n0.trans m05
        walk_at "rs"
        -- state[:4] + (None, state[5])
        refine slA_use (.of (n5 _ _ ha7)) fun r1 N1 k1 g1 => ?_
        rw [show (some (4 : Int)) = some ((4 : Nat) : Int) from rfl, cut_to] at g1
        have j1 := n5.trans k1
        refine ixT (.of (j1 _ _ ha7)) rfl ?_
        refine ⟨by decide, fun r2 hr2 => ?_⟩
        have k2 := ex_upd (o := .tup [.non, .int (reM w k f y l).2]) hr2
        refine catT_use (Evl.ex_t k2 g1) (.of upd_same) (by rw [List.length_take, hlen]; show 4 + 2 ≤ 100000; decide) fun r3 N3 k3 g3 => ?_
        have c4 : Bad K w step N3 (.ref r3) := .tup g3 (fun x hx => by
          rcases List.mem_append.mp hx with h | h
          · exact hscs x (List.mem_of_mem_take h)
          · simp only [List.mem_cons, List.mem_nil_iff, or_false] at h
            rcases h with rfl | rfl
            · exact .non
            · exact .int _) (fun h => by
          have := (isL_in (k := .str k.s) (f := .int f) (s := .int y) (l := .int l) (o := .non) (t := .int (reM w k f y l).2) hw2 h).2.2.1
          cases this)
        have k13 := k1.trans (k2.trans k3)
        have n6 := n5.trans k13
        -- state[:5] + (full,)
        refine slA_use (.of (n6 _ _ ha7)) fun r4 N4 k4 g4 => ?_
        rw [show (some (5 : Int)) = some ((5 : Nat) : Int) from rfl, cut_to] at g4
        refine ⟨by decide, fun r5 hr5 => ?_⟩
        have k5 := ex_upd (o := .tup [.int (2 ^ w)]) hr5
        refine catT_use (Evl.ex_t k5 g4) (.of upd_same) (by rw [List.length_take, hlen]; show 5 + 1 ≤ 100000; decide) fun r6 N6 k6 g6 => ?_
        have c6 : Bad K w step N6 (.ref r6) := .tup g6 (fun x hx => by
          rcases List.mem_append.mp hx with h | h
          · exact hscs x (List.mem_of_mem_take h)
          · rw [List.mem_singleton.mp h]; exact .int _) (fun h => by
          have := (isL_in (k := .str k.s) (f := .int f) (s := .int y) (l := .int l) (o := .int (reM w k f y l).1) (t := .int (2 ^ w)) hw2 h).2.2.2.1
          obtain ⟨i', e, a, b, _⟩ := btw_iff.mp this
          cases e; omega)
        have k46 := k4.trans (k5.trans k6)
        have n7 := n6.trans k46
        -- (None,) + state[1:]
        refine ⟨by decide, fun r7 hr7 => ?_⟩
        have k7 := ex_upd (o := .tup [.non]) hr7
        have v7 : upd N6 r7 (.tup [.non]) r7 = _ := upd_same
        generalize upd N6 r7 (.tup [.non]) = N7 at k7 v7 ⊢
        have n7' := n7.trans k7
        refine slA_use (.of (n7' _ _ ha7)) fun r8 N8 k8 g8 => ?_
        rw [show (some (1 : Int)) = some ((1 : Nat) : Int) from rfl, cut_from] at g8
        refine catT_use (.of (k8 _ _ v7)) g8 (by rw [List.length_drop, hlen]; decide) fun r9 N9 k9 g9 => ?_
        have c9 : Bad K w step N9 (.ref r9) := .tup g9 (fun x hx => by
          rcases List.mem_append.mp hx with h | h
          · rw [List.mem_singleton.mp h]; exact .non
          · exact hscs x (List.mem_of_mem_drop h)) (fun h => by
          rcases isL_head h with e | ⟨kk, e⟩ <;> cases e)
        have k79 := k7.trans (k8.trans k9)
        have n9 := n7.trans k79
        -- ('none', 0, 0, 0, 0, False)
        refine ⟨by decide, fun r10 hr10 => ?_⟩
        have c10 : Bad K w step (upd N9 r10 (.tup [.str (Str.ofString "none"), .int 0, .int 0, .int 0, .int 0, .bl false])) (.ref r10) := .tup (.of upd_same) (fun x hx => by
          simp only [List.mem_cons, List.mem_nil_iff, or_false] at hx
          rcases hx with rfl | rfl | rfl | rfl | rfl | rfl
          · exact .str _ (by decide +kernel)
          · exact .int _
          · exact .int _
          · exact .int _
          · exact .int _
          · exact .bl _) (fun h => by
          have := (isL_in hw2 h).2.2.2.1
          cases this)
        have k10 := ex_upd (o := .tup [.str (Str.ofString "none"), .int 0, .int 0, .int 0, .int 0, .bl false]) hr10
        generalize upd N9 r10 (.tup [.str (Str.ofString "none"), .int 0, .int 0, .int 0, .int 0, .bl false]) = N10 at c10 k10 ⊢
        refine ⟨by decide, fun L3 hL3 => ?_⟩
        have k11 := ex_upd (o := .lst [.ref r3, .ref r6, .ref r9, .ref r10]) hL3
        have k511 := k13.trans (k46.trans (k79.trans (k10.trans k11)))
        refine ⟨L2, L3, vs2, _, rfl, rfl, k511 _ _ w2, upd_same, by rw [sizeLine_eq]; show vs2.length + 4 ≤ _; omega, fun L4 hL4 => ?_⟩
        have k12 := ex_upd (o := .lst (vs2 ++ [.ref r3, .ref r6, .ref r9, .ref r10])) hL4
        have w4 : upd (upd N10 L3 (.lst [.ref r3, .ref r6, .ref r9, .ref r10])) L4 (.lst (vs2 ++ [.ref r3, .ref r6, .ref r9, .ref r10])) L4 = _ := upd_same
        have k512 := k511.trans k12
        have o4 : ∀ v ∈ vs2 ++ [.ref r3, .ref r6, .ref r9, .ref r10], Bad K w step (upd (upd N10 L3 (.lst [.ref r3, .ref r6, .ref r9, .ref r10])) L4 (.lst (vs2 ++ [.ref r3, .ref r6, .ref r9, .ref r10]))) v := by
          intro v hv
          rcases List.mem_append.mp hv with h | h
          · exact (o2 v h).ex k512
          · simp only [List.mem_cons, List.mem_nil_iff, or_false] at h
            rcases h with rfl | rfl | rfl | rfl
            · exact c4.ex (k46.trans (k79.trans (k10.trans (k11.trans k12))))
            · exact c6.ex (k79.trans (k10.trans (k11.trans k12)))
            · exact c9.ex (k10.trans (k11.trans k12))
            · exact c10.ex (k11.trans k12)
        generalize upd (upd N10 L3 (.lst [.ref r3, .ref r6, .ref r9, .ref r10])) L4 (.lst (vs2 ++ [.ref r3, .ref r6, .ref r9, .ref r10])) = N12 at w4 k512 o4 ⊢
        have hl4 : (vs2 ++ [V.ref r3, .ref r6, .ref r9, .ref r10]).length ≤ 17 := by rw [List.length_append]; show vs2.length + 4 ≤ 17; omega
        generalize vs2 ++ [V.ref r3, .ref r6, .ref r9, .ref r10] = vs4 at w4 o4 hl4
        have n12 := n5.trans k512
        walk_at "rs"
        refine ⟨⟨_, .of w4⟩, fun D hD => ?_⟩
        refine lc_go (walk_list (xs := vs4)) (fun _ => false) (fun _ => .non) (by omega) hD (fun H' e => .of (e _ _ w4)) ?_ ?_
        · rintro i v H' H2' hi e ⟨rfl, hv⟩ Qe Qn qe qn
          obtain ⟨o, ho, hsc, hn⟩ := (o4 v (List.mem_of_getElem? hv)).ex e
          walk_at "rs"
          refine ⟨w, step, v, o, rfl, by omega, hw2, hs1, hs2, ho, hsc, fun c H3' e3 hc => ?_⟩
          have : c = false := by
            cases c with
            | false => rfl
            | true => exact absurd (hc.mp rfl) hn
          subst this
          walk_at "rs"
          exact qn _ e3 rfl
        intro N13 k13' l13
        rw [kept_none] at l13
        walk_at "rs"
        refine ⟨by decide, fun p14 hp14 => ?_⟩
        have k14 := ex_upd (o := .lst []) hp14
        refine neD (d := .list []) (e := .list []) (.lst (.of (k14 _ _ l13)) .nil) (.lst (.of upd_same) .nil) (sh_lst []) (sh_lst []) (b := true) rfl ?_
        have n14 := n12.trans (k13'.trans k14)
        generalize upd N13 p14 (.lst []) = N14 at n14 ⊢
        walk_at "rs"
        refine ⟨w, step, _, some _, rfl, by omega, hw2, hs1, hs2, ⟨a, rfl, .of (n14 _ _ ha7)⟩, fun xs e => (by cases e; exact hscs), fun c N15 k15 hc => ?_⟩
        have : c = true := hc.mpr ⟨_, hl6, rfl⟩
        subst this
        have n15 := n14.trans k15
        walk_at "rs"
        refine ⟨by decide, fun s1 hs1' => ?_⟩
        have n16 := n15.trans (ex_upd (o := .tup [.str (Str.ofString "stop")]) hs1')
        have us : upd N15 s1 (.tup [.str (Str.ofString "stop")]) s1 = _ := upd_same
        generalize upd N15 s1 (.tup [.str (Str.ofString "stop")]) = N16 at n16 us ⊢
        have d16 := g7.2.ex n16
        refine ⟨d, w, rfl, d16, by omega, hw2, fun v2 k2 f2 y2 N17 g17 d17 hv2 hi2 => ?_⟩
        refine ⟨by decide, fun s2 hs2' => ?_⟩
        have x18 := ex_upd (o := .tup [.non, .ref s1, v2]) hs2'
        have u18 : upd N17 s2 (.tup [.non, .ref s1, v2]) s2 = _ := upd_same
        generalize upd N17 s2 (.tup [.non, .ref s1, v2]) = N18 at x18 u18 ⊢
        have d18 := d17.ex x18
        have gg : ExD d H7 N18 := (ExD.of n16).trans (g17.trans (ExD.of x18))
        have ha18 : N18 a = some (.tup (LSt.vs w (.run k f y l))) := gg _ _ na ha7
        have hasks : ∀ (i : Nat) (v : V), ([.non, .ref s1, v2] : List V)[i]? = some v → ∃ x, AskAt K N18 v x ∧ AIn w x := by
          intro i v hv
          match i, hv with
          | 0, hv => cases hv; exact ⟨.non, rfl, trivial⟩
          | 1, hv =>
            cases hv
            refine ⟨.stop, ⟨s1, rfl, .of (x18 _ _ (g17 _ _ ?_ us))⟩, trivial⟩
            intro z
            obtain ⟨l, m, n, _, _, _, hh⟩ := d16
            rw [z, hh] at us; cases us
          | 2, hv => cases hv; exact ⟨_, hv2.ex x18, hi2⟩
        refine ⟨⟨_, .of u18⟩, lpT (xs := [.non, .ref s1, v2]) (fun _ σ H' => Ex N18 H' ∧ ∃ t10, σ = [some (.ref d), some (.int w), some (.int step), some (.ref a), some (.int (2 ^ w)), t5, t6, t7, t8, some (.ref L4), t10]) ⟨Ex.refl _, none, rfl⟩ (fun i σ' H' _ h => .of (h.1 _ _ u18)) ?_ ?_⟩
        · rintro i v σ N19 hv ⟨x19, t10, rfl⟩
          obtain ⟨x, hax, hix⟩ := hasks i v hv
          have hst : StAt K N19 w (.ref a) (.run k f y l) := ⟨a, rfl, .of (x19 _ _ ha18)⟩
          have hax := hax.ex x19
          walk_at "rs"
          refine ⟨w, step, _, v, _, x, rfl, by omega, hw2, hs1, hs2, hst, hl6, hax, hix, fun r1 N20 x20 b20 => ?_⟩
          refine ⟨w, step, _, v, _, x, rfl, by omega, hw2, hs1, hs2, fun _ => ⟨hst.ex x20, hl6⟩, hax.ex x20, hix, fun r2 N21 x21 b21 => ?_⟩
          refine neSelf (dp_bt (b20.ex x21)) (dp_bt b21.at) sh_bt ?_
          walk_at "rs"
          exact x19.trans (x20.trans x21)
        · rintro σ N19 ⟨x19, t10, rfl⟩
          walk_at "rs"
          exact q _ (e6'.trans (g7.1.trans (gg.trans (ExD.of x19)))) (d18.ex x19)
def sp_law (K : PySem.W.Frag) : Sp := fun vs H Q _ => ∃ (a : Addr) (ns : List Int), vs = [.ref a] ∧ SqL K H a (ns.map V.int) ∧ ns.length ≤ 63 ∧ ∀ H', Q (.bl true) H'
set_option maxHeartbeats 4000000 in
theorem ok_law (T : Txt K mg) : FnOk P w K mg base CX0 8 T.f_law T.d_law P_law (sp_law K) := by
  have G_law_dice := ok_law_dice (P := P) (w := w) (base := base) T
  have G_is_long := ok_is_long (P := P) (w := w) (base := base) T
  have G_law_small_right := ok_law_small_right (P := P) (w := w) (base := base) T
  have G_law_great_right := ok_law_great_right (P := P) (w := w) (base := base) T
  have G_law_roll := ok_law_roll (P := P) (w := w) (base := base) T
  refine T.F_law.ok sc_law (fun vs H Q E h => ?_) (fun cdv A outer s H vs Q E hr h => ?_)
  · obtain ⟨a, ns, rfl, _⟩ := h; rfl
  · obtain ⟨a, ns, rfl, hS, hn, q⟩ := h
    refine ⟨_, (pss_cons (ps_for PassesOwn.never rfl (pi_range1 (by rfl) T.n_range (pa_cons (pe_callB (call_max2 rfl) (by rfl) T.n_max (by decide +kernel) (pa_cons pe_int (pa_cons (pe_callB (call_min2 rfl) (by rfl) T.n_min (by decide +kernel) (pa_cons pe_int (pa_cons (pe_callB call_len_seq (by rfl) T.n_len (by decide +kernel) (pa_cons (pv 0) pa_nil)) pa_nil))) pa_nil))) pa_nil)) (pg_name (i := 1) sc_law.nd rfl (Or.inl rfl)) (pss_cons (ps_set (i := 2) sc_law.nd rfl (Or.inl rfl) (pe_call G_law_dice (hr.mono (by decide)) (by rfl) T.m_law_dice T.F_law_dice.kp T.b_law_dice .nil pass0 (pa_cons (pv 0) (pa_cons (pv 1) pa_nil))))
      (pss_cons (ps_if (pt_not (pt_val (pe_call G_law_small_right (hr.mono (by decide)) (by rfl) T.m_law_small_right T.F_law_small_right.kp T.b_law_small_right .nil pass0 (pa_cons (pv 2) (pa_cons (pe_op op_add pe_int (pe_call G_law_roll (hr.mono (by decide)) (by rfl) T.m_law_roll T.F_law_roll.kp T.b_law_roll .nil pass0 (pa_cons (pv 2) (pa_cons pe_int pa_nil)))) (pa_cons (pe_op op_add pe_int (pe_call G_law_roll (hr.mono (by decide)) (by rfl) T.m_law_roll T.F_law_roll.kp T.b_law_roll .nil pass0 (pa_cons (pv 2) (pa_cons pe_int pa_nil)))) pa_nil)))))) (pss_one (ps_ret pe_bl)) pss_nil)
      (pss_one (ps_for PassesOwn.never rfl (pi_range1 (by rfl) T.n_range (pa_cons pe_int pa_nil)) (pg_name (i := 3) sc_law.nd rfl (Or.inl rfl)) (pss_one (ps_if (pt_not (pt_val (pe_call G_law_great_right (hr.mono (by decide)) (by rfl) T.m_law_great_right T.F_law_great_right.kp T.b_law_great_right .nil pass0 (pa_cons (pv 2) pa_nil)))) (pss_one (ps_ret pe_bl)) pss_nil)))))))
      (pss_cons (ps_set (i := 4) sc_law.nd rfl (Or.inl rfl) (pe_lst (pa_cons (pe_tup (pa_cons pe_str (pa_cons pe_int (pa_cons pe_int (pa_cons pe_int (pa_cons pe_int (pa_cons pe_int pa_nil))))))) (pa_cons (pe_tup (pa_cons pe_str (pa_cons pe_int (pa_cons pe_int (pa_cons pe_int (pa_cons pe_int (pa_cons pe_int pa_nil))))))) (pa_cons (pe_tup (pa_cons pe_str (pa_cons pe_int (pa_cons pe_int (pa_cons pe_int (pa_cons pe_int (pa_cons pe_int pa_nil))))))) (pa_cons (pe_tup (pa_cons pe_str (pa_cons pe_int (pa_cons pe_int (pa_cons pe_int (pa_cons pe_int (pa_cons pe_int pa_nil))))))) pa_nil))))))
      (pss_cons (ps_set (i := 4) sc_law.nd rfl (Or.inl rfl) (pe_op op_cat (pv 4) (pe_lst (pa_cons (pe_tup (pa_cons pe_str (pa_cons pe_int (pa_cons pe_int (pa_cons pe_int (pa_cons pe_int (pa_cons pe_int pa_nil))))))) (pa_cons (pe_tup (pa_cons pe_str (pa_cons pe_int (pa_cons pe_int (pa_cons pe_int (pa_cons pe_int (pa_cons pe_int pa_nil))))))) (pa_cons (pe_tup (pa_cons pe_str (pa_cons pe_int (pa_cons pe_int (pa_cons pe_int (pa_cons pe_int (pa_cons pe_int pa_nil))))))) pa_nil))))))
      (pss_cons (ps_if (pt_cmpR (op_neD hr.units) (pe_lc (own := [("value", 5)]) (g := gName 5) (by rfl) sc_law.nd (pi_list (pv 4)) (blkOk_by (own := [("value", 5)]) (N := N_law) (sc := defScope s_law) (by decide +kernel)) (fun _ _ _ _ _ => (pg_name (i := 5) sc_law.nd rfl (by first | exact Or.inl rfl | exact Or.inr rfl))) (fun _ _ _ _ _ => pts_one (pt_val (pe_call G_is_long (hr.mono (by decide)) (by rfl) T.m_is_long T.F_is_long.kp T.b_is_long .nil pass0 (pa_cons pe_int (pa_cons pe_int (pa_cons (pv 5) pa_nil)))))) (fun _ _ _ _ _ => (pv 5))) (pe_lst pa_nil) (nomark _)) (pss_one (ps_ret pe_bl)) pss_nil)
      (pss_one (ps_ret (pe_and (pe_call G_is_long (hr.mono (by decide)) (by rfl) T.m_is_long T.F_is_long.kp T.b_is_long .nil pass0 (pa_cons pe_int (pa_cons pe_int (pa_cons (pe_tup (pa_cons pe_str (pa_cons pe_int (pa_cons pe_int (pa_cons pe_int (pa_cons pe_int (pa_cons pe_int pa_nil))))))) pa_nil)))) (pe_one (pe_not (pe_call G_is_long (hr.mono (by decide)) (by rfl) T.m_is_long T.F_is_long.kp T.b_is_long .nil pass0 (pa_cons pe_int (pa_cons pe_int (pa_cons (pe_tup (pa_cons pe_str (pa_cons pe_int (pa_cons pe_int (pa_cons pe_int (pa_cons pe_int (pa_cons pe_int pa_nil))))))) pa_nil))))))))))))), ?_⟩
    walk_at "rs"
    refine ⟨_, .inl hS, ?_⟩
    rw [List.length_map]
    obtain ⟨c, hc, hc4⟩ : ∃ c : Nat, (if (if (ns.length : Int) < 3 then (ns.length : Int) else 3) > 1 then if (ns.length : Int) < 3 then (ns.length : Int) else 3 else 1) = (c : Int) ∧ c ≤ 64 := by
      by_cases h1 : (ns.length : Int) < 3
      · rw [if_pos h1]
        by_cases h2 : (ns.length : Int) > 1
        · exact ⟨ns.length, by rw [if_pos h2], by omega⟩
        · exact ⟨1, by rw [if_neg h2]; rfl, by omega⟩
      · rw [if_neg h1]
        exact ⟨3, by rw [if_pos (by decide)]; rfl, by omega⟩
    rw [hc]
    refine ⟨by omega, by omega, ?_⟩
    rw [Int.toNat_natCast]
    refine lpR c (fun k σ H' => Ex H H' ∧ ∃ t1 t2 t3, σ = [some (.ref a), t1, t2, t3, none, none]) ⟨Ex.refl _, none, none, none, rfl⟩ ?_ ?_
    · rintro k σ H1 hk ⟨e1, t1, t2, t3, rfl⟩
      walk_at "rd"
      refine ⟨a, ns, k, rfl, e1.seq hS, by omega, fun l m d hl hm hd => ?_⟩
      walk_at "rd"
      refine ⟨d, _, rfl, dice_upd hl hm (by decide), by decide, by decide +kernel, fun w0 x y z w00 w01 hx hy hz => ?_⟩
      have e2 := e1.trans (ex_upd (o := dice3 l m 0) hd)
      have hdn : H d = none := e1.fresh hd
      obtain ⟨w, hw, hw1, hw2⟩ : ∃ n : Nat, (1 + w0 : Int) = n ∧ 1 ≤ n ∧ n ≤ 2 := ⟨(1 + w0).toNat, by omega, by omega, by omega⟩
      have d2 : DiceAt (upd (upd H1 d (dice3 l m 0)) d (dice3 x y z)) d := dice_upd hx hy hz
      have e2 : Ex H (upd (upd H1 d (dice3 l m 0)) d (dice3 x y z)) := e2.mut hdn
      generalize upd (upd H1 d (dice3 l m 0)) d (dice3 x y z) = H2 at d2 e2 ⊢
      refine ⟨w0, rfl, d, _, rfl, d2, by decide, by decide +kernel, fun s0 x y z s00 s01 hx hy hz => ?_⟩
      obtain ⟨step, hs, hs1, hs2⟩ : ∃ n : Nat, (1 + s0 : Int) = n ∧ 1 ≤ n ∧ n ≤ 4 := ⟨(1 + s0).toNat, by omega, by omega, by omega⟩
      have d3 : DiceAt (upd H2 d (dice3 x y z)) d := dice_upd hx hy hz
      have e3 : Ex H (upd H2 d (dice3 x y z)) := e2.mut hdn
      generalize upd H2 d (dice3 x y z) = H3 at d3 e3 ⊢
      refine ⟨s0, rfl, ?_⟩
      rw [hw, hs]
      refine ⟨d, w, step, rfl, d3, hw1, hw2, hs1, hs2, fun H4 g4 d4 => ?_⟩
      walk_at "rs"
      have tr : ∀ {Ha Hb : Hp}, Ex H Ha → ExD d Ha Hb → Ex H Hb := fun e g b o h => g b o (ne_of_none h hdn) (e b o h)
      refine ⟨by decide, by decide, lpR 4 (fun j σ H' => Ex H H' ∧ DiceAt H' d ∧ ∃ t3, σ = [some (.ref a), some (.int k), some (.ref d), t3, none, none]) ⟨tr e3 g4, d4, _, rfl⟩ ?_ ?_⟩
      · rintro j σ H2 hj ⟨e2, d2, t3, rfl⟩
        walk_at "rd"
        refine ⟨d, rfl, d2, fun H3 e3 d3 => ?_⟩
        walk_at "rd"
        exact ⟨tr e2 e3, d3⟩
      · rintro σ H2 ⟨e2, d2, t3, rfl⟩
        walk_at "rd"
        exact e2
    · rintro σ H1 ⟨e1, t1, t2, t3, rfl⟩
      walk_at "rs"
      refine ⟨by decide, fun p0 hp0 => ?_⟩
      have x0 := ex_upd (o := .tup [.str (Str.ofString "times"), .int 1, .int 16, .int 4, .int 0, .int 0]) hp0
      have b0 : Bad K 4 1 (upd H1 p0 (.tup [.str (Str.ofString "times"), .int 1, .int 16, .int 4, .int 0, .int 0])) (.ref p0) := .tup (.of upd_same) (sc6 _ (by decide +kernel) _ _ _ _ _) (fun h => by have := (isL_in (by decide) h).2.1; exact absurd this (by decide +kernel))
      generalize upd H1 p0 (.tup [.str (Str.ofString "times"), .int 1, .int 16, .int 4, .int 0, .int 0]) = G1 at x0 b0 ⊢
      refine ⟨by decide, fun p1 hp1 => ?_⟩
      have x1 := ex_upd (o := .tup [.str (Str.ofString "times"), .int 16, .int 1, .int 4, .int 0, .int 1]) hp1
      have b1 : Bad K 4 1 (upd G1 p1 (.tup [.str (Str.ofString "times"), .int 16, .int 1, .int 4, .int 0, .int 1])) (.ref p1) := .tup (.of upd_same) (sc6 _ (by decide +kernel) _ _ _ _ _) (fun h => by have := (isL_in (by decide) h).1; exact absurd this (by decide +kernel))
      generalize upd G1 p1 (.tup [.str (Str.ofString "times"), .int 16, .int 1, .int 4, .int 0, .int 1]) = G2 at x1 b1 ⊢
      refine ⟨by decide, fun p2 hp2 => ?_⟩
      have x2 := ex_upd (o := .tup [.str (Str.ofString "part"), .int 16, .int 3, .int 4, .int 0, .int 0]) hp2
      have b2 : Bad K 4 1 (upd G2 p2 (.tup [.str (Str.ofString "part"), .int 16, .int 3, .int 4, .int 0, .int 0])) (.ref p2) := .tup (.of upd_same) (sc6 _ (by decide +kernel) _ _ _ _ _) (fun h => by have := (isL_in (by decide) h).1; exact absurd this (by decide +kernel))
      generalize upd G2 p2 (.tup [.str (Str.ofString "part"), .int 16, .int 3, .int 4, .int 0, .int 0]) = G3 at x2 b2 ⊢
      refine ⟨by decide, fun p3 hp3 => ?_⟩
      have x3 := ex_upd (o := .tup [.str (Str.ofString "part"), .int 3, .int 16, .int 4, .int 0, .int 3]) hp3
      have b3 : Bad K 4 1 (upd G3 p3 (.tup [.str (Str.ofString "part"), .int 3, .int 16, .int 4, .int 0, .int 3])) (.ref p3) := .tup (.of upd_same) (sc6 _ (by decide +kernel) _ _ _ _ _) (fun h => by have := (isL_in (by decide) h).2.1; exact absurd this (by decide +kernel))
      generalize upd G3 p3 (.tup [.str (Str.ofString "part"), .int 3, .int 16, .int 4, .int 0, .int 3]) = G4 at x3 b3 ⊢
      refine ⟨by decide, fun L hL => ?_⟩
      have xL := ex_upd (o := .lst [.ref p0, .ref p1, .ref p2, .ref p3]) hL
      have uL : upd G4 L (.lst [.ref p0, .ref p1, .ref p2, .ref p3]) L = _ := upd_same
      generalize upd G4 L (.lst [.ref p0, .ref p1, .ref p2, .ref p3]) = G5 at xL uL ⊢
      walk_at "rs"
      refine ⟨by decide, fun p4 hp4 => ?_⟩
      have x4 := ex_upd (o := .tup [.str (Str.ofString "rest"), .int 3, .int 16, .int 0, .int 3, .int 0]) hp4
      have b4 : Bad K 4 1 (upd G5 p4 (.tup [.str (Str.ofString "rest"), .int 3, .int 16, .int 0, .int 3, .int 0])) (.ref p4) := .tup (.of upd_same) (sc6 _ (by decide +kernel) _ _ _ _ _) (fun h => by have := (isL_in (by decide) h).2.1; exact absurd this (by decide +kernel))
      generalize upd G5 p4 (.tup [.str (Str.ofString "rest"), .int 3, .int 16, .int 0, .int 3, .int 0]) = G6 at x4 b4 ⊢
      refine ⟨by decide, fun p5 hp5 => ?_⟩
      have x5 := ex_upd (o := .tup [.str (Str.ofString "times"), .int 3, .int 5, .int 0, .int 31, .int 0]) hp5
      have b5 : Bad K 4 1 (upd G6 p5 (.tup [.str (Str.ofString "times"), .int 3, .int 5, .int 0, .int 31, .int 0])) (.ref p5) := .tup (.of upd_same) (sc6 _ (by decide +kernel) _ _ _ _ _) (fun h => by have := (isL_in (by decide) h).2.2.1; exact absurd this (by decide +kernel))
      generalize upd G6 p5 (.tup [.str (Str.ofString "times"), .int 3, .int 5, .int 0, .int 31, .int 0]) = G7 at x5 b5 ⊢
      refine ⟨by decide, fun p6 hp6 => ?_⟩
      have x6 := ex_upd (o := .tup [.str (Str.ofString "part"), .int 13, .int 3, .int 3, .int 1, .int 26]) hp6
      have b6 : Bad K 4 1 (upd G7 p6 (.tup [.str (Str.ofString "part"), .int 13, .int 3, .int 3, .int 1, .int 26])) (.ref p6) := .tup (.of upd_same) (sc6 _ (by decide +kernel) _ _ _ _ _) (fun h => by have := (isL_in (by decide) h).2.2.2.1; exact absurd this (by decide +kernel))
      generalize upd G7 p6 (.tup [.str (Str.ofString "part"), .int 13, .int 3, .int 3, .int 1, .int 26]) = G8 at x6 b6 ⊢
      refine ⟨by decide, fun M hM => ?_⟩
      have xM := ex_upd (o := .lst [.ref p4, .ref p5, .ref p6]) hM
      refine ⟨L, M, _, _, rfl, rfl, xM _ _ (x6 _ _ (x5 _ _ (x4 _ _ uL))), upd_same, (show 7 ≤ sizeLine by decide), fun L2 hL2 => ?_⟩
      have xN := ex_upd (o := .lst ([.ref p0, .ref p1, .ref p2, .ref p3] ++ [.ref p4, .ref p5, .ref p6])) hL2
      have uN : upd (upd G8 M (.lst [.ref p4, .ref p5, .ref p6])) L2 (.lst ([.ref p0, .ref p1, .ref p2, .ref p3] ++ [.ref p4, .ref p5, .ref p6])) L2 = some (.lst [.ref p0, .ref p1, .ref p2, .ref p3, .ref p4, .ref p5, .ref p6]) := upd_same
      have xMN := xM.trans xN
      generalize upd (upd G8 M (.lst [.ref p4, .ref p5, .ref p6])) L2 (.lst ([.ref p0, .ref p1, .ref p2, .ref p3] ++ [.ref p4, .ref p5, .ref p6])) = G9 at uN xMN ⊢
      have o9 : ∀ v ∈ [V.ref p0, .ref p1, .ref p2, .ref p3, .ref p4, .ref p5, .ref p6], Bad K 4 1 G9 v := by
        intro v hv
        have z6 := x6.trans xMN
        have z5 := x5.trans z6
        have z4 := x4.trans z5
        have zL := xL.trans z4
        have z3 := x3.trans zL
        have z2 := x2.trans z3
        have z1 := x1.trans z2
        simp only [List.mem_cons, List.mem_nil_iff, or_false] at hv
        rcases hv with rfl | rfl | rfl | rfl | rfl | rfl | rfl
        · exact b0.ex z1
        · exact b1.ex z2
        · exact b2.ex z3
        · exact b3.ex zL
        · exact b4.ex z5
        · exact b5.ex z6
        · exact b6.ex xMN
      walk_at "rs"
      refine ⟨⟨_, .of uN⟩, fun D hD => ?_⟩
      refine lc_go (walk_list (xs := [V.ref p0, .ref p1, .ref p2, .ref p3, .ref p4, .ref p5, .ref p6])) (fun _ => false) (fun _ => .non) (show 7 ≤ 50000 by decide) hD (fun H' e => .of (e _ _ uN)) ?_ ?_
      · rintro i v H' H2' hi e ⟨rfl, hv⟩ Qe Qn qe qn
        obtain ⟨o, ho, hsc, hn⟩ := (o9 v (List.mem_of_getElem? hv)).ex e
        walk_at "rs"
        refine ⟨4, 1, v, o, rfl, by decide, by decide, by decide, by decide, ho, hsc, fun c H3' e3 hc => ?_⟩
        have : c = false := by
          cases c with
          | false => rfl
          | true => exact absurd (hc.mp rfl) hn
        subst this
        walk_at "rs"
        exact qn _ e3 rfl
      intro G10 x10 l10
      rw [kept_none] at l10
      walk_at "rs"
      refine ⟨by decide, fun p14 hp14 => ?_⟩
      have k14 := ex_upd (o := .lst []) hp14
      refine neD (d := .list []) (e := .list []) (.lst (.of (k14 _ _ l10)) .nil) (.lst (.of upd_same) .nil) (sh_lst []) (sh_lst []) (b := true) rfl ?_
      generalize upd G10 p14 (.lst []) = G11
      walk_at "rs"
      refine ⟨by decide, fun r1 hr1 => ?_⟩
      refine ⟨4, 2, _, some _, rfl, by decide, by decide, by decide, by decide, ⟨r1, rfl, .of upd_same⟩, fun xs e => (by cases e; exact sc6 _ (by decide +kernel) _ _ _ _ _), fun c G12 y12 hc => ?_⟩
      have : c = true := hc.mpr ⟨.run .part 13 3 2, (by show (0 : Int) ≤ 13 ∧ (13 : Int) < 2 ^ 4 ∧ (0 : Int) ≤ 3 ∧ (3 : Int) < 2 ^ 4 ∧ 2 ≤ 4 ∧ (0 < 2 → (4 - 2) % 2 = 0); decide), by decide +kernel⟩
      subst this
      walk_at "rs"
      refine ⟨by decide, fun r2 hr2 => ?_⟩
      refine ⟨4, 3, _, some _, rfl, by decide, by decide, by decide, by decide, ⟨r2, rfl, .of upd_same⟩, fun xs e => (by cases e; exact sc6 _ (by decide +kernel) _ _ _ _ _), fun c G13 y13 hc => ?_⟩
      have : c = false := by
        cases c with
        | false => rfl
        | true =>
          exfalso
          obtain ⟨st, hst, e⟩ := hc.mp rfl
          cases st with
          | idle => simp only [LSt.vs, Option.some.injEq, List.cons.injEq, V.str.injEq, ofStr_inj] at e; exact absurd e.1 (by decide)
          | run kk f s l =>
            simp only [LSt.vs, Option.some.injEq, List.cons.injEq, V.int.injEq] at e
            have e4 := e.2.2.2.1
            have : l = 2 := by omega
            subst this
            exact absurd (hst.2.2.2.2.2 (by decide)) (by decide)
      subst this
      walk_at "rs"
      exact q _

end
theorem all_mk {l : PySem.W.OpenLaw} {w : World} {K : PySem.W.Frag} {h : Heap} {mg : Str → Option Value} {fa : Addr} (X : K.In h) (G : h.Ns mainGlobals mg) (hfa : mg "law" = some (.ref fa))
    {f0 : Addr} {od0 an0 : Option Addr} {sl0 : Array (Option Value)} {oc0 kV0 dc0 pm0 cd0 ct0 : Value}
    {f1 : Addr} {od1 an1 : Option Addr} {sl1 : Array (Option Value)} {oc1 kV1 dc1 pm1 cd1 ct1 : Value}
    {f2 : Addr} {od2 an2 : Option Addr} {sl2 : Array (Option Value)} {oc2 kV2 dc2 pm2 cd2 ct2 : Value}
    {f3 : Addr} {od3 an3 : Option Addr} {sl3 : Array (Option Value)} {oc3 kV3 dc3 pm3 cd3 ct3 : Value}
    {f4 : Addr} {od4 an4 : Option Addr} {sl4 : Array (Option Value)} {oc4 kV4 dc4 pm4 cd4 ct4 : Value}
    {f5 : Addr} {od5 an5 : Option Addr} {sl5 : Array (Option Value)} {oc5 kV5 dc5 pm5 cd5 ct5 : Value}
    {f6 : Addr} {od6 an6 : Option Addr} {sl6 : Array (Option Value)} {oc6 kV6 dc6 pm6 cd6 ct6 : Value}
    {f7 : Addr} {od7 an7 : Option Addr} {sl7 : Array (Option Value)} {oc7 kV7 dc7 pm7 cd7 ct7 : Value}
    {f8 : Addr} {od8 an8 : Option Addr} {sl8 : Array (Option Value)} {oc8 kV8 dc8 pm8 cd8 ct8 : Value}
    {f9 : Addr} {od9 an9 : Option Addr} {sl9 : Array (Option Value)} {oc9 kV9 dc9 pm9 cd9 ct9 : Value}
    {f10 : Addr} {od10 an10 : Option Addr} {sl10 : Array (Option Value)} {oc10 kV10 dc10 pm10 cd10 ct10 : Value}
    {f11 : Addr} {od11 an11 : Option Addr} {sl11 : Array (Option Value)} {oc11 kV11 dc11 pm11 cd11 ct11 : Value}
    {f12 : Addr} {od12 an12 : Option Addr} {sl12 : Array (Option Value)} {oc12 kV12 dc12 pm12 cd12 ct12 : Value}
    {f13 : Addr} {od13 an13 : Option Addr} {sl13 : Array (Option Value)} {oc13 kV13 dc13 pm13 cd13 ct13 : Value}
    {f14 : Addr} {od14 an14 : Option Addr} {sl14 : Array (Option Value)} {oc14 kV14 dc14 pm14 cd14 ct14 : Value}
    {f15 : Addr} {od15 an15 : Option Addr} {sl15 : Array (Option Value)} {oc15 kV15 dc15 pm15 cd15 ct15 : Value}
    {f16 : Addr} {od16 an16 : Option Addr} {sl16 : Array (Option Value)} {oc16 kV16 dc16 pm16 cd16 ct16 : Value}
    {f17 : Addr} {od17 an17 : Option Addr} {sl17 : Array (Option Value)} {oc17 kV17 dc17 pm17 cd17 ct17 : Value}
    {f18 : Addr} {od18 an18 : Option Addr} {sl18 : Array (Option Value)} {oc18 kV18 dc18 pm18 cd18 ct18 : Value}
    {f19 : Addr} {od19 an19 : Option Addr} {sl19 : Array (Option Value)} {oc19 kV19 dc19 pm19 cd19 ct19 : Value}
    {f20 : Addr} {od20 an20 : Option Addr} {sl20 : Array (Option Value)} {oc20 kV20 dc20 pm20 cd20 ct20 : Value}
    {f21 : Addr} {od21 an21 : Option Addr} {sl21 : Array (Option Value)} {oc21 kV21 dc21 pm21 cd21 ct21 : Value}
    {f22 : Addr} {od22 an22 : Option Addr} {sl22 : Array (Option Value)} {oc22 kV22 dc22 pm22 cd22 ct22 : Value}
    {f23 : Addr} {od23 an23 : Option Addr} {sl23 : Array (Option Value)} {oc23 kV23 dc23 pm23 cd23 ct23 : Value}
    {f24 : Addr} {od24 an24 : Option Addr} {sl24 : Array (Option Value)} {oc24 kV24 dc24 pm24 cd24 ct24 : Value}
    {f25 : Addr} {od25 an25 : Option Addr} {sl25 : Array (Option Value)} {oc25 kV25 dc25 pm25 cd25 ct25 : Value}
    {f26 : Addr} {od26 an26 : Option Addr} {sl26 : Array (Option Value)} {oc26 kV26 dc26 pm26 cd26 ct26 : Value}
    {f27 : Addr} {od27 an27 : Option Addr} {sl27 : Array (Option Value)} {oc27 kV27 dc27 pm27 cd27 ct27 : Value}
    {uc_LEAST_TOO_LONG : Value}
    {uc_MAX_LONG : Value}
    {uc_MAX_STEP : Value}
    {uc_KINDS : Addr} {ob_KINDS : Obj} {its_KINDS : Array Value} {nn_KINDS : Nat}
    {uc_IDLE : Addr} {ob_IDLE : Obj} {its_IDLE : Array Value} {nn_IDLE : Nat}
    (a0 : PySem.W.nsIn K mainGlobals "is_integer" = some (some (.ref f0)))
    (l0 : K.lookup f0 = some ⟨oc0, od0, .func (PySem.W.fnOf "is_integer" "is_integer" (defArgs s_is_integer) (defBody s_is_integer) (defScope s_is_integer) .none kV0 dc0 pm0 an0 cd0 ct0), sl0⟩)
    (c0 : PySem.W.codeIn K cd0 "is_integer" = true) (k0 : PySem.W.keepIn K (.ref f0) = true)
    (a1 : PySem.W.nsIn K mainGlobals "is_between" = some (some (.ref f1)))
    (l1 : K.lookup f1 = some ⟨oc1, od1, .func (PySem.W.fnOf "is_between" "is_between" (defArgs s_is_between) (defBody s_is_between) (defScope s_is_between) .none kV1 dc1 pm1 an1 cd1 ct1), sl1⟩)
    (c1 : PySem.W.codeIn K cd1 "is_between" = true) (k1 : PySem.W.keepIn K (.ref f1) = true)
    (a2 : PySem.W.nsIn K mainGlobals "is_index" = some (some (.ref f2)))
    (l2 : K.lookup f2 = some ⟨oc2, od2, .func (PySem.W.fnOf "is_index" "is_index" (defArgs s_is_index) (defBody s_is_index) (defScope s_is_index) .none kV2 dc2 pm2 an2 cd2 ct2), sl2⟩)
    (c2 : PySem.W.codeIn K cd2 "is_index" = true) (k2 : PySem.W.keepIn K (.ref f2) = true)
    (a3 : PySem.W.nsIn K mainGlobals "is_word_of" = some (some (.ref f3)))
    (l3 : K.lookup f3 = some ⟨oc3, od3, .func (PySem.W.fnOf "is_word_of" "is_word_of" (defArgs s_is_word_of) (defBody s_is_word_of) (defScope s_is_word_of) .none kV3 dc3 pm3 an3 cd3 ct3), sl3⟩)
    (c3 : PySem.W.codeIn K cd3 "is_word_of" = true) (k3 : PySem.W.keepIn K (.ref f3) = true)
    (a4 : PySem.W.nsIn K mainGlobals "is_tuple_of" = some (some (.ref f4)))
    (l4 : K.lookup f4 = some ⟨oc4, od4, .func (PySem.W.fnOf "is_tuple_of" "is_tuple_of" (defArgs s_is_tuple_of) (defBody s_is_tuple_of) (defScope s_is_tuple_of) .none kV4 dc4 pm4 an4 cd4 ct4), sl4⟩)
    (c4 : PySem.W.codeIn K cd4 "is_tuple_of" = true) (k4 : PySem.W.keepIn K (.ref f4) = true)
    (a5 : PySem.W.nsIn K mainGlobals "plainly_made" = some (some (.ref f5)))
    (l5 : K.lookup f5 = some ⟨oc5, od5, .func (PySem.W.fnOf "plainly_made" "plainly_made" (defArgs s_plainly_made) (defBody s_plainly_made) (defScope s_plainly_made) .none kV5 dc5 pm5 an5 cd5 ct5), sl5⟩)
    (c5 : PySem.W.codeIn K cd5 "plainly_made" = true) (k5 : PySem.W.keepIn K (.ref f5) = true)
    (a6 : PySem.W.nsIn K mainGlobals "check_number" = some (some (.ref f6)))
    (l6 : K.lookup f6 = some ⟨oc6, od6, .func (PySem.W.fnOf "check_number" "check_number" (defArgs s_check_number) (defBody s_check_number) (defScope s_check_number) .none kV6 dc6 pm6 an6 cd6 ct6), sl6⟩)
    (c6 : PySem.W.codeIn K cd6 "check_number" = true) (k6 : PySem.W.keepIn K (.ref f6) = true)
    (a7 : PySem.W.nsIn K mainGlobals "check_long" = some (some (.ref f7)))
    (l7 : K.lookup f7 = some ⟨oc7, od7, .func (PySem.W.fnOf "check_long" "check_long" (defArgs s_check_long) (defBody s_check_long) (defScope s_check_long) .none kV7 dc7 pm7 an7 cd7 ct7), sl7⟩)
    (c7 : PySem.W.codeIn K cd7 "check_long" = true) (k7 : PySem.W.keepIn K (.ref f7) = true)
    (a8 : PySem.W.nsIn K mainGlobals "quotient_and_rest" = some (some (.ref f8)))
    (l8 : K.lookup f8 = some ⟨oc8, od8, .func (PySem.W.fnOf "quotient_and_rest" "quotient_and_rest" (defArgs s_quotient_and_rest) (defBody s_quotient_and_rest) (defScope s_quotient_and_rest) .none kV8 dc8 pm8 an8 cd8 ct8), sl8⟩)
    (c8 : PySem.W.codeIn K cd8 "quotient_and_rest" = true) (k8 : PySem.W.keepIn K (.ref f8) = true)
    (a9 : PySem.W.nsIn K mainGlobals "reached_words" = some (some (.ref f9)))
    (l9 : K.lookup f9 = some ⟨oc9, od9, .func (PySem.W.fnOf "reached_words" "reached_words" (defArgs s_reached_words) (defBody s_reached_words) (defScope s_reached_words) .none kV9 dc9 pm9 an9 cd9 ct9), sl9⟩)
    (c9 : PySem.W.codeIn K cd9 "reached_words" = true) (k9 : PySem.W.keepIn K (.ref f9) = true)
    (a10 : PySem.W.nsIn K mainGlobals "is_long_state" = some (some (.ref f10)))
    (l10 : K.lookup f10 = some ⟨oc10, od10, .func (PySem.W.fnOf "is_long_state" "is_long_state" (defArgs s_is_long_state) (defBody s_is_long_state) (defScope s_is_long_state) .none kV10 dc10 pm10 an10 cd10 ct10), sl10⟩)
    (c10 : PySem.W.codeIn K cd10 "is_long_state" = true) (k10 : PySem.W.keepIn K (.ref f10) = true)
    (a11 : PySem.W.nsIn K mainGlobals "is_long" = some (some (.ref f11)))
    (l11 : K.lookup f11 = some ⟨oc11, od11, .func (PySem.W.fnOf "is_long" "is_long" (defArgs s_is_long) (defBody s_is_long) (defScope s_is_long) .none kV11 dc11 pm11 an11 cd11 ct11), sl11⟩)
    (c11 : PySem.W.codeIn K cd11 "is_long" = true) (k11 : PySem.W.keepIn K (.ref f11) = true)
    (a12 : PySem.W.nsIn K mainGlobals "is_ask" = some (some (.ref f12)))
    (l12 : K.lookup f12 = some ⟨oc12, od12, .func (PySem.W.fnOf "is_ask" "is_ask" (defArgs s_is_ask) (defBody s_is_ask) (defScope s_is_ask) .none kV12 dc12 pm12 an12 cd12 ct12), sl12⟩)
    (c12 : PySem.W.codeIn K cd12 "is_ask" = true) (k12 : PySem.W.keepIn K (.ref f12) = true)
    (a13 : PySem.W.nsIn K mainGlobals "round_behind" = some (some (.ref f13)))
    (l13 : K.lookup f13 = some ⟨oc13, od13, .func (PySem.W.fnOf "round_behind" "round_behind" (defArgs s_round_behind) (defBody s_round_behind) (defScope s_round_behind) .none kV13 dc13 pm13 an13 cd13 ct13), sl13⟩)
    (c13 : PySem.W.codeIn K cd13 "round_behind" = true) (k13 : PySem.W.keepIn K (.ref f13) = true)
    (a14 : PySem.W.nsIn K mainGlobals "beat_behind" = some (some (.ref f14)))
    (l14 : K.lookup f14 = some ⟨oc14, od14, .func (PySem.W.fnOf "beat_behind" "beat_behind" (defArgs s_beat_behind) (defBody s_beat_behind) (defScope s_beat_behind) .none kV14 dc14 pm14 an14 cd14 ct14), sl14⟩)
    (c14 : PySem.W.codeIn K cd14 "beat_behind" = true) (k14 : PySem.W.keepIn K (.ref f14) = true)
    (a15 : PySem.W.nsIn K mainGlobals "long_beat" = some (some (.ref f15)))
    (l15 : K.lookup f15 = some ⟨oc15, od15, .func (PySem.W.fnOf "long_beat" "long_beat" (defArgs s_long_beat) (defBody s_long_beat) (defScope s_long_beat) .none kV15 dc15 pm15 an15 cd15 ct15), sl15⟩)
    (c15 : PySem.W.codeIn K cd15 "long_beat" = true) (k15 : PySem.W.keepIn K (.ref f15) = true)
    (a16 : PySem.W.nsIn K mainGlobals "_law_dice" = some (some (.ref f16)))
    (l16 : K.lookup f16 = some ⟨oc16, od16, .func (PySem.W.fnOf "_law_dice" "_law_dice" (defArgs s_law_dice) (defBody s_law_dice) (defScope s_law_dice) .none kV16 dc16 pm16 an16 cd16 ct16), sl16⟩)
    (c16 : PySem.W.codeIn K cd16 "_law_dice" = true) (k16 : PySem.W.keepIn K (.ref f16) = true)
    (a17 : PySem.W.nsIn K mainGlobals "_law_roll" = some (some (.ref f17)))
    (l17 : K.lookup f17 = some ⟨oc17, od17, .func (PySem.W.fnOf "_law_roll" "_law_roll" (defArgs s_law_roll) (defBody s_law_roll) (defScope s_law_roll) .none kV17 dc17 pm17 an17 cd17 ct17), sl17⟩)
    (c17 : PySem.W.codeIn K cd17 "_law_roll" = true) (k17 : PySem.W.keepIn K (.ref f17) = true)
    (a18 : PySem.W.nsIn K mainGlobals "_law_one_of" = some (some (.ref f18)))
    (l18 : K.lookup f18 = some ⟨oc18, od18, .func (PySem.W.fnOf "_law_one_of" "_law_one_of" (defArgs s_law_one_of) (defBody s_law_one_of) (defScope s_law_one_of) .none kV18 dc18 pm18 an18 cd18 ct18), sl18⟩)
    (c18 : PySem.W.codeIn K cd18 "_law_one_of" = true) (k18 : PySem.W.keepIn K (.ref f18) = true)
    (a19 : PySem.W.nsIn K mainGlobals "_law_two_to" = some (some (.ref f19)))
    (l19 : K.lookup f19 = some ⟨oc19, od19, .func (PySem.W.fnOf "_law_two_to" "_law_two_to" (defArgs s_law_two_to) (defBody s_law_two_to) (defScope s_law_two_to) .none kV19 dc19 pm19 an19 cd19 ct19), sl19⟩)
    (c19 : PySem.W.codeIn K cd19 "_law_two_to" = true) (k19 : PySem.W.keepIn K (.ref f19) = true)
    (a20 : PySem.W.nsIn K mainGlobals "_law_round" = some (some (.ref f20)))
    (l20 : K.lookup f20 = some ⟨oc20, od20, .func (PySem.W.fnOf "_law_round" "_law_round" (defArgs s_law_round) (defBody s_law_round) (defScope s_law_round) .none kV20 dc20 pm20 an20 cd20 ct20), sl20⟩)
    (c20 : PySem.W.codeIn K cd20 "_law_round" = true) (k20 : PySem.W.keepIn K (.ref f20) = true)
    (a21 : PySem.W.nsIn K mainGlobals "_law_beat" = some (some (.ref f21)))
    (l21 : K.lookup f21 = some ⟨oc21, od21, .func (PySem.W.fnOf "_law_beat" "_law_beat" (defArgs s_law_beat) (defBody s_law_beat) (defScope s_law_beat) .none kV21 dc21 pm21 an21 cd21 ct21), sl21⟩)
    (c21 : PySem.W.codeIn K cd21 "_law_beat" = true) (k21 : PySem.W.keepIn K (.ref f21) = true)
    (a22 : PySem.W.nsIn K mainGlobals "_law_begin_drawn" = some (some (.ref f22)))
    (l22 : K.lookup f22 = some ⟨oc22, od22, .func (PySem.W.fnOf "_law_begin_drawn" "_law_begin_drawn" (defArgs s_law_begin_drawn) (defBody s_law_begin_drawn) (defScope s_law_begin_drawn) .none kV22 dc22 pm22 an22 cd22 ct22), sl22⟩)
    (c22 : PySem.W.codeIn K cd22 "_law_begin_drawn" = true) (k22 : PySem.W.keepIn K (.ref f22) = true)
    (a23 : PySem.W.nsIn K mainGlobals "_law_all_states" = some (some (.ref f23)))
    (l23 : K.lookup f23 = some ⟨oc23, od23, .func (PySem.W.fnOf "_law_all_states" "_law_all_states" (defArgs s_law_all_states) (defBody s_law_all_states) (defScope s_law_all_states) .none kV23 dc23 pm23 an23 cd23 ct23), sl23⟩)
    (c23 : PySem.W.codeIn K cd23 "_law_all_states" = true) (k23 : PySem.W.keepIn K (.ref f23) = true)
    (a24 : PySem.W.nsIn K mainGlobals "_law_small_right" = some (some (.ref f24)))
    (l24 : K.lookup f24 = some ⟨oc24, od24, .func (PySem.W.fnOf "_law_small_right" "_law_small_right" (defArgs s_law_small_right) (defBody s_law_small_right) (defScope s_law_small_right) .none kV24 dc24 pm24 an24 cd24 ct24), sl24⟩)
    (c24 : PySem.W.codeIn K cd24 "_law_small_right" = true) (k24 : PySem.W.keepIn K (.ref f24) = true)
    (a25 : PySem.W.nsIn K mainGlobals "_law_is_state" = some (some (.ref f25)))
    (l25 : K.lookup f25 = some ⟨oc25, od25, .func (PySem.W.fnOf "_law_is_state" "_law_is_state" (defArgs s_law_is_state) (defBody s_law_is_state) (defScope s_law_is_state) .none kV25 dc25 pm25 an25 cd25 ct25), sl25⟩)
    (c25 : PySem.W.codeIn K cd25 "_law_is_state" = true) (k25 : PySem.W.keepIn K (.ref f25) = true)
    (a26 : PySem.W.nsIn K mainGlobals "_law_great_right" = some (some (.ref f26)))
    (l26 : K.lookup f26 = some ⟨oc26, od26, .func (PySem.W.fnOf "_law_great_right" "_law_great_right" (defArgs s_law_great_right) (defBody s_law_great_right) (defScope s_law_great_right) .none kV26 dc26 pm26 an26 cd26 ct26), sl26⟩)
    (c26 : PySem.W.codeIn K cd26 "_law_great_right" = true) (k26 : PySem.W.keepIn K (.ref f26) = true)
    (a27 : PySem.W.nsIn K mainGlobals "law" = some (some (.ref f27)))
    (l27 : K.lookup f27 = some ⟨oc27, od27, .func (PySem.W.fnOf "law" "law" (defArgs s_law) (defBody s_law) (defScope s_law) .none kV27 dc27 pm27 an27 cd27 ct27), sl27⟩)
    (c27 : PySem.W.codeIn K cd27 "law" = true) (k27 : PySem.W.keepIn K (.ref f27) = true)
    (z_abs : PySem.W.nsIn K mainGlobals "abs" = some none)
    (z_all : PySem.W.nsIn K mainGlobals "all" = some none)
    (z_bool : PySem.W.nsIn K mainGlobals "bool" = some none)
    (z_dict : PySem.W.nsIn K mainGlobals "dict" = some none)
    (z_int : PySem.W.nsIn K mainGlobals "int" = some none)
    (z_isinstance : PySem.W.nsIn K mainGlobals "isinstance" = some none)
    (z_len : PySem.W.nsIn K mainGlobals "len" = some none)
    (z_list : PySem.W.nsIn K mainGlobals "list" = some none)
    (z_max : PySem.W.nsIn K mainGlobals "max" = some none)
    (z_min : PySem.W.nsIn K mainGlobals "min" = some none)
    (z_range : PySem.W.nsIn K mainGlobals "range" = some none)
    (z_sorted : PySem.W.nsIn K mainGlobals "sorted" = some none)
    (z_str : PySem.W.nsIn K mainGlobals "str" = some none)
    (z_tuple : PySem.W.nsIn K mainGlobals "tuple" = some none)
    (g_LEAST_TOO_LONG : PySem.W.nsIn K mainGlobals "LEAST_TOO_LONG" = some (some uc_LEAST_TOO_LONG)) (gr_LEAST_TOO_LONG : RelV (.int 1000000000000000000000000000000000000000000000000000000000000) uc_LEAST_TOO_LONG)
    (g_MAX_LONG : PySem.W.nsIn K mainGlobals "MAX_LONG" = some (some uc_MAX_LONG)) (gr_MAX_LONG : RelV (.int 16) uc_MAX_LONG)
    (g_MAX_STEP : PySem.W.nsIn K mainGlobals "MAX_STEP" = some (some uc_MAX_STEP)) (gr_MAX_STEP : RelV (.int 4) uc_MAX_STEP)
    (g_KINDS : PySem.W.nsIn K mainGlobals "KINDS" = some (some (.ref uc_KINDS))) (h_KINDS : K.lookup uc_KINDS = some ob_KINDS) (i_KINDS : ob_KINDS.cls = .type "tuple") (j_KINDS : ob_KINDS.data = .seq its_KINDS nn_KINDS) (m_KINDS : its_KINDS.size ≤ sizeLine) (gv_KINDS : Vals [V.str "times", V.str "part", V.str "rest"] its_KINDS.toList)
    (g_IDLE : PySem.W.nsIn K mainGlobals "IDLE" = some (some (.ref uc_IDLE))) (h_IDLE : K.lookup uc_IDLE = some ob_IDLE) (i_IDLE : ob_IDLE.cls = .type "tuple") (j_IDLE : ob_IDLE.data = .seq its_IDLE nn_IDLE) (m_IDLE : its_IDLE.size ≤ sizeLine) (gv_IDLE : Vals [V.str "none", V.int 0, V.int 0, V.int 0, V.int 0, V.int 0] its_IDLE.toList)
    : ∃ fd : FuncData, (∀ (s : Shared) (v : Value), BindsTo s fd ⟨[v], []⟩ [("script", v)]) ∧ ∀ base : Heap, K.In base → base.Ns mainGlobals mg → FnOk l.prog w K mg base CX0 8 fa fd ["script"] (sp_law K) := by
  have e := hfa.symm.trans (PySem.W.mg_of X G a27)
  cases e
  have F0 := fun_mk (st := s_is_integer) l0 c0 k0
  have b0 := F0.binds (ps := P_is_integer) fun _ _ _ _ _ _ us hl => match us, hl with | [_], _ => rfl
  have F1 := fun_mk (st := s_is_between) l1 c1 k1
  have b1 := F1.binds (ps := P_is_between) fun _ _ _ _ _ _ us hl => match us, hl with | [_, _, _], _ => rfl
  have F2 := fun_mk (st := s_is_index) l2 c2 k2
  have b2 := F2.binds (ps := P_is_index) fun _ _ _ _ _ _ us hl => match us, hl with | [_, _], _ => rfl
  have F3 := fun_mk (st := s_is_word_of) l3 c3 k3
  have b3 := F3.binds (ps := P_is_word_of) fun _ _ _ _ _ _ us hl => match us, hl with | [_, _], _ => rfl
  have F4 := fun_mk (st := s_is_tuple_of) l4 c4 k4
  have b4 := F4.binds (ps := P_is_tuple_of) fun _ _ _ _ _ _ us hl => match us, hl with | [_, _, _], _ => rfl
  have F5 := fun_mk (st := s_plainly_made) l5 c5 k5
  have b5 := F5.binds (ps := P_plainly_made) fun _ _ _ _ _ _ us hl => match us, hl with | [_], _ => rfl
  have F6 := fun_mk (st := s_check_number) l6 c6 k6
  have b6 := F6.binds (ps := P_check_number) fun _ _ _ _ _ _ us hl => match us, hl with | [_, _, _], _ => rfl
  have F7 := fun_mk (st := s_check_long) l7 c7 k7
  have b7 := F7.binds (ps := P_check_long) fun _ _ _ _ _ _ us hl => match us, hl with | [_, _], _ => rfl
  have F8 := fun_mk (st := s_quotient_and_rest) l8 c8 k8
  have b8 := F8.binds (ps := P_quotient_and_rest) fun _ _ _ _ _ _ us hl => match us, hl with | [_, _, _], _ => rfl
  have F9 := fun_mk (st := s_reached_words) l9 c9 k9
  have b9 := F9.binds (ps := P_reached_words) fun _ _ _ _ _ _ us hl => match us, hl with | [_, _, _, _, _], _ => rfl
  have F10 := fun_mk (st := s_is_long_state) l10 c10 k10
  have b10 := F10.binds (ps := P_is_long_state) fun _ _ _ _ _ _ us hl => match us, hl with | [_, _, _], _ => rfl
  have F11 := fun_mk (st := s_is_long) l11 c11 k11
  have b11 := F11.binds (ps := P_is_long) fun _ _ _ _ _ _ us hl => match us, hl with | [_, _, _], _ => rfl
  have F12 := fun_mk (st := s_is_ask) l12 c12 k12
  have b12 := F12.binds (ps := P_is_ask) fun _ _ _ _ _ _ us hl => match us, hl with | [_, _], _ => rfl
  have F13 := fun_mk (st := s_round_behind) l13 c13 k13
  have b13 := F13.binds (ps := P_round_behind) fun _ _ _ _ _ _ us hl => match us, hl with | [_, _], _ => rfl
  have F14 := fun_mk (st := s_beat_behind) l14 c14 k14
  have b14 := F14.binds (ps := P_beat_behind) fun _ _ _ _ _ _ us hl => match us, hl with | [_, _, _, _], _ => rfl
  have F15 := fun_mk (st := s_long_beat) l15 c15 k15
  have b15 := F15.binds (ps := P_long_beat) fun _ _ _ _ _ _ us hl => match us, hl with | [_, _, _, _], _ => rfl
  have F16 := fun_mk (st := s_law_dice) l16 c16 k16
  have b16 := F16.binds (ps := P_law_dice) fun _ _ _ _ _ _ us hl => match us, hl with | [_, _], _ => rfl
  have F17 := fun_mk (st := s_law_roll) l17 c17 k17
  have b17 := F17.binds (ps := P_law_roll) fun _ _ _ _ _ _ us hl => match us, hl with | [_, _], _ => rfl
  have F18 := fun_mk (st := s_law_one_of) l18 c18 k18
  have b18 := F18.binds (ps := P_law_one_of) fun _ _ _ _ _ _ us hl => match us, hl with | [_, _], _ => rfl
  have F19 := fun_mk (st := s_law_two_to) l19 c19 k19
  have b19 := F19.binds (ps := P_law_two_to) fun _ _ _ _ _ _ us hl => match us, hl with | [_], _ => rfl
  have F20 := fun_mk (st := s_law_round) l20 c20 k20
  have b20 := F20.binds (ps := P_law_round) fun _ _ _ _ _ _ us hl => match us, hl with | [_, _], _ => rfl
  have F21 := fun_mk (st := s_law_beat) l21 c21 k21
  have b21 := F21.binds (ps := P_law_beat) fun _ _ _ _ _ _ us hl => match us, hl with | [_, _, _, _], _ => rfl
  have F22 := fun_mk (st := s_law_begin_drawn) l22 c22 k22
  have b22 := F22.binds (ps := P_law_begin_drawn) fun _ _ _ _ _ _ us hl => match us, hl with | [_, _], _ => rfl
  have F23 := fun_mk (st := s_law_all_states) l23 c23 k23
  have b23 := F23.binds (ps := P_law_all_states) fun _ _ _ _ _ _ us hl => match us, hl with | [_, _], _ => rfl
  have F24 := fun_mk (st := s_law_small_right) l24 c24 k24
  have b24 := F24.binds (ps := P_law_small_right) fun _ _ _ _ _ _ us hl => match us, hl with | [_, _, _], _ => rfl
  have F25 := fun_mk (st := s_law_is_state) l25 c25 k25
  have b25 := F25.binds (ps := P_law_is_state) fun _ _ _ _ _ _ us hl => match us, hl with | [_, _, _], _ => rfl
  have F26 := fun_mk (st := s_law_great_right) l26 c26 k26
  have b26 := F26.binds (ps := P_law_great_right) fun _ _ _ _ _ _ us hl => match us, hl with | [_], _ => rfl
  have F27 := fun_mk (st := s_law) l27 c27 k27
  have b27 := F27.binds (ps := P_law) fun _ _ _ _ _ _ us hl => match us, hl with | [_], _ => rfl
  let T : Txt K mg := { f_is_integer := f0, d_is_integer := _, F_is_integer := F0, b_is_integer := b0, m_is_integer := PySem.W.mg_of X G a0, f_is_between := f1, d_is_between := _, F_is_between := F1, b_is_between := b1, m_is_between := PySem.W.mg_of X G a1, f_is_index := f2, d_is_index := _, F_is_index := F2, b_is_index := b2, m_is_index := PySem.W.mg_of X G a2, f_is_word_of := f3, d_is_word_of := _, F_is_word_of := F3, b_is_word_of := b3, m_is_word_of := PySem.W.mg_of X G a3, f_is_tuple_of := f4, d_is_tuple_of := _, F_is_tuple_of := F4, b_is_tuple_of := b4, m_is_tuple_of := PySem.W.mg_of X G a4, f_plainly_made := f5, d_plainly_made := _, F_plainly_made := F5, b_plainly_made := b5, m_plainly_made := PySem.W.mg_of X G a5, f_check_number := f6, d_check_number := _, F_check_number := F6, b_check_number := b6, m_check_number := PySem.W.mg_of X G a6, f_check_long := f7, d_check_long := _, F_check_long := F7, b_check_long := b7, m_check_long := PySem.W.mg_of X G a7, f_quotient_and_rest := f8, d_quotient_and_rest := _, F_quotient_and_rest := F8, b_quotient_and_rest := b8, m_quotient_and_rest := PySem.W.mg_of X G a8, f_reached_words := f9, d_reached_words := _, F_reached_words := F9, b_reached_words := b9, m_reached_words := PySem.W.mg_of X G a9, f_is_long_state := f10, d_is_long_state := _, F_is_long_state := F10, b_is_long_state := b10, m_is_long_state := PySem.W.mg_of X G a10, f_is_long := f11, d_is_long := _, F_is_long := F11, b_is_long := b11, m_is_long := PySem.W.mg_of X G a11, f_is_ask := f12, d_is_ask := _, F_is_ask := F12, b_is_ask := b12, m_is_ask := PySem.W.mg_of X G a12, f_round_behind := f13, d_round_behind := _, F_round_behind := F13, b_round_behind := b13, m_round_behind := PySem.W.mg_of X G a13, f_beat_behind := f14, d_beat_behind := _, F_beat_behind := F14, b_beat_behind := b14, m_beat_behind := PySem.W.mg_of X G a14, f_long_beat := f15, d_long_beat := _, F_long_beat := F15, b_long_beat := b15, m_long_beat := PySem.W.mg_of X G a15, f_law_dice := f16, d_law_dice := _, F_law_dice := F16, b_law_dice := b16, m_law_dice := PySem.W.mg_of X G a16, f_law_roll := f17, d_law_roll := _, F_law_roll := F17, b_law_roll := b17, m_law_roll := PySem.W.mg_of X G a17, f_law_one_of := f18, d_law_one_of := _, F_law_one_of := F18, b_law_one_of := b18, m_law_one_of := PySem.W.mg_of X G a18, f_law_two_to := f19, d_law_two_to := _, F_law_two_to := F19, b_law_two_to := b19, m_law_two_to := PySem.W.mg_of X G a19, f_law_round := f20, d_law_round := _, F_law_round := F20, b_law_round := b20, m_law_round := PySem.W.mg_of X G a20, f_law_beat := f21, d_law_beat := _, F_law_beat := F21, b_law_beat := b21, m_law_beat := PySem.W.mg_of X G a21, f_law_begin_drawn := f22, d_law_begin_drawn := _, F_law_begin_drawn := F22, b_law_begin_drawn := b22, m_law_begin_drawn := PySem.W.mg_of X G a22, f_law_all_states := f23, d_law_all_states := _, F_law_all_states := F23, b_law_all_states := b23, m_law_all_states := PySem.W.mg_of X G a23, f_law_small_right := f24, d_law_small_right := _, F_law_small_right := F24, b_law_small_right := b24, m_law_small_right := PySem.W.mg_of X G a24, f_law_is_state := f25, d_law_is_state := _, F_law_is_state := F25, b_law_is_state := b25, m_law_is_state := PySem.W.mg_of X G a25, f_law_great_right := f26, d_law_great_right := _, F_law_great_right := F26, b_law_great_right := b26, m_law_great_right := PySem.W.mg_of X G a26, f_law := fa, d_law := _, F_law := F27, b_law := b27, m_law := PySem.W.mg_of X G a27, n_abs := PySem.W.mg_none_of X G z_abs, n_all := PySem.W.mg_none_of X G z_all, n_bool := PySem.W.mg_none_of X G z_bool, n_dict := PySem.W.mg_none_of X G z_dict, n_int := PySem.W.mg_none_of X G z_int, n_isinstance := PySem.W.mg_none_of X G z_isinstance, n_len := PySem.W.mg_none_of X G z_len, n_list := PySem.W.mg_none_of X G z_list, n_max := PySem.W.mg_none_of X G z_max, n_min := PySem.W.mg_none_of X G z_min, n_range := PySem.W.mg_none_of X G z_range, n_sorted := PySem.W.mg_none_of X G z_sorted, n_str := PySem.W.mg_none_of X G z_str, n_tuple := PySem.W.mg_none_of X G z_tuple, u_LEAST_TOO_LONG := uc_LEAST_TOO_LONG, c_LEAST_TOO_LONG := PySem.W.mg_of X G g_LEAST_TOO_LONG, r_LEAST_TOO_LONG := gr_LEAST_TOO_LONG, u_MAX_LONG := uc_MAX_LONG, c_MAX_LONG := PySem.W.mg_of X G g_MAX_LONG, r_MAX_LONG := gr_MAX_LONG, u_MAX_STEP := uc_MAX_STEP, c_MAX_STEP := PySem.W.mg_of X G g_MAX_STEP, r_MAX_STEP := gr_MAX_STEP, u_KINDS := uc_KINDS, c_KINDS := PySem.W.mg_of X G g_KINDS, t_KINDS := fun H => .inr ⟨ob_KINDS, its_KINDS, nn_KINDS, h_KINDS, i_KINDS, j_KINDS, m_KINDS, gv_KINDS⟩, u_IDLE := uc_IDLE, c_IDLE := PySem.W.mg_of X G g_IDLE, t_IDLE := fun H => .inr ⟨ob_IDLE, its_IDLE, nn_IDLE, h_IDLE, i_IDLE, j_IDLE, m_IDLE, gv_IDLE⟩ }
  exact ⟨_, fun s v => .of_eq rfl, fun base _ _ => ok_law T⟩
end TB
open PySem PySem.W PyProof.Rows
set_option maxRecDepth 100000 in
set_option maxHeartbeats 0 in
theorem PySem.Challenge.cw_truebeat_k27_whole_states_that_can_be_holds : PySem.Challenge.rw_truebeat_k27_whole_states_that_can_be.Holds := by
  w_on; o_law; k_head; (case hw => w_witness2)
  k_fill
  refine L2.walk_of (l := PySem.Challenge.rw_truebeat_k27_whole_states_that_can_be) (n := 63) (k := 8) (x := "script") (CX := fun _ => L2.CX0) (sp := fun w => TB.sp_law _) rfl (by decide) rfl ⟨rfl, by decide, by decide⟩ (fun w h Y => PySem.W.kIn_of Y) ?F (fun _ _ a ns hl _ hS => ⟨a, ns, rfl, hS, hl, fun _ => rfl⟩) (fun _ _ _ _ _ h => h)
  case F =>
    intro w mg fa h KX G hmg
    refine' TB.all_mk KX G hmg ?a0 ?l0 ?c0 ?k0 ?a1 ?l1 ?c1 ?k1 ?a2 ?l2 ?c2 ?k2 ?a3 ?l3 ?c3 ?k3 ?a4 ?l4 ?c4 ?k4 ?a5 ?l5 ?c5 ?k5 ?a6 ?l6 ?c6 ?k6 ?a7 ?l7 ?c7 ?k7 ?a8 ?l8 ?c8 ?k8 ?a9 ?l9 ?c9 ?k9 ?a10 ?l10 ?c10 ?k10 ?a11 ?l11 ?c11 ?k11 ?a12 ?l12 ?c12 ?k12 ?a13 ?l13 ?c13 ?k13 ?a14 ?l14 ?c14 ?k14 ?a15 ?l15 ?c15 ?k15 ?a16 ?l16 ?c16 ?k16 ?a17 ?l17 ?c17 ?k17 ?a18 ?l18 ?c18 ?k18 ?a19 ?l19 ?c19 ?k19 ?a20 ?l20 ?c20 ?k20 ?a21 ?l21 ?c21 ?k21 ?a22 ?l22 ?c22 ?k22 ?a23 ?l23 ?c23 ?k23 ?a24 ?l24 ?c24 ?k24 ?a25 ?l25 ?c25 ?k25 ?a26 ?l26 ?c26 ?k26 ?a27 ?l27 ?c27 ?k27 ?z_abs ?z_all ?z_bool ?z_dict ?z_int ?z_isinstance ?z_len ?z_list ?z_max ?z_min ?z_range ?z_sorted ?z_str ?z_tuple ?g_LEAST_TOO_LONG ?gr_LEAST_TOO_LONG ?g_MAX_LONG ?gr_MAX_LONG ?g_MAX_STEP ?gr_MAX_STEP ?g_KINDS ?h_KINDS ?i_KINDS ?j_KINDS ?m_KINDS ?gv_KINDS ?g_IDLE ?h_IDLE ?i_IDLE ?j_IDLE ?m_IDLE ?gv_IDLE
    (case a0 => k_is)
    (case l0 => k_is)
    (case c0 => k_is)
    (case k0 => k_is)
    (case a1 => k_is)
    (case l1 => k_is)
    (case c1 => k_is)
    (case k1 => k_is)
    (case a2 => k_is)
    (case l2 => k_is)
    (case c2 => k_is)
    (case k2 => k_is)
    (case a3 => k_is)
    (case l3 => k_is)
    (case c3 => k_is)
    (case k3 => k_is)
    (case a4 => k_is)
    (case l4 => k_is)
    (case c4 => k_is)
    (case k4 => k_is)
    (case a5 => k_is)
    (case l5 => k_is)
    (case c5 => k_is)
    (case k5 => k_is)
    (case a6 => k_is)
    (case l6 => k_is)
    (case c6 => k_is)
    (case k6 => k_is)
    (case a7 => k_is)
    (case l7 => k_is)
    (case c7 => k_is)
    (case k7 => k_is)
    (case a8 => k_is)
    (case l8 => k_is)
    (case c8 => k_is)
    (case k8 => k_is)
    (case a9 => k_is)
    (case l9 => k_is)
    (case c9 => k_is)
    (case k9 => k_is)
    (case a10 => k_is)
    (case l10 => k_is)
    (case c10 => k_is)
    (case k10 => k_is)
    (case a11 => k_is)
    (case l11 => k_is)
    (case c11 => k_is)
    (case k11 => k_is)
    (case a12 => k_is)
    (case l12 => k_is)
    (case c12 => k_is)
    (case k12 => k_is)
    (case a13 => k_is)
    (case l13 => k_is)
    (case c13 => k_is)
    (case k13 => k_is)
    (case a14 => k_is)
    (case l14 => k_is)
    (case c14 => k_is)
    (case k14 => k_is)
    (case a15 => k_is)
    (case l15 => k_is)
    (case c15 => k_is)
    (case k15 => k_is)
    (case a16 => k_is)
    (case l16 => k_is)
    (case c16 => k_is)
    (case k16 => k_is)
    (case a17 => k_is)
    (case l17 => k_is)
    (case c17 => k_is)
    (case k17 => k_is)
    (case a18 => k_is)
    (case l18 => k_is)
    (case c18 => k_is)
    (case k18 => k_is)
    (case a19 => k_is)
    (case l19 => k_is)
    (case c19 => k_is)
    (case k19 => k_is)
    (case a20 => k_is)
    (case l20 => k_is)
    (case c20 => k_is)
    (case k20 => k_is)
    (case a21 => k_is)
    (case l21 => k_is)
    (case c21 => k_is)
    (case k21 => k_is)
    (case a22 => k_is)
    (case l22 => k_is)
    (case c22 => k_is)
    (case k22 => k_is)
    (case a23 => k_is)
    (case l23 => k_is)
    (case c23 => k_is)
    (case k23 => k_is)
    (case a24 => k_is)
    (case l24 => k_is)
    (case c24 => k_is)
    (case k24 => k_is)
    (case a25 => k_is)
    (case l25 => k_is)
    (case c25 => k_is)
    (case k25 => k_is)
    (case a26 => k_is)
    (case l26 => k_is)
    (case c26 => k_is)
    (case k26 => k_is)
    (case a27 => k_is)
    (case l27 => k_is)
    (case c27 => k_is)
    (case k27 => k_is)
    (case z_abs => k_is)
    (case z_all => k_is)
    (case z_bool => k_is)
    (case z_dict => k_is)
    (case z_int => k_is)
    (case z_isinstance => k_is)
    (case z_len => k_is)
    (case z_list => k_is)
    (case z_max => k_is)
    (case z_min => k_is)
    (case z_range => k_is)
    (case z_sorted => k_is)
    (case z_str => k_is)
    (case z_tuple => k_is)
    (case g_LEAST_TOO_LONG => k_is)
    (case gr_LEAST_TOO_LONG => exact ⟨_, rfl⟩)
    (case g_MAX_LONG => k_is)
    (case gr_MAX_LONG => exact ⟨_, rfl⟩)
    (case g_MAX_STEP => k_is)
    (case gr_MAX_STEP => exact ⟨_, rfl⟩)
    (case g_KINDS => k_is)
    (case h_KINDS => k_is)
    (case i_KINDS => rfl)
    (case j_KINDS => rfl)
    (case m_KINDS => decide)
    (case gv_KINDS => exact .cons ⟨_, rfl⟩ (.cons ⟨_, rfl⟩ (.cons ⟨_, rfl⟩ (.nil))))
    (case g_IDLE => k_is)
    (case h_IDLE => k_is)
    (case i_IDLE => rfl)
    (case j_IDLE => rfl)
    (case m_IDLE => decide)
    (case gv_IDLE => exact .cons ⟨_, rfl⟩ (.cons ⟨_, rfl⟩ (.cons ⟨_, rfl⟩ (.cons ⟨_, rfl⟩ (.cons ⟨_, rfl⟩ (.cons ⟨_, rfl⟩ (.nil)))))))
#print axioms PySem.Challenge.cw_truebeat_k27_whole_states_that_can_be_holds
