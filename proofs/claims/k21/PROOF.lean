import PyProof.Rows.All
import Wide.All
import OpenK.AllK
import Wide.FinOn
import HandS.ForMost
import HandS.Wide
import HandS.Evl
import HandS.Defaults
import HandS.Style
import HandS.Walk
import HandS.IsInst
import HandS.WideBits
import HandS.TupAny
import KE.GoesEnum
import HandS.TupMul
import KE.KDictDisplayH
import KE.DataMinMax
import HandS.DictComp
import HandS.Conv
import HandS.More
import HandS.CallLocal
import PySem.Challenge.RW_truebeat_k21_whole_rounds_that_shift
set_option Elab.async false
set_option linter.all false
set_option maxRecDepth 100000
set_option maxHeartbeats 1000000
namespace TB
open PySem L2 PySem.W
theorem cxK {CX : CXT} {P : Program} {w : World} {K : PySem.W.Frag} {mg : Str → Option Value} {base : Heap} {N : List Str} {qual : Str} {scope : Scope} {f : Addr} {cd : Value} {A : Around} {outer : List Env} {s : Shared} {H : Hp} {E : XK} : (cxOf CX P w K mg base N qual scope f cd A outer s H E).K = K := rfl
/-! ### what is read off by rewriting -/
theorem ex_eq_l {α : Sort _} {a : α} {p : α → Prop} : (∃ x, a = x ∧ p x) = p a := propext ⟨fun ⟨_, e, h⟩ => e ▸ h, fun h => ⟨_, rfl, h⟩⟩
theorem lit_eq {p q : V} : (some (some p) = some (some q)) = (p = q) := by simp
theorem scal_ii {i j : Int} : scal (.int i) (.int j) = true := rfl
theorem scal_bb {i j : Bool} : scal (.bl i) (.bl j) = true := rfl
theorem scal_ss {i j : Str} : scal (.str i) (.str j) = true := rfl
theorem scal_nn {v : V} : scal .non v = scal .non v := rfl
abbrev Ex := Evl.Ex
theorem Ex.refl (H : Hp) : Ex H H := fun _ _ h => h
theorem ex_upd {H : Hp} {p : Addr} {o : HO} (h : H p = none) : Ex H (upd H p o) := Evl.Ex.new h
/-! ### values and their kinds -/
def isI : V → Bool
  | .int i => decide (-(10 ^ 60) < i ∧ i < 10 ^ 60)
  | _ => false
def kinds : List String := ["int", "bool", "NoneType", "str", "list", "tuple", "dict"]
/-- a value whose type is known -/
def Typd (K : PySem.W.Frag) (H : Hp) (v : V) : Prop := ∃ n, n ∈ kinds ∧ TyX K H v (.type n)
theorem Typd.int {K : PySem.W.Frag} {H : Hp} {i : Int} : Typd K H (.int i) := ⟨"int", by decide, .base (.int i)⟩
def vInt : V → Int
  | .int i => i
  | _ => 0
/-- between two bounds -/
def btw (v : V) (lo hi : Int) : Bool := isI v && (decide (lo ≤ vInt v) && decide (vInt v ≤ hi))
theorem isi_to {K : PySem.W.Frag} {H : Hp} {v : V} {n m : String} {b : Bool} {Q : VK} (hv : TyX K H v (.type n)) (e : kitB n m = some b) (h : Q (.bl b) H) : rIsi K [v, .ty m] H Q :=
  ⟨v, .ty m, .type n, .type m, b, rfl, ClsV.ty m, hv, kit_ty e, h⟩
theorem ty_ne {a b : String} (h : Value.type a = Value.type b) (d : a ≠ b) : False := d (by injection h)
theorem isI_not {K : PySem.W.Frag} {H : Hp} {v : V} {n : String} (h : TyX K H v (.type n)) (hn : n ≠ "int") : isI v = false := by
  cases v with
  | int i =>
    generalize hT : Value.type n = T at h
    cases h with
    | base h =>
      cases h with
      | int => exact (ty_ne hT hn).elim
  | _ => rfl
theorem int_of {K : PySem.W.Frag} {H : Hp} {v : V} (h : TyX K H v (.type "int")) : ∃ i, v = .int i := by
  generalize hT : Value.type "int" = T at h
  cases h with
  | base h =>
    cases h with
    | int i => exact ⟨i, rfl⟩
    | ins => cases hT
    | _ => exact (ty_ne hT (by decide)).elim
  | _ => exact (ty_ne hT (by decide)).elim
theorem btw_if {i lo hi : Int} (e : isI (.int i) = true) : btw (.int i) lo hi = if lo ≤ i then decide (i ≤ hi) else false := by
  unfold btw
  rw [e]
  show (true && (decide (lo ≤ i) && decide (i ≤ hi))) = _
  by_cases h : lo ≤ i
  · rw [decide_eq_true h, if_pos h]; rfl
  · rw [decide_eq_false h, if_neg h]; rfl
theorem btw_not {v : V} {lo hi : Int} (e : isI v = false) : btw v lo hi = false := by
  unfold btw
  rw [e]; rfl
/-- an int within its bounds -/
theorem btw_ok {i lo hi : Int} (h1 : lo ≤ i) (h2 : i ≤ hi) (h3 : -(10 ^ 60) < i) (h4 : i < 10 ^ 60) : btw (.int i) lo hi = true := by
  rw [btw_if (decide_eq_true ⟨h3, h4⟩), if_pos h1]
  exact decide_eq_true h2
theorem pow_le {n m : Nat} (h : n ≤ m) : (2 : Int) ^ n ≤ 2 ^ m := by
  have := Nat.pow_le_pow_right (show 0 < 2 by decide) h
  exact_mod_cast this
theorem pow_pos' (n : Nat) : (0 : Int) < 2 ^ n := by
  have := Nat.pow_pos (n := n) (show 0 < 2 by decide)
  exact_mod_cast this
theorem pow64 {n : Nat} (h : n ≤ 64) : (2 : Int) ^ n ≤ 18446744073709551616 := Int.le_trans (pow_le h) (by decide)
/-! ### powers of great numbers -/
def CPowW (i j : Int) : Prop := 0 ≤ j ∧ (Builtin.Int.intBits i : Int) * j ≤ 2 ^ 27
theorem op_powW {X : Cx} : OpR X (binaryOp .Pow) (rI CPowW fun i j => .int (i ^ j.toNat)) := opI fun _ _ _ _ _ _ _ hc q => PyProof.Rows.pow_int hc.1 hc.2 q
/-! ### dice -/
def dice3 (l m n : Int) : HO := .lst [.int l, .int m, .int n]
def DiceAt (H : Hp) (d : Addr) : Prop := ∃ l m n : Int, 0 ≤ l ∧ 0 ≤ m ∧ 0 ≤ n ∧ H d = some (dice3 l m n)
theorem mulw {i j : Int} (a b : Nat) (ha : i.natAbs < 2 ^ a) (hb : j.natAbs < 2 ^ b) (h0 : 0 < a := by decide) (h1 : 0 < b := by decide) (h : a + b ≤ 1000000 := by decide) : CMulW i j := wide_mul ha hb h0 h1 h
theorem divw {i j : Int} (b : Nat) (h : 0 < j) (hb : j.natAbs < 2 ^ b) (h0 : 0 < b := by decide) (h9 : b ≤ 9000 := by decide) : CDivW i j := wide_div h hb h0 h9
def CMulA (i j : Int) : Prop := CMul i j ∨ CMulW i j
theorem op_mulA {X : Cx} : OpR X (binaryOp .Mult) (rI CMulA fun i j => .int (i * j)) := opI fun _ _ _ _ _ _ _ hc q => by
  rcases hc with h | h
  · exact PyProof.Rows.mul_int q h.ok
  · exact PyProof.Rows.mul_int q h.ok
theorem mulL {i j : Int} (h : i.natAbs < 2 ^ 64) : CMulA i j := .inl (.inl ⟨by omega, by omega⟩)
theorem mulR {i j : Int} (h : j.natAbs < 2 ^ 64) : CMulA i j := .inl (.inr ⟨by omega, by omega⟩)
theorem mulA {i j : Int} (a b : Nat) (ha : i.natAbs < 2 ^ a) (hb : j.natAbs < 2 ^ b) (h0 : 0 < a := by decide) (h1 : 0 < b := by decide) (h : a + b ≤ 1000000 := by decide) : CMulA i j := .inr (wide_mul ha hb h0 h1 h)
theorem ixL {K : PySem.W.Frag} {a : Addr} {H : Hp} {xs : List V} {k : Int} {v : V} {Q : VK} (h : SqL K H a xs) (hv : atI xs k = some v) (q : Q v H) : rIxL K (.ref a) (.int k) H Q := ⟨a, xs, k, v, rfl, rfl, h, hv, q⟩
theorem ixM {K : PySem.W.Frag} {a : Addr} {H : Hp} {xs : List V} {k : Int} {v : V} {Q : VK} (h : H a = some (.lst xs)) (hv : atI xs k = some v) (q : Q v H) : rIxL K (.ref a) (.int k) H Q := ixL (SqL.of h) hv q
theorem ixT {K : PySem.W.Frag} {a : Addr} {H : Hp} {xs : List V} {k : Int} {v : V} {Q : VK} (h : SqT K H a xs) (hv : atI xs k = some v) (q : Q v H) : rIxT K (.ref a) (.int k) H Q := ⟨a, xs, k, v, rfl, rfl, h, hv, q⟩
theorem setL {a : Addr} {H : Hp} {xs : List V} {k : Int} {j : Nat} {v : V} {Q : Hp → Prop} (h : H a = some (.lst xs)) (hj : ixN xs.length k = some j) (q : Q (upd H a (.lst (xs.set j v)))) : rSetL (.ref a) (.int k) v H Q := ⟨a, xs, k, j, rfl, rfl, h, hj, q⟩
theorem mod_bd {a b : Int} (h : 0 < b) : 0 ≤ a % b ∧ a % b < b := ⟨Int.emod_nonneg _ (by omega), Int.emod_lt_of_pos _ h⟩
/-! ### loops -/
/-- what is left of a for once its walk is told -/
def Lp (J : It) (g : TG) (tb : TS) (D : Ends) (σ : St) (H : Hp) : Prop := ∃ W : Nat → Nat → St → Hp → Prop, (∃ m, W 0 m σ H) ∧ ∀ i m σ H, W i m σ H →
  (J.stop i H ∧ D.nx σ H) ∨ (J.go i H ∧ ∃ N : St → Hp → Prop, (∀ σ' H', N σ' H' → ∃ m', m' < m ∧ W (i + 1) m' σ' H') ∧ ∀ x H', J.yld i H x H' → g x σ H' fun σ2 H2 => tb { D with nx := N, ct := N, bk := D.nx } σ2 H2)
theorem tFor_eq {wi : TI} {g : TG} {tb : TS} {D : Ends} {σ : St} {H : Hp} : tFor wi g tb D σ H = wi σ H (fun J H1 => Lp J g tb D σ H1) := rfl
section
variable {K : PySem.W.Frag} {g : TG} {tb : TS} {D : Ends} {σ : St} {H : Hp}
theorem lpR (n : Nat) (Pv : Nat → St → Hp → Prop) (h0 : Pv 0 σ H) (hs : ∀ (i : Nat) σ' H', i < n → Pv i σ' H' → g (.int i) σ' H' fun σ2 H2 => tb { D with nx := Pv (i + 1), ct := Pv (i + 1), bk := D.nx } σ2 H2)
    (hd : ∀ σ' H', Pv n σ' H' → D.nx σ' H') : Lp (Itr 0 n) g tb D σ H :=
  for_range (lo := 0) (n := n) Pv h0 (fun i σ' H' hi p => by rw [Int.zero_add]; exact hs i σ' H' hi p) hd
theorem lpR2 (lo : Int) (n : Nat) (Pv : Nat → St → Hp → Prop) (h0 : Pv 0 σ H) (hs : ∀ (i : Nat) σ' H', i < n → Pv i σ' H' → g (.int (lo + i)) σ' H' fun σ2 H2 => tb { D with nx := Pv (i + 1), ct := Pv (i + 1), bk := D.nx } σ2 H2)
    (hd : ∀ σ' H', Pv n σ' H' → D.nx σ' H') : Lp (Itr lo n) g tb D σ H := for_range (lo := lo) (n := n) Pv h0 hs hd
theorem lpL {a : Addr} {xs : List V} (Pv : Nat → St → Hp → Prop) (h0 : Pv 0 σ H) (hl : ∀ i σ' H', i ≤ xs.length → Pv i σ' H' → SqL K H' a xs)
    (hs : ∀ i x σ' H', xs[i]? = some x → Pv i σ' H' → g x σ' H' fun σ2 H2 => tb { D with nx := Pv (i + 1), ct := Pv (i + 1), bk := D.nx } σ2 H2) (hd : ∀ σ' H', Pv xs.length σ' H' → D.nx σ' H') : Lp (Itl K a) g tb D σ H := for_list Pv h0 hl hs hd
theorem lpT {a : Addr} {xs : List V} (Pv : Nat → St → Hp → Prop) (h0 : Pv 0 σ H) (hl : ∀ i σ' H', i ≤ xs.length → Pv i σ' H' → SqT K H' a xs)
    (hs : ∀ i x σ' H', xs[i]? = some x → Pv i σ' H' → g x σ' H' fun σ2 H2 => tb { D with nx := Pv (i + 1), ct := Pv (i + 1), bk := D.nx } σ2 H2) (hd : ∀ σ' H', Pv xs.length σ' H' → D.nx σ' H') : Lp (Itt K a) g tb D σ H := for_tup Pv h0 hl hs hd
/-- for i, x in enumerate(list): the pair is a new tuple -/
theorem lpE {a : Addr} {xs : List V} (Pv : Nat → St → Hp → Prop) (h0 : Pv 0 σ H) (hl : ∀ i σ' H', i ≤ xs.length → Pv i σ' H' → SqL K H' a xs)
    (hs : ∀ i x T σ' H', xs[i]? = some x → Pv i σ' H' → H' T = none → g (.ref T) σ' (upd H' T (.tup [.int i, x])) fun σ2 H2 => tb { D with nx := Pv (i + 1), ct := Pv (i + 1), bk := D.nx } σ2 H2) (hd : ∀ σ' H', Pv xs.length σ' H' → D.nx σ' H') : Lp (Ite K a) g tb D σ H :=
  for_it walk_enum Pv h0 hl (fun i x σ' H' H2 hi p y => by
    obtain ⟨T, x1, x2, rfl, hT, rfl, e1, e2⟩ := y
    cases e1
    exact hs i x2 T σ' H' e2 p hT) hd
/-- for x, y in zip(list, list) -/
theorem lpZ {a b : Addr} {xs ys : List V} (he : xs.length = ys.length) (Pv : Nat → St → Hp → Prop) (h0 : Pv 0 σ H)
    (hl : ∀ i σ' H', i ≤ xs.length → Pv i σ' H' → SqL K H' a xs ∧ SqL K H' b ys)
    (hs : ∀ i x y T σ' H', xs[i]? = some x → ys[i]? = some y → Pv i σ' H' → H' T = none → g (.ref T) σ' (upd H' T (.tup [x, y])) fun σ2 H2 => tb { D with nx := Pv (i + 1), ct := Pv (i + 1), bk := D.nx } σ2 H2) (hd : ∀ σ' H', Pv xs.length σ' H' → D.nx σ' H') : Lp (Itz K a b) g tb D σ H :=
  for_it (walk_zip (n := xs.length) (by omega)) Pv h0 hl (fun i x σ' H' H2 hi p z => by
    obtain ⟨T, x1, x2, rfl, hT, rfl, e1, e2⟩ := z
    exact hs i x1 x2 T σ' H' e1 e2 p hT) hd
end
/-! ### bits -/
def bitsL (n : Nat) (i : Int) : List Int := (List.range n).map fun k => i / 2 ^ k % 2
theorem bitsL_succ (n : Nat) (i : Int) : bitsL (n + 1) i = bitsL n i ++ [i / 2 ^ n % 2] := by
  unfold bitsL
  rw [List.range_succ, List.map_append]; rfl
theorem bitsL_len (n : Nat) (i : Int) : (bitsL n i).length = n := by
  unfold bitsL
  rw [List.length_map, List.length_range]
/-- the number with these bits, the lowest one first -/
def ofB : List Int → Int
  | [] => 0
  | b :: bs => 2 * ofB bs + b
/-- a list of ints at a -/
abbrev LI (K : PySem.W.Frag) (H : Hp) (a : Addr) (ns : List Int) : Prop := SqL K H a (ns.map V.int)

theorem ofB_app (xs : List Int) (b : Int) : ofB (xs ++ [b]) = ofB xs + 2 ^ xs.length * b := by
  induction xs with
  | nil => show 2 * 0 + b = 0 + 1 * b; omega
  | cons x xs ih =>
    show 2 * ofB (xs ++ [b]) + x = 2 * ofB xs + x + 2 ^ (xs.length + 1) * b
    rw [ih, Int.pow_succ, Int.mul_add, Int.mul_comm (2 ^ xs.length) 2, Int.mul_assoc]
    omega
theorem emod_two_mul {i A : Int} (h : 0 < A) : i % (A * 2) = i % A + A * (i / A % 2) := by
  have h1 : i / (A * 2) = i / A / 2 := (Int.ediv_ediv_of_nonneg (Int.le_of_lt h)).symm
  rw [Int.emod_def i (A * 2), Int.emod_def i A, Int.emod_def (i / A) 2, h1, Int.mul_sub, ← Int.mul_assoc]
  omega
theorem ofB_bits (n : Nat) (i : Int) : ofB (bitsL n i) = i % 2 ^ n := by
  induction n with
  | zero => show (0 : Int) = i % 1; omega
  | succ n ih =>
    rw [bitsL_succ, ofB_app, ih, bitsL_len, Int.pow_succ]
    have hp := pow_pos' n
    exact (emod_two_mul (i := i) hp).symm
theorem atI_nat' {α : Type} {xs : List α} {j : Nat} (h : j < xs.length) : atI xs (j : Int) = some xs[j] := atI_nat (by simp [h])
/-- ints read out of a list of ints -/
theorem ints_get {ns : List Int} {i : Nat} {x : V} (h : (ns.map V.int)[i]? = some x) : ∃ z, ns[i]? = some z ∧ x = .int z := by
  rw [List.getElem?_map] at h
  cases e : ns[i]? with
  | none => rw [e] at h; cases h
  | some z => rw [e] at h; exact ⟨z, rfl, (Option.some.inj h).symm⟩
/-! ### data compared -/
def tupD (ns : List Int) : PyData := .tuple (ns.map .int)
def lstD (ns : List Int) : PyData := .list (ns.map .int)
theorem dpAll_ints {K : PySem.W.Frag} {H : Hp} : ∀ ns : List Int, DpAll K H (ns.map V.int) (ns.map PyData.int)
  | [] => .nil
  | n :: ns => .cons (.int n) (dpAll_ints ns)
theorem dp_tup {K : PySem.W.Frag} {H : Hp} {a : Addr} {ns : List Int} (h : SqT K H a (ns.map V.int)) : Dp K H (.ref a) (tupD ns) := .tup h (dpAll_ints ns)
theorem dp_lst {K : PySem.W.Frag} {H : Hp} {a : Addr} {ns : List Int} (h : SqL K H a (ns.map V.int)) : Dp K H (.ref a) (lstD ns) := .lst h (dpAll_ints ns)
theorem eqvAll_ints : ∀ ns ms : List Int, PyData.eqvAll (ns.map PyData.int) (ms.map PyData.int) = decide (ns = ms)
  | [], [] => rfl
  | [], _ :: _ => rfl
  | _ :: _, [] => rfl
  | n :: ns, m :: ms => by
    show ((n == m) && PyData.eqvAll (ns.map PyData.int) (ms.map PyData.int)) = _
    rw [eqvAll_ints ns ms]
    by_cases h : n = m
    · subst h; simp
    · simp [h]
theorem eqv_tupD (ns ms : List Int) : PyData.eqv (tupD ns) (tupD ms) = decide (ns = ms) := eqvAll_ints ns ms
theorem eqv_lstD (ns ms : List Int) : PyData.eqv (lstD ns) (lstD ms) = decide (ns = ms) := eqvAll_ints ns ms
/-! ### heaps that differ at the dice alone -/
def ExD (d : Addr) (H H' : Hp) : Prop := ∀ a o, a ≠ d → H a = some o → H' a = some o
theorem ExD.refl {d : Addr} (H : Hp) : ExD d H H := fun _ _ _ h => h
theorem ExD.trans {d : Addr} {H H1 H2 : Hp} (a : ExD d H H1) (b : ExD d H1 H2) : ExD d H H2 := fun x o n h => b x o n (a x o n h)
theorem exd_upd {d : Addr} {H : Hp} {o : HO} : ExD d H (upd H d o) := fun a u n h => by rw [upd_ne n]; exact h
theorem exd_new {d p : Addr} {H : Hp} {o : HO} (h : H p = none) : ExD d H (upd H p o) := fun a u n e => by rw [upd_ne (ne_of_none e h)]; exact e
theorem ExD.of {d : Addr} {H H' : Hp} (e : Ex H H') : ExD d H H' := fun a o _ h => e a o h
theorem dice_upd {H : Hp} {d : Addr} {l m n : Int} (hl : 0 ≤ l) (hm : 0 ≤ m) (hn : 0 ≤ n) : DiceAt (upd H d (dice3 l m n)) d := ⟨l, m, n, hl, hm, hn, upd_same⟩
theorem DiceAt.ne {H : Hp} {d p : Addr} (h : DiceAt H d) (hp : H p = none) : d ≠ p := by
  obtain ⟨l, m, n, _, _, _, e⟩ := h
  exact ne_of_none e hp
theorem DiceAt.ex {H H' : Hp} {d : Addr} (h : DiceAt H d) (e : Ex H H') : DiceAt H' d := by
  obtain ⟨l, m, n, a, b, c, x⟩ := h
  exact ⟨l, m, n, a, b, c, e _ _ x⟩
theorem DiceAt.new {H : Hp} {d p : Addr} {o : HO} (h : DiceAt H d) (hp : H p = none) : DiceAt (upd H p o) d := h.ex (ex_upd hp)
theorem sq_upd {K : PySem.W.Frag} {H : Hp} {a d : Addr} {o : HO} {xs : List V} (n : a ≠ d) (h : SqL K H a xs) : SqL K (upd H d o) a xs := by
  rcases h with (h | ⟨u, h⟩) | h
  · exact .inl (.inl (by rw [upd_ne n]; exact h))
  · exact .inl (.inr ⟨u, by rw [upd_ne n]; exact h⟩)
  · exact .inr h
theorem ExD.seq {K : PySem.W.Frag} {H H' : Hp} {a d : Addr} {xs : List V} (e : ExD d H H') (n : a ≠ d) (h : SqL K H a xs) : SqL K H' a xs := by
  rcases h with (h | ⟨u, h⟩) | h
  · exact .inl (.inl (e _ _ n h))
  · exact .inl (.inr ⟨u, e _ _ n h⟩)
  · exact .inr h
theorem _root_.Evl.Ex.seq {K : PySem.W.Frag} {H H' : Hp} {a : Addr} {xs : List V} (e : Ex H H') (h : SqL K H a xs) : SqL K H' a xs := Evl.ex_l e h
/-- the signed number of a word -/
def sgn (n : Nat) (i : Int) : Int := i - i / 2 ^ (n - 1) * 2 ^ n
theorem _root_.Evl.Ex.fresh {H H' : Hp} {p : Addr} (e : Evl.Ex H H') (h : H' p = none) : H p = none := Evl.fresh_back e h
/-- one step of a division, bit by bit: x's rest and quotient from those of x / 2 -/
theorem quot_step (x j : Int) (h : 0 < j) : x % j = (if j ≤ 2 * (x / 2 % j) + x % 2 then 2 * (x / 2 % j) + x % 2 - j else 2 * (x / 2 % j) + x % 2) ∧
    x / j = 2 * (x / 2 / j) + (if j ≤ 2 * (x / 2 % j) + x % 2 then 1 else 0) := by
  have h1 := mod_bd (a := x / 2) h
  have h2 := Int.mul_ediv_add_emod (x / 2) j
  have h3 : x % 2 = 0 ∨ x % 2 = 1 := by omega
  have h4 : x = 2 * (x / 2) + x % 2 := by omega
  generalize x / 2 % j = r at *
  generalize x / 2 / j = q at *
  generalize x % 2 = b at *
  generalize x / 2 = y at *
  by_cases hc : j ≤ 2 * r + b
  · rw [if_pos hc, if_pos hc]
    have e : x = (2 * r + b - j) + j * (2 * q + 1) := by rw [Int.mul_add, Int.mul_one, ← Int.mul_assoc, Int.mul_comm j 2, Int.mul_assoc]; omega
    constructor
    · rw [e, Int.add_mul_emod_self_left, Int.emod_eq_of_lt (by omega) (by omega)]
    · rw [e, Int.add_mul_ediv_left _ _ (by omega), Int.ediv_eq_zero_of_lt (by omega) (by omega)]; omega
  · rw [if_neg hc, if_neg hc]
    have e : x = (2 * r + b) + j * (2 * q) := by rw [← Int.mul_assoc, Int.mul_comm j 2, Int.mul_assoc]; omega
    constructor
    · rw [e, Int.add_mul_emod_self_left, Int.emod_eq_of_lt (by omega) (by omega)]
    · rw [e, Int.add_mul_ediv_left _ _ (by omega), Int.ediv_eq_zero_of_lt (by omega) (by omega)]; omega
/-! ### cuts -/
theorem cut_to {xs : List V} (k : Nat) : cutV xs none (some (k : Int)) = xs.take k := by
  unfold cutV
  rw [HT.sIx_nat, HT.sIx_none, List.drop_zero, Nat.sub_zero]
  by_cases h : k ≤ xs.length
  · rw [Nat.min_eq_left h]
  · rw [Nat.min_eq_right (by omega), List.take_of_length_le (Nat.le_refl _), List.take_of_length_le (by omega)]
theorem cut_from {xs : List V} (k : Nat) : cutV xs (some (k : Int)) none = xs.drop k := by
  unfold cutV
  rw [HT.sIx_nat, HT.sIx_none]
  by_cases h : k ≤ xs.length
  · rw [Nat.min_eq_left h, List.take_of_length_le (by rw [List.length_drop]; omega)]
  · rw [Nat.min_eq_right (by omega), Nat.sub_self, List.take_zero, List.drop_of_length_le (by omega)]
theorem bitsL_get {n k : Nat} {i : Int} (h : k < n) : (bitsL n i)[k]? = some (i / 2 ^ k % 2) := by
  unfold bitsL
  rw [List.getElem?_map, List.getElem?_range h]; rfl
theorem bitsL_none {n k : Nat} {i : Int} (h : n ≤ k) : (bitsL n i)[k]? = none := List.getElem?_eq_none (by rw [bitsL_len]; exact h)
theorem pow_split {a b : Nat} (h : a ≤ b) : (2 : Int) ^ b = 2 ^ a * 2 ^ (b - a) := by
  rw [← Int.pow_add]; congr 1; omega
theorem shl_bits (n k : Nat) (i : Int) : (List.replicate k 0 ++ bitsL n i).take n = bitsL n (i * 2 ^ k) := by
  apply List.ext_getElem?
  intro m
  rw [List.getElem?_take]
  by_cases hm : m < n
  · rw [if_pos hm, bitsL_get hm]
    by_cases hk : m < k
    · rw [List.getElem?_append_left (by rw [List.length_replicate]; exact hk), List.getElem?_replicate, if_pos hk]
      have e : k - m = (k - m - 1) + 1 := by omega
      rw [pow_split (Nat.le_of_lt hk), Int.mul_comm (2 ^ m), ← Int.mul_assoc, Int.mul_ediv_cancel _ (Int.ne_of_gt (pow_pos' m)), e, Int.pow_succ, ← Int.mul_assoc, Int.mul_emod_left]
    · rw [List.getElem?_append_right (by rw [List.length_replicate]; omega), List.length_replicate, bitsL_get (by omega)]
      rw [pow_split (show k ≤ m by omega), Int.mul_comm i, Int.mul_ediv_mul_of_pos _ _ (pow_pos' k)]
  · rw [if_neg hm, bitsL_none (by omega)]
theorem shr_bits (n k : Nat) (i : Int) (h0 : 0 ≤ i) (h : i < 2 ^ n) : ofB ((bitsL n i).drop k) = i / 2 ^ k := by
  by_cases hk : k ≤ n
  · have e : (bitsL n i).drop k = bitsL (n - k) (i / 2 ^ k) := by
      apply List.ext_getElem?
      intro m
      rw [List.getElem?_drop]
      by_cases hm : m < n - k
      · rw [bitsL_get hm, bitsL_get (by omega), Int.ediv_ediv_of_nonneg (Int.le_of_lt (pow_pos' k)), Int.pow_add]
      · rw [bitsL_none (by omega), bitsL_none (by omega)]
    rw [e, ofB_bits]
    refine Int.emod_eq_of_lt (Int.ediv_nonneg h0 (Int.le_of_lt (pow_pos' k))) ?_
    refine Int.ediv_lt_of_lt_mul (pow_pos' k) ?_
    rw [Int.mul_comm, ← pow_split hk]; exact h
  · rw [List.drop_of_length_le (by rw [bitsL_len]; omega)]
    rw [Int.ediv_eq_zero_of_lt h0 (Int.lt_of_lt_of_le h (pow_le (by omega)))]; rfl
theorem flat_rep {α : Type} (k : Nat) (x : α) : (List.replicate k [x]).flatten = List.replicate k x := by
  induction k with
  | zero => rfl
  | succ k ih => rw [List.replicate_succ, List.flatten_cons, ih, List.replicate_succ]; rfl
theorem sh_tup (ns : List Int) : SeqAt.shaped (tupD ns) = true := by
  unfold SeqAt.shaped tupD
  have h1 : (PyData.tuple (ns.map .int)).canLay0 = true := PyProof.Rows.canLayAll_ints ns
  have h2 : (PyData.tuple (ns.map .int)).depth = 1 + 0 := by simp only [PyData.depth, PyProof.Rows.depthAll_ints]
  rw [h1, h2]; rfl
theorem sh_lst (ns : List Int) : SeqAt.shaped (lstD ns) = true := by
  unfold SeqAt.shaped lstD
  have h1 : (PyData.list (ns.map .int)).canLay0 = true := PyProof.Rows.canLayAll_ints ns
  have h2 : (PyData.list (ns.map .int)).depth = 1 + 0 := by simp only [PyData.depth, PyProof.Rows.depthAll_ints]
  rw [h1, h2]; rfl
theorem neT {K : PySem.W.Frag} {H : Hp} {a b : Addr} {ns ms : List Int} {Q : VK} (h1 : SqT K H a (ns.map V.int)) (h2 : SqT K H b (ms.map V.int)) (q : Q (.bl (!decide (ns = ms))) H) : rNeD K (.ref a) (.ref b) H Q :=
  ⟨_, _, dp_tup h1, dp_tup h2, sh_tup _, sh_tup _, by rw [eqv_tupD]; exact q⟩
theorem eqT {K : PySem.W.Frag} {H : Hp} {a b : Addr} {ns ms : List Int} {Q : VK} (h1 : SqT K H a (ns.map V.int)) (h2 : SqT K H b (ms.map V.int)) (q : Q (.bl (decide (ns = ms))) H) : rEqD K (.ref a) (.ref b) H Q :=
  ⟨_, _, dp_tup h1, dp_tup h2, sh_tup _, sh_tup _, by rw [eqv_tupD]; exact q⟩
/-- data that is told by itself -/
theorem eqD {K : PySem.W.Frag} {H : Hp} {x y : V} {d e : PyData} {Q : VK} (h1 : Dp K H x d) (h2 : Dp K H y e) (s1 : SeqAt.shaped d = true) (s2 : SeqAt.shaped e = true) {b : Bool} (hb : PyData.eqv d e = b) (q : Q (.bl b) H) : rEqD K x y H Q :=
  ⟨_, _, h1, h2, s1, s2, by rw [hb]; exact q⟩
theorem neD {K : PySem.W.Frag} {H : Hp} {x y : V} {d e : PyData} {Q : VK} (h1 : Dp K H x d) (h2 : Dp K H y e) (s1 : SeqAt.shaped d = true) (s2 : SeqAt.shaped e = true) {b : Bool} (hb : PyData.eqv d e = b) (q : Q (.bl (!b)) H) : rNeD K x y H Q :=
  ⟨_, _, h1, h2, s1, s2, by rw [hb]; exact q⟩
theorem _root_.Evl.Ex.lst {H H' : Hp} {a : Addr} {o : HO} (e : Evl.Ex H H') (h : H a = some o) : H' a = some o := e a o h
/-- the signed numbers' product is that of the words -/
theorem sgn_mul (n : Nat) (i j : Int) : sgn n i * sgn n j % 2 ^ n = i * j % 2 ^ n := by
  have a1 : sgn n i % 2 ^ n = i % 2 ^ n := by unfold sgn; rw [Int.sub_emod, Int.mul_emod_left, Int.sub_zero, Int.emod_emod]
  have a2 : sgn n j % 2 ^ n = j % 2 ^ n := by unfold sgn; rw [Int.sub_emod, Int.mul_emod_left, Int.sub_zero, Int.emod_emod]
  rw [Int.mul_emod, a1, a2, ← Int.mul_emod]
theorem sgn_bd {n : Nat} {i : Int} (h1 : 1 ≤ n) (h0 : 0 ≤ i) (h : i < 2 ^ n) : -(2 ^ n) ≤ sgn n i ∧ sgn n i < 2 ^ n := by
  unfold sgn
  have hq := pow_pos' (n - 1)
  have e : (2 : Int) ^ n = 2 ^ (n - 1) * 2 := by rw [← Int.pow_succ]; congr 1; omega
  have b1 : 0 ≤ i / 2 ^ (n - 1) := Int.ediv_nonneg h0 (Int.le_of_lt hq)
  have b2 : i / 2 ^ (n - 1) < 2 := Int.ediv_lt_of_lt_mul hq (by rw [Int.mul_comm, ← e]; exact h)
  have b3 : i / 2 ^ (n - 1) = 0 ∨ i / 2 ^ (n - 1) = 1 := by omega
  rcases b3 with b | b <;> rw [b] <;> omega
/-! ### the lowest bit -/
theorem op_and1 {X : Cx} : OpR X (binaryOp .BitAnd) (fun x y H Q => ∃ i : Int, x = .int i ∧ y = .int 1 ∧ Q (.int (i % 2)) H) := by
  intro pins s σ H x y v u Q I rx ry h
  obtain ⟨i, rfl, rfl, q⟩ := h
  exact op_andM pins s σ H (.int i) (.int 1) v u Q I rx ry ⟨i, 1, rfl, rfl, q⟩
/-! ### carries -/
def cy (i j c : Int) (k : Nat) : Int := (i % 2 ^ k + j % 2 ^ k + c) / 2 ^ k
def cyL (n : Nat) (i j c : Int) : List Int := (List.range n).map (cy i j c)
theorem cyL_len (n : Nat) (i j c : Int) : (cyL n i j c).length = n := by unfold cyL; rw [List.length_map, List.length_range]
theorem cyL_succ (n : Nat) (i j c : Int) : cyL (n + 1) i j c = cyL n i j c ++ [cy i j c n] := by
  unfold cyL; rw [List.range_succ, List.map_append]; rfl
theorem cyL_get {n k : Nat} {i j c : Int} (h : k < n) : (cyL n i j c)[k]? = some (cy i j c k) := by
  unfold cyL; rw [List.getElem?_map, List.getElem?_range h]; rfl
theorem cy_zero (i j c : Int) : cy i j c 0 = c := by
  unfold cy; rw [Int.pow_zero, Int.emod_one, Int.emod_one, Int.ediv_one]; omega
theorem cy_succ (i j c : Int) (k : Nat) : cy i j c (k + 1) = (i / 2 ^ k % 2 + j / 2 ^ k % 2 + cy i j c k) / 2 := by
  unfold cy
  have hp := pow_pos' k
  rw [Int.pow_succ, emod_two_mul hp, emod_two_mul hp, ← Int.ediv_ediv_of_nonneg (Int.le_of_lt hp)]
  have e : i % 2 ^ k + 2 ^ k * (i / 2 ^ k % 2) + (j % 2 ^ k + 2 ^ k * (j / 2 ^ k % 2)) + c = (i % 2 ^ k + j % 2 ^ k + c) + 2 ^ k * (i / 2 ^ k % 2 + j / 2 ^ k % 2) := by
    rw [Int.mul_add]; omega
  rw [e, Int.add_mul_ediv_left _ _ (Int.ne_of_gt hp)]
  congr 1; omega
/-- the bits of a sum, by its carries -/
theorem sum_bit (i j c : Int) (k : Nat) : (i / 2 ^ k % 2 + j / 2 ^ k % 2 + cy i j c k) % 2 = (i + j + c) / 2 ^ k % 2 := by
  unfold cy
  have hp := pow_pos' k
  have e : i + j + c = (i % 2 ^ k + j % 2 ^ k + c) + 2 ^ k * (i / 2 ^ k + j / 2 ^ k) := by
    have h1 := Int.mul_ediv_add_emod i (2 ^ k)
    have h2 := Int.mul_ediv_add_emod j (2 ^ k)
    rw [Int.mul_add]; omega
  rw [e, Int.add_mul_ediv_left _ _ (Int.ne_of_gt hp)]
  omega
theorem cy_bd {i j c : Int} (h0 : 0 ≤ c) (h1 : c ≤ 1) (k : Nat) : 0 ≤ cy i j c k ∧ cy i j c k ≤ 1 := by
  unfold cy
  have hp := pow_pos' k
  have a := mod_bd (a := i) hp
  have b := mod_bd (a := j) hp
  constructor
  · exact Int.ediv_nonneg (by omega) (Int.le_of_lt hp)
  · have := Int.ediv_lt_of_lt_mul (a := i % 2 ^ k + j % 2 ^ k + c) (b := 2) hp (by omega)
    omega
theorem cy_top {i j c : Int} {n : Nat} (hi0 : 0 ≤ i) (hi : i < 2 ^ n) (hj0 : 0 ≤ j) (hj : j < 2 ^ n) : cy i j c n = (i + j + c) / 2 ^ n := by
  unfold cy; rw [Int.emod_eq_of_lt hi0 hi, Int.emod_eq_of_lt hj0 hj]
/-- words with their top bits turned -/
theorem sgn_turned {n : Nat} {i : Int} (h1 : 1 ≤ n) (h0 : 0 ≤ i) (h : i < 2 ^ n) : sgn n i = (i + 2 ^ (n - 1)) % 2 ^ n - 2 ^ (n - 1) := by
  unfold sgn
  have hq := pow_pos' (n - 1)
  have e : (2 : Int) ^ n = 2 ^ (n - 1) * 2 := by rw [← Int.pow_succ]; congr 1; omega
  have b1 : 0 ≤ i / 2 ^ (n - 1) := Int.ediv_nonneg h0 (Int.le_of_lt hq)
  have b2 : i / 2 ^ (n - 1) < 2 := Int.ediv_lt_of_lt_mul hq (by rw [Int.mul_comm, ← e]; exact h)
  have b3 : i / 2 ^ (n - 1) = 0 ∨ i / 2 ^ (n - 1) = 1 := by omega
  have h2 := Int.mul_ediv_add_emod i (2 ^ (n - 1))
  have h3 := mod_bd (a := i) hq
  rcases b3 with b | b
  · rw [b] at h2 ⊢
    have : (i + 2 ^ (n - 1)) % 2 ^ n = i + 2 ^ (n - 1) := Int.emod_eq_of_lt (by omega) (by omega)
    rw [this]; omega
  · rw [b] at h2 ⊢
    have : (i + 2 ^ (n - 1)) % 2 ^ n = i + 2 ^ (n - 1) - 2 ^ n := by
      rw [show i + 2 ^ (n - 1) = (i + 2 ^ (n - 1) - 2 ^ n) + 2 ^ n by omega, Int.add_emod_right]
      rw [Int.emod_eq_of_lt (by omega) (by omega)]
      omega
    rw [this]; omega
/-! ### comprehensions -/
def Lc (J : It) (g : TG) (tt : TT) (te : TE) (vs : List Nat) (σ : St) (H1 : Hp) (D : Addr) (Qd : Hp → Prop) : Prop := ∃ W : Nat → Nat → Hp → Prop, (∃ m, W 0 m (upd H1 D (.lst []))) ∧ ∀ i m H, W i m H →
  (J.stop i H ∧ Qd H) ∨ (J.go i H ∧ ∃ Nx : Hp → Prop, (∀ H', Nx H' → ∃ m', m' < m ∧ W (i + 1) m' H') ∧ ∀ x H', J.yld i H x H' → g x (wipe σ vs) H' fun σ2 H2 => wipe σ2 vs = wipe σ vs ∧ tt σ2 H2 fun b H3 =>
    if b = true then te σ2 H3 fun y H4 => ∃ acc, H4 D = some (.lst acc) ∧ acc.length < sizeLine ∧ Nx (upd H4 D (.lst (acc ++ [y]))) else Nx H3)
theorem tLc_eq {wi : TI} {g : TG} {tt : TT} {te : TE} {vs : List Nat} {σ : St} {H : Hp} {Q : VK} : tLc wi g tt te vs σ H Q = wi σ H (fun J H1 => ∀ D, H1 D = none → Lc J g tt te vs σ H1 D (fun H' => Q (.ref D) H')) := rfl
/-- what is kept of n turns -/
def kept (n : Nat) (keep : Nat → Bool) (f : Nat → V) : List V := ((List.range n).filter keep).map f
theorem kept_yes {n : Nat} {k : Nat → Bool} {f : Nat → V} (h : k n = true) : kept (n + 1) k f = kept n k f ++ [f n] := by
  unfold kept
  rw [List.range_succ, List.filter_append, List.map_append, List.filter_cons, if_pos h] <;> rfl
theorem kept_no {n : Nat} {k : Nat → Bool} {f : Nat → V} (h : k n = false) : kept (n + 1) k f = kept n k f := by
  unfold kept
  rw [List.range_succ, List.filter_append, List.map_append, List.filter_cons, if_neg (by rw [h]; decide)]
  show _ ++ [] = _
  rw [List.append_nil]
theorem kept_len (n : Nat) (k : Nat → Bool) (f : Nat → V) : (kept n k f).length ≤ n := by
  unfold kept
  rw [List.length_map]
  have h := List.length_filter_le k (List.range n)
  rwa [List.length_range] at h
theorem kept_all {n : Nat} {f : Nat → V} : kept n (fun _ => true) f = (List.range n).map f := by
  unfold kept
  rw [List.filter_eq_self.mpr (fun _ _ => rfl)]
theorem lc_go {J : It} {n : Nat} {G : Hp → Prop} {Y : Nat → Hp → V → Hp → Prop} {g : TG} {tt : TT} {te : TE} {vs : List Nat} {σ : St} {H1 : Hp} {D : Addr} {Qd : Hp → Prop} (w : Walk J n G Y) (keep : Nat → Bool) (f : Nat → V) (hn : n ≤ 50000) (hD : H1 D = none) (hG : ∀ H', Ex H1 H' → G H')
    (hs : ∀ i x H' H2, i < n → Ex H1 H' → Y i H' x H2 → ∀ (Qe : VK) (Qn : Hp → Prop), (∀ H5, Ex H' H5 → keep i = true → Qe (f i) H5) → (∀ H5, Ex H' H5 → keep i = false → Qn H5) →
      g x (wipe σ vs) H2 fun σ2 H3 => wipe σ2 vs = wipe σ vs ∧ tt σ2 H3 fun b H4 => if b = true then te σ2 H4 Qe else Qn H4)
    (hd : ∀ H', Ex H1 H' → H' D = some (.lst (kept n keep f)) → Qd H') : Lc J g tt te vs σ H1 D Qd := by
  refine lc_it w (fun i H' => Ex H1 H' ∧ H' D = some (.lst (kept i keep f))) ⟨ex_upd hD, upd_same⟩ (fun i H' _ p => hG H' p.1) (fun i x H' H2 hi p y => ?_) (fun H' p => hd H' p.1 p.2)
  have hlen : (kept i keep f).length < sizeLine := Nat.lt_of_le_of_lt (kept_len i keep f) (by rw [sizeLine_eq]; omega)
  refine hs i x H' H2 hi p.1 y _ _ (fun H5 e5 hk => ⟨_, e5 _ _ p.2, hlen, (p.1.trans e5).mut hD, ?_⟩) (fun H5 e5 hk => ⟨p.1.trans e5, ?_⟩)
  · rw [upd_same, kept_yes hk]
  · rw [kept_no hk]; exact e5 _ _ p.2
/-- all turns kept -/
theorem lc_map {J : It} {n : Nat} {G : Hp → Prop} {Y : Nat → Hp → V → Hp → Prop} {g : TG} {te : TE} {vs : List Nat} {σ : St} {H1 : Hp} {D : Addr} {Qd : Hp → Prop} (w : Walk J n G Y) (f : Nat → V) (hn : n ≤ 50000) (hD : H1 D = none) (hG : ∀ H', Ex H1 H' → G H')
    (hs : ∀ i x H' H2, i < n → Ex H1 H' → Y i H' x H2 → ∀ (Qe : VK), (∀ H5, Ex H' H5 → Qe (f i) H5) → g x (wipe σ vs) H2 fun σ2 H3 => wipe σ2 vs = wipe σ vs ∧ te σ2 H3 Qe)
    (hd : ∀ H', Ex H1 H' → H' D = some (.lst ((List.range n).map f)) → Qd H') : Lc J g tYes te vs σ H1 D Qd := by
  refine lc_it w (fun i H' => Ex H1 H' ∧ H' D = some (.lst ((List.range i).map f))) ⟨ex_upd hD, upd_same⟩ (fun i H' _ p => hG H' p.1) (fun i x H' H2 hi p y => ?_) (fun H' p => hd H' p.1 p.2)
  have hlen : ((List.range i).map f).length < sizeLine := by rw [List.length_map, List.length_range, sizeLine_eq]; omega
  refine hs i x H' H2 hi p.1 y _ (fun H5 e5 => ⟨_, e5 _ _ p.2, hlen, (p.1.trans e5).mut hD, ?_⟩)
  rw [upd_same, List.range_succ, List.map_append]; rfl
theorem call_repr_bl {X : Cx} : CallR X (.builtin "repr") (fun xs H Q => ∃ b, xs = [.bl b] ∧ Q (.str (if b then "True" else "False")) H) := by
  intro pins s σ H xs us Q I r h
  obtain ⟨b, rfl, q⟩ := h
  obtain ⟨u, rfl, rfl⟩ := vals1 r
  exact PySem.P.repr_of_bool ⟨.str _, H, I.tok _, ⟨_, rfl⟩, q⟩
section
open PySem.Spec PyProof.Rows
/-! ### enumerate over what an iterator begins (a tuple) -/
theorem enumB_new {v : Value} {o : Obj} {G : Heap → Prop} (B : Begins v o G) : Meets (Builtin.«enumerate.__new__» ⟨[.type "enumerate", v], []⟩) (fun _ R s => G s.heap ∧
    R (.ok (.ret (.ref (s.heap.push o).objs.size))) { s with heap := (s.heap.push o).push { cls := .type "enumerate", data := .fields #[.none, .bool false, .ref s.heap.objs.size, rawInt 0, .none, .none] } }) := by
  refine .of_wp fun pr wo Ar R s hh => ?_
  obtain ⟨hp, gs, dr, tk, os⟩ := s
  obtain ⟨g0, hk⟩ := hh
  have sub := sub_enumerate
  have go : ∀ {Ax : Around} {Ex' : Value → Shared → Prop} {Qx : Value → Shared → Prop}, Qx (.ref hp.objs.size) ⟨hp.push o, gs, dr, tk, os⟩ → wpAny (model pr wo) Ax (pyIter v) Qx Ex' ⟨hp, gs, dr, tk, os⟩ :=
    fun z => B.iter pr wo _ _ ⟨hp, gs, dr, tk, os⟩ _ g0 z
  wp_walk using go
  refine wpAny_stack_any fun st => wpAny_pure ?_
  split
  · rename_i c _ _ _ _ _
    cases (c == Value.type "enumerate") <;> (wp_walk using go; exact ⟨_, rfl, hk⟩)
  · wp_walk using go
    exact ⟨_, rfl, hk⟩
theorem enumT_call {prog : Program} {w : World} {A : Around} {E : Value → Shared → Prop} {s : Shared} {t : Addr} {its : Array Value} {Q : Value → Shared → Prop} (ht : s.heap.IsTuple t its)
    (k : ∀ h', IsEnum h' (s.heap.objs.size + 1) s.heap.objs.size 0 .none → h'.IsTupleIter s.heap.objs.size t 0 → (∀ b o, s.heap.get? b = some o → h'.get? b = some o) → Q (.ref (s.heap.objs.size + 1)) { s with heap := h' }) :
    wpAny (model prog w) A (call (.type "enumerate") [.ref t]) Q E s := by
  refine callType_new F.called_enumerate (by decide) (F.typeCall_enumerate_1 _) (F.newCall_enumerate_1 _) (fun ob => F.args_object_init_2 ob _) F.entry_enumerate_new (enumB_new (begins_tuple t its)) ⟨ht, ?_⟩
  generalize ho : ({ cls := .type "tuple_iterator", data := .fields #[.ref t, .int 0 0] } : Obj) = o1
  have fr : o1.isFreed = false := by rw [← ho]; rfl
  have hz : (s.heap.push o1).objs.size = s.heap.objs.size + 1 := Heap.size_push ..
  show _ ∧ _
  rw [hz]
  have he : ((s.heap.push o1).push { cls := .type "enumerate", data := .fields #[.none, .bool false, .ref s.heap.objs.size, rawInt 0, .none, .none] }).get? (s.heap.objs.size + 1) = some { cls := .type "enumerate", data := .fields #[.none, .bool false, .ref s.heap.objs.size, rawInt 0, .none, .none] } := by
    rw [← hz]; exact Heap.get?_push_size _ rfl
  refine ⟨⟨_, he, rfl⟩, k _ he ⟨o1, Heap.get?_push_of_some _ (Heap.get?_push_size _ fr), ?_, ?_⟩ fun b o hb => Heap.get?_push_of_some _ (Heap.get?_push_of_some _ hb)⟩
  · rw [← ho]
  · rw [← ho]; rfl
/-- the tuple at a as it stands at each turn, each item in a new pair -/
def IteT (K : PySem.W.Frag) (a : Addr) : It where
  go := fun i H => ∃ (xs : List V) (x : V), SqT K H a xs ∧ xs[i]? = some x
  yld := fun i H v H' => ∃ q x, v = .ref q ∧ H q = none ∧ H' = upd H q (.tup [.int (i : Nat), x]) ∧ ∀ xs, SqT K H a xs → xs[i]? = some x
  stop := fun i H => ∃ xs : List V, SqT K H a xs ∧ xs.length = i
theorem turn_enumT {P : Program} {w : World} {K : PySem.W.Frag} {elts : List Expr} {kk : Nat} {tp : Pos} (a e it : Addr) :
    Turn P w K (.Tuple elts kk tp) (IteT K a) [e, it] e (fun i h => (∃ old, IsEnum h e it ((i : Nat) : Int) old) ∧ h.IsTupleIter it a i ∧ e ≠ it ∧ a ≠ it ∧ a ≠ e) where
  mem := List.mem_cons_self ..
  obj := fun i h st b hb => by
    obtain ⟨⟨old, he⟩, ⟨o, ho, _, hd⟩, _⟩ := st
    rcases List.mem_cons.mp hb with z | z
    · rw [z]; exact ⟨_, he, fun v q => nomatch q⟩
    · rw [List.mem_singleton.mp z]; exact ⟨o, ho, fun v q => by rw [hd] at q; cases q⟩
  keep := fun i h h' st k => ⟨let ⟨old, he⟩ := st.1; ⟨old, k e (by simp) _ he⟩, st.2.1.at fun o q => k it (by simp) o q, st.2.2⟩
  item := by
    intro X hP hw hK hc i pins s σ H E I hf st hg
    subst hP hw hK
    obtain ⟨⟨old, he⟩, hit, hne, na, nb⟩ := st
    obtain ⟨xs, x, hq, hx⟩ := hg
    obtain ⟨its, rv, p, hz⟩ := I.tuple hq
    obtain ⟨u, hu, ru⟩ := rv.get hx
    have le : e < s.heap.objs.size := Heap.lt_size he
    have li : it < s.heap.objs.size := by obtain ⟨_, q, _⟩ := hit; exact Heap.lt_size q
    have hi : i < its.toArray.size := by
      have := (List.getElem?_eq_some_iff.mp hu).1
      simpa using this
    have hh : X.A.in1.handled = none := I.ok.hd hc
    refine wpAny_pyNext_enum_itemD (Draws.tuple hh it a na its.toArray) he ⟨hit, p⟩ hi hne (by simp; exact ⟨hne, Ne.symm nb⟩) fun x' h' tk hP ho hst hT hsz hk => ?_
    have ex : x' = u := by
      have h2 : its[i]? = some x' := by simpa using hP
      rw [hu] at h2; exact (Option.some.inj h2).symm
    subst ex
    refine ⟨_, rfl, wpAny_letOwnedTupleGo_enum (s := { s with heap := h', toks := tk + 1 }) ho fun h2 he2 sb => ?_⟩
    have hT2 : h2.get? s.heap.objs.size = some { cls := .type "tuple", data := .seq #[.int i tk, x'] } := (sb.2 _ (Nat.ne_of_gt le)).trans hT
    have new : ObjOk X.prog X.w (upd H s.heap.objs.size (.tup [.int (i : Nat), x])) h2 s.heap.objs.size (.tup [.int (i : Nat), x]) :=
      ⟨(by decide : 2 ≤ sizeLine), [.int i tk, x'], .cons ⟨_, rfl⟩ (.cons ru .nil), _, hT2, rfl, _, rfl⟩
    have I1 : Inv X pins σ (upd H s.heap.objs.size (.tup [.int (i : Nat), x])) { s with heap := h2, toks := tk + 1 } :=
      I.turnedNew (ch := [e, it]) (fun b ob hb q => (sb.2 b (fun z => hb (by simp [z]))).trans (hk b ob (fun z => hb (by simp [z])) (fun z => hb (by simp [z])) q)) hf (Nat.le_refl _) new
    refine ⟨.ref s.heap.objs.size, _, I1, rfl, ⟨_, x, rfl, I.hok.fresh (Nat.le_refl _), rfl, fun ys hy => by rw [I.tuple_inj hy hq]; exact hx⟩, ⟨⟨x', ?_⟩, hst.1.at fun o q => (sb.2 it (Ne.symm hne)).trans q, hne, na, nb⟩, fun b hb => ?_⟩
    · rw [show ((i + 1 : Nat) : Int) = (i : Int) + 1 by omega]; exact he2
    · have lb : b < s.heap.objs.size := by
        rcases List.mem_cons.mp hb with z | z
        · rw [z]; exact le
        · rw [List.mem_singleton.mp z]; exact li
      rw [upd_ne (Nat.ne_of_lt lb)]
      exact (hf b hb).1
  done := by
    intro X hP hw hK hc i pins s σ H E I hf st hg
    subst hP hw hK
    obtain ⟨⟨old, he⟩, hit, hne, na, nb⟩ := st
    obtain ⟨xs, hq, hx⟩ := hg
    obtain ⟨its, rv, p, hz⟩ := I.tuple hq
    obtain ⟨f0, f1, f2, f3, f4, f5⟩ := hf it (by simp)
    have hl := rv.length
    have hh : X.A.in1.handled = none := I.ok.hd hc
    have hs : its.toArray.size = i := by rw [List.size_toArray]; omega
    exact wpAny_pyNext_enum_endD (Draws.tuple hh it a na its.toArray) he ⟨by rw [hs]; exact hit, p⟩ fun h' eb => ⟨rfl, I.turned (t' := s.toks) (fun b o hb q => eb b o hb q) f0 f1 f3 f4 f5⟩
  self := fun A i s Q E st h => let ⟨⟨_, he⟩, _⟩ := st; wpAny_pyIter_enum he h
def iEnumT (K : PySem.W.Frag) (ta : TA) : TI := fun σ H R => ta σ H fun vs H1 => ∃ a xs, vs = [.ref a] ∧ SqT K H1 a xs ∧ R (IteT K a) H1
theorem pi_enumT {X : Cx} {e : Expr} {ta : TA} {p pos tp : Pos} {elts : List Expr} {kk : Nat} (hg : Gl X "enumerate") (hm : X.mg "enumerate" = none) (ha : PA X [e] ta) (hs : starEach [e] X.env = [(false, eval e X.env)] := by rfl) :
    PI X (.Tuple elts kk tp) (.Call (.Name "enumerate" p) [e] [] pos) (iEnumT X.K ta) := by
  refine ⟨fun pins s σ H R I h => ?_⟩
  refine Call_ (ld_blt I hg hm boot_enumerate (PyProof.Rows.callWith_type1 (thn (ha.run pos pins s σ H _ I h) fun us s1 ⟨vs, H1, I1, r1, a, xs, ex, hq, q⟩ => ?_) hs rfl))
  subst ex
  obtain ⟨u, rfl, ru⟩ := vals1 r1
  cases ru
  obtain ⟨its, rv, p', hz⟩ := I1.tuple hq
  refine enumT_call (its := its.toArray) p' fun h' he hit hk => wpAny_pyIter_enum he ?_
  have I2 : Inv X pins σ H1 { s1 with heap := h' } := I1.kept (t' := s1.toks) hk
  have la : a < s1.heap.objs.size := IsTup.lt p'
  refine ⟨s1.heap.objs.size + 1, [s1.heap.objs.size + 1, s1.heap.objs.size], _, _, H1, rfl, I2, turn_enumT a (s1.heap.objs.size + 1) s1.heap.objs.size, ⟨⟨.none, he⟩, hit, Nat.succ_ne_self _, Nat.ne_of_lt la, Nat.ne_of_lt (Nat.lt_succ_of_lt la)⟩, fun b hb => ?_, q⟩
  have lb : s1.heap.objs.size ≤ b := by
    rcases List.mem_cons.mp hb with z | z
    · rw [z]; exact Nat.le_add_right _ _
    · rw [List.mem_singleton.mp z]; exact Nat.le_refl _
  exact I1.fpOk lb (I1.hok.fresh lb)
theorem walk_enumT {K : PySem.W.Frag} {a : Addr} {xs : List V} : Walk (IteT K a) xs.length (fun H => SqT K H a xs) (YPair (fun i => some (.int (i : Nat))) (fun i => xs[i]?)) := by
  refine ⟨fun i _ hi q => ⟨xs, xs[i], q, by simp [hi]⟩, fun _ q => ⟨xs, q, rfl⟩, fun i H v H' _ q y => ?_⟩
  obtain ⟨T, x, h1, h2, h3, h4⟩ := y
  exact ⟨T, .int (i : Nat), x, h1, h2, h3, rfl, h4 xs q⟩
end
/-- for i, x in enumerate(tuple) -/
theorem lpET {K : PySem.W.Frag} {g : TG} {tb : TS} {D : Ends} {σ : St} {H : Hp} {a : Addr} {xs : List V} (Pv : Nat → St → Hp → Prop) (h0 : Pv 0 σ H) (hl : ∀ i σ' H', i ≤ xs.length → Pv i σ' H' → SqT K H' a xs)
    (hs : ∀ i x T σ' H', xs[i]? = some x → Pv i σ' H' → H' T = none → g (.ref T) σ' (upd H' T (.tup [.int i, x])) fun σ2 H2 => tb { D with nx := Pv (i + 1), ct := Pv (i + 1), bk := D.nx } σ2 H2) (hd : ∀ σ' H', Pv xs.length σ' H' → D.nx σ' H') : Lp (IteT K a) g tb D σ H :=
  for_it walk_enumT Pv h0 hl (fun i x σ' H' H2 hi p y => by
    obtain ⟨T, x1, x2, rfl, hT, rfl, e1, e2⟩ := y
    cases e1
    exact hs i x2 T σ' H' e2 p hT) hd
theorem whW {c : TT} {tb : TS} {D : Ends} {σ : St} {H : Hp} (W : Nat → St → Hp → Prop) (m0 : Nat) (h0 : W m0 σ H)
    (hs : ∀ m σ' H', W m σ' H' → c σ' H' fun b H1 => if b = true then ∃ N : St → Hp → Prop, (∀ s2 H2, N s2 H2 → ∃ m', m' < m ∧ W m' s2 H2) ∧ tb { D with nx := N, ct := N, bk := D.nx } σ' H1 else D.nx σ' H1) : tWhile c tb D σ H := ⟨W, ⟨m0, h0⟩, hs⟩
/-! ### parts put together -/
def joinP : List (Nat × Int) → Int
  | [] => 0
  | p :: r => p.2 + 2 ^ p.1 * joinP r
def wideP (ps : List (Nat × Int)) : Nat := (ps.map (·.1)).sum
theorem wideP_app (ps : List (Nat × Int)) (p : Nat × Int) : wideP (ps ++ [p]) = wideP ps + p.1 := by
  unfold wideP; rw [List.map_append, List.sum_append]; simp
theorem joinP_app (ps : List (Nat × Int)) (p : Nat × Int) : joinP (ps ++ [p]) = joinP ps + 2 ^ wideP ps * p.2 := by
  induction ps with
  | nil => show p.2 + 2 ^ p.1 * 0 = 0 + 1 * p.2; omega
  | cons q r ih =>
    show q.2 + 2 ^ q.1 * joinP (r ++ [p]) = q.2 + 2 ^ q.1 * joinP r + 2 ^ (wideP (q :: r)) * p.2
    have e : wideP (q :: r) = q.1 + wideP r := by unfold wideP; rw [List.map_cons, List.sum_cons]
    rw [ih, e, Int.pow_add, Int.mul_add, ← Int.mul_assoc]; omega
/-- each a pair (width, word) that stands in the heap -/
def PartsAt (H : Hp) (xs : List V) (ps : List (Nat × Int)) : Prop := Paired (fun (v : V) (p : Nat × Int) => (∃ q, v = .ref q ∧ H q = some (.tup [.int p.1, .int p.2])) ∧ 1 ≤ p.1 ∧ p.1 ≤ 32 ∧ 0 ≤ p.2 ∧ p.2 < 2 ^ p.1) xs ps
theorem PartsAt.ex {H H' : Hp} {xs : List V} {ps : List (Nat × Int)} (e : Ex H H') (h : PartsAt H xs ps) : PartsAt H' xs ps := Paired.mapP h fun _ _ ⟨⟨q, e1, e2⟩, r⟩ => ⟨⟨q, e1, e _ _ e2⟩, r⟩
theorem Paired.at' {α β : Type} {R : α → β → Prop} : ∀ {xs : List α} {ys : List β} {i : Nat} {x : α}, Paired R xs ys → xs[i]? = some x → ∃ y, ys[i]? = some y ∧ R x y
  | _, _, _, _, .nil, h => by simp at h
  | _, _, 0, _, .cons r _, h => by simp at h; subst h; exact ⟨_, rfl, r⟩
  | _, _, i + 1, x, .cons _ t, h => by
    obtain ⟨y, h1, h2⟩ := Paired.at' (i := i) t (by simpa using h)
    exact ⟨y, by simpa using h1, h2⟩
theorem Paired.app' {α β : Type} {R : α → β → Prop} : ∀ {xs : List α} {ys : List β} {x : α} {y : β}, Paired R xs ys → R x y → Paired R (xs ++ [x]) (ys ++ [y])
  | _, _, _, _, .nil, r => .cons r .nil
  | _, _, _, _, .cons q t, r => .cons q (Paired.app' t r)
theorem Paired.len' {α β : Type} {R : α → β → Prop} : ∀ {xs : List α} {ys : List β}, Paired R xs ys → xs.length = ys.length
  | _, _, .nil => rfl
  | _, _, .cons _ t => congrArg Nat.succ (Paired.len' t)
theorem range_take {α : Type} (xs : List α) (d : α) : (List.range xs.length).map (fun i => xs.getD i d) = xs := by
  apply List.ext_getElem
  · simp
  · intro i h1 h2
    have h3 : i < xs.length := by simpa using h1
    simp [h3]
theorem all_true {K : PySem.W.Frag} {H : Hp} {D : Addr} {n : Nat} {f : Nat → V} {Q : VK} (h : H D = some (.lst ((List.range n).map f))) (hf : ∀ i, i < n → f i = .bl true) (q : Q (.bl true) H) : rAll K [.ref D] H Q := by
  refine ⟨D, (List.range n).map fun _ => true, rfl, .of ?_, ?_⟩
  · rw [h, List.map_map]
    congr 2
    apply List.map_congr_left
    intro i hi
    exact hf i (List.mem_range.mp hi)
  · have : ((List.range n).map fun _ => true).all id = true := by simp
    rw [this]; exact q
theorem ofB_sum (bs : List Int) : ((List.range bs.length).map fun k => bs.getD k 0 * 2 ^ k).sum = ofB bs := by
  have gen : ∀ (n : Nat), n ≤ bs.length → ((List.range n).map fun k => bs.getD k 0 * 2 ^ k).sum = ofB (bs.take n) := by
    intro n
    induction n with
    | zero => intro _; rfl
    | succ n ih =>
      intro hn
      have e : bs.take (n + 1) = bs.take n ++ [bs.getD n 0] := by
        rw [List.take_add_one, List.getElem?_eq_getElem (by omega)]
        simp [List.getD, List.getElem?_eq_getElem (show n < bs.length by omega)]
      rw [List.range_succ, List.map_append, List.sum_append, ih (by omega), e, ofB_app, List.length_take, Nat.min_eq_left (by omega)]
      simp [Int.mul_comm]
  rw [gen bs.length (Nat.le_refl _), List.take_length]
/-! ### rules whose fragment is told apart (within comprehensions) -/
section
variable {X : Cx} {K : PySem.W.Frag}
theorem k_ix_tup (e : X.K = K) : IxR X (rIxT K) := e ▸ ix_tup
theorem k_ix_list (e : X.K = K) : IxR X (rIxL K) := e ▸ ix_list
theorem k_call_isi (e : X.K = K) : CallR X (.builtin "isinstance") (rIsi K) := e ▸ call_isi
theorem k_call_len (e : X.K = K) : CallR X (.builtin "len") (fun xs H Q => ∃ p ys, xs = [.ref p] ∧ (SqL K H p ys ∨ SqT K H p ys) ∧ Q (.int ys.length) H) := e ▸ call_len_seq
theorem k_call_tuple (e : X.K = K) : CallR X (.type "tuple") (fun xs H Q => ∃ p ys, xs = [.ref p] ∧ ((SqL K H p ys ∧ ∀ l, H l = none → Q (.ref l) (upd H l (.tup ys))) ∨ (SqT K H p ys ∧ Q (.ref p) H))) := e ▸ call_tuple_of
theorem k_op_in (e : X.K = K) : OpR X (compareOp .In) (rIn K false) := e ▸ op_in_seq
theorem k_op_notin (e : X.K = K) : OpR X (compareOp .NotIn) (rIn K true) := e ▸ op_notIn_seq
theorem k_op_eqD (hu : X.A.units + 64 < cLine) (e : X.K = K) : OpR X (compareOp .Eq) (rEqD K) := e ▸ op_eqD hu
theorem k_op_neD (hu : X.A.units + 64 < cLine) (e : X.K = K) : OpR X (compareOp .NotEq) (rNeD K) := e ▸ op_neD hu
theorem k_sl_list (e : X.K = K) : SlR X (rSlL K) := e ▸ sl_list
theorem k_sl_tup (e : X.K = K) : SlR X (rSlT K) := e ▸ sl_tup
end
section
open PySem.Spec PyProof.Rows
/-! ### a tuple taken once, taken not at all -/
theorem tup_times_one (l : Addr) (items : Array Value) (n : Nat) (dd : Option Addr) (sl : Array (Option Value)) (u : Tok) :
    Meets (Builtin.«tuple.__mul__» ⟨[.ref l, .int 1 u], []⟩) (fun _ R s => s.heap.get? l = some { cls := .type "tuple", dict := dd, data := .seq items n, slots := sl } ∧ R (.ok (.ret (Value.ref l))) s) := by
  refine .of_wp fun pr wo Ar R s hh => ?_
  obtain ⟨hp, gs, dr, tk, os⟩ := s
  obtain ⟨hl, hk⟩ := hh
  have f1 := AutoSeq1.idx_int
  have c1 : (items.isEmpty || (1 : Int) == 1) = true := by simp
  wp_walk using AutoSeq1.wpAny_loadPart' hl
  exact ⟨_, rfl, hk⟩
theorem tup_times_no (l : Addr) (items : Array Value) (n : Nat) (dd : Option Addr) (sl : Array (Option Value)) (u : Tok) (hi : items.isEmpty = false) :
    Meets (Builtin.«tuple.__mul__» ⟨[.ref l, .int 0 u], []⟩) (fun _ R s => s.heap.get? l = some { cls := .type "tuple", dict := dd, data := .seq items n, slots := sl } ∧ R (.ok (.ret (Value.ref s.heap.objs.size))) { s with heap := s.heap.push { cls := Value.type "tuple", data := Data.seq #[] } }) := by
  refine .of_wp fun pr wo Ar R s hh => ?_
  obtain ⟨hp, gs, dr, tk, os⟩ := s
  obtain ⟨hl, hk⟩ := hh
  have f1 := AutoSeq1.idx_int
  have c1 : (items.isEmpty || (0 : Int) == 1) = false := by rw [hi]; rfl
  wp_walk using AutoSeq1.wpAny_loadPart' hl
  all_goals (first | exact ⟨_, rfl, hk⟩ | (refine wpAny_ite_false (by rw [c1]; exact Bool.false_ne_true) ?_) | (refine wpAny_ite_false (decide_eq_false (by rw [c1]; exact Bool.false_ne_true)) ?_) | skip)
def rRepA (K : PySem.W.Frag) : R2 := fun x y H Q => ∃ l k xs, x = .ref l ∧ y = .int k ∧ SqT K H l xs ∧ xs ≠ [] ∧ 0 ≤ k ∧ k ≤ 1000 ∧ xs.length ≤ 1000 ∧ (k = 1 → Q (.ref l) H) ∧ (k ≠ 1 → ∀ p, H p = none → Q (.ref p) (upd H p (.tup (List.replicate k.toNat xs).flatten)))
theorem op_repA {X : Cx} : OpR X (binaryOp .Mult) (rRepA X.K) := by
  intro pins s σ H x y v u Q I rx ry h
  obtain ⟨l, k, xs, rfl, rfl, hT, hne, h0, h1, hz, q1, q2⟩ := h
  by_cases h2 : 2 ≤ k
  · exact op_repT pins s σ H _ _ v u Q I rx ry ⟨l, k, xs, rfl, rfl, hT, hne, h2, h1, hz, q2 (by omega)⟩
  cases rx
  obtain ⟨t, rfl⟩ := ry
  obtain ⟨its, r, ⟨⟨cl, dd, da, sl⟩, ho, hc, n, hd⟩, hs⟩ := I.tuple hT
  simp only at hc hd
  subst hc hd
  have hi : its.toArray.isEmpty = false := by
    cases its with
    | nil => exact absurd (List.eq_nil_of_length_eq_zero r.length) hne
    | cons a b => rfl
  have road : ∀ {Qx : Value → Shared → Prop}, wpAny (model X.prog X.w) X.A (call (.builtin "tuple.__mul__") [.ref l, .int k t]) Qx X.xe s → wpAny (model X.prog X.w) X.A (binaryOp .Mult (.ref l) (.int k t)) Qx X.xe s := fun hx =>
    wpAny_binaryOp_repeat_ref (T := "tuple") (U := "int") (by decide) ⟨_, ho, rfl⟩ (fun s' => typeIs_int s' k t) noFill_tuple_mul F.fills_int_mul F.slot_int_rmul repeat_tuple F.slot_int_index.lookup
      (call_meets F.slot_int_rmul (typeIs_int s k t) F.entry_int_rmul (F.args_int_rmul_2 _ _) (int_rmul_tuple k t l its.toArray n dd sl) ⟨ho, rfl, ⟨_, ho, rfl⟩, hx⟩)
  have hk : k = 0 ∨ k = 1 := by omega
  rcases hk with rfl | rfl
  · refine road (call_meets F.slot_tuple_mul ⟨_, ho, rfl⟩ F.entry_tuple_mul (F.args_tuple_mul_2 _ _) (tup_times_no l its.toArray n dd sl t hi) ⟨ho, ?_⟩)
    refine ⟨.ref s.heap.objs.size, _, I.laid (t' := s.toks) (o := .tup []) (fun b ob z => Heap.get?_push_of_some _ z) (Nat.le_refl _) ?_, rfl, q2 (by decide) _ (I.hok.fresh (Nat.le_refl _))⟩
    exact ⟨Nat.zero_le _, [], .nil, IsTup.new _ _⟩
  · refine road (call_meets F.slot_tuple_mul ⟨_, ho, rfl⟩ F.entry_tuple_mul (F.args_tuple_mul_2 _ _) (tup_times_one l its.toArray n dd sl t) ⟨ho, ?_⟩)
    exact ⟨.ref l, H, I, rfl, q1 rfl⟩
end
/-! ### signed numbers of wider words; parts of lists -/
theorem sgn_if {n : Nat} {i : Int} (h1 : 1 ≤ n) (h0 : 0 ≤ i) (h : i < 2 ^ n) : sgn n i = if 2 ^ n ≤ 2 * i then i - 2 ^ n else i := by
  unfold sgn
  have hq := pow_pos' (n - 1)
  have e : (2 : Int) ^ n = 2 ^ (n - 1) * 2 := by rw [← Int.pow_succ]; congr 1; omega
  by_cases hc : 2 ^ n ≤ 2 * i
  · have : i / 2 ^ (n - 1) = 1 := by
      have h5 : i = (i - 2 ^ (n - 1)) + 2 ^ (n - 1) * 1 := by omega
      rw [h5, Int.add_mul_ediv_left _ _ (Int.ne_of_gt hq), Int.ediv_eq_zero_of_lt (by omega) (by omega)]; omega
    rw [if_pos hc, this, Int.one_mul]
  · have : i / 2 ^ (n - 1) = 0 := Int.ediv_eq_zero_of_lt h0 (by omega)
    rw [if_neg hc, this, Int.zero_mul, Int.sub_zero]
theorem sgn_half {n : Nat} {i : Int} (h1 : 1 ≤ n) (h0 : 0 ≤ i) (h : i < 2 ^ n) : -(2 ^ (n - 1)) ≤ sgn n i ∧ sgn n i < 2 ^ (n - 1) := by
  have e : (2 : Int) ^ n = 2 ^ (n - 1) * 2 := by rw [← Int.pow_succ]; congr 1; omega
  rw [sgn_if h1 h0 h]
  by_cases hc : 2 ^ n ≤ 2 * i
  · rw [if_pos hc]; omega
  · rw [if_neg hc]; omega
theorem sgn_mod {n : Nat} {i : Int} (h0 : 0 ≤ i) (h : i < 2 ^ n) : sgn n i % 2 ^ n = i := by
  unfold sgn; rw [Int.sub_emod, Int.mul_emod_left, Int.sub_zero, Int.emod_emod, Int.emod_eq_of_lt h0 h]
theorem sgn_back {m : Nat} {z : Int} (h1 : 1 ≤ m) (h2 : -(2 ^ (m - 1)) ≤ z) (h3 : z < 2 ^ (m - 1)) : sgn m (z % 2 ^ m) = z := by
  have hq := pow_pos' m
  have e : (2 : Int) ^ m = 2 ^ (m - 1) * 2 := by rw [← Int.pow_succ]; congr 1; omega
  have b := mod_bd (a := z) hq
  rw [sgn_if h1 b.1 b.2]
  by_cases hz : 0 ≤ z
  · rw [Int.emod_eq_of_lt hz (by omega), if_neg (by omega)]
  · have : z % 2 ^ m = z + 2 ^ m := by
      rw [show z = (z + 2 ^ m) + 2 ^ m * (-1) by omega, Int.add_mul_emod_self_left, Int.emod_eq_of_lt (by omega) (by omega)]; omega
    rw [this, if_pos (by omega)]; omega
theorem long_bits {n m : Nat} {i : Int} (h1 : 1 ≤ n) (hm : n ≤ m) (h0 : 0 ≤ i) (h : i < 2 ^ n) : bitsL n i ++ List.replicate (m - n) (i / 2 ^ (n - 1) % 2) = bitsL m (sgn n i) := by
  apply List.ext_getElem?
  intro k
  by_cases hk : k < n
  · rw [List.getElem?_append_left (by rw [bitsL_len]; exact hk), bitsL_get hk, bitsL_get (by omega)]
    unfold sgn
    have e : i - i / 2 ^ (n - 1) * 2 ^ n = i + 2 ^ k * (-(i / 2 ^ (n - 1) * 2 ^ (n - k))) := by
      have e1 : i / 2 ^ (n - 1) * 2 ^ n = 2 ^ k * (i / 2 ^ (n - 1) * 2 ^ (n - k)) := by
        rw [pow_split (Nat.le_of_lt hk), Int.mul_left_comm]
      rw [e1, Int.mul_neg]; omega
    rw [e, Int.add_mul_ediv_left _ _ (Int.ne_of_gt (pow_pos' k))]
    have e2 : (2 : Int) ^ (n - k) = 2 ^ (n - k - 1) * 2 := by rw [← Int.pow_succ]; congr 1; omega
    rw [e2, ← Int.mul_assoc]
    congr 1
    omega
  · rw [List.getElem?_append_right (by rw [bitsL_len]; omega), bitsL_len, List.getElem?_replicate]
    by_cases hk2 : k < m
    · rw [if_pos (by omega), bitsL_get hk2]
      have hs := sgn_half h1 h0 h
      have hp : (2 : Int) ^ (n - 1) ≤ 2 ^ k := pow_le (by omega)
      have e : (2 : Int) ^ n = 2 ^ (n - 1) * 2 := by rw [← Int.pow_succ]; congr 1; omega
      rw [sgn_if h1 h0 h] at hs ⊢
      by_cases hc : 2 ^ n ≤ 2 * i
      · rw [if_pos hc] at hs ⊢
        have t1 : i / 2 ^ (n - 1) = 1 := by
          have h5 : i = (i - 2 ^ (n - 1)) + 2 ^ (n - 1) * 1 := by omega
          rw [h5, Int.add_mul_ediv_left _ _ (Int.ne_of_gt (pow_pos' (n - 1))), Int.ediv_eq_zero_of_lt (by omega) (by omega)]; omega
        have t2 : (i - 2 ^ n) / 2 ^ k = -1 := by
          have h5 : i - 2 ^ n = (i - 2 ^ n + 2 ^ k) + 2 ^ k * (-1) := by omega
          rw [h5, Int.add_mul_ediv_left _ _ (Int.ne_of_gt (pow_pos' k)), Int.ediv_eq_zero_of_lt (by omega) (by omega)]; omega
        rw [t1, t2]; rfl
      · rw [if_neg hc] at hs ⊢
        rw [Int.ediv_eq_zero_of_lt h0 (by omega), Int.ediv_eq_zero_of_lt h0 (by omega)]
    · rw [if_neg (by omega), bitsL_none (by omega)]
theorem cut_mid {xs : List V} (a b : Nat) : cutV xs (some (a : Int)) (some ((a : Int) + (b : Int))) = (xs.drop a).take b := by
  have e : ((a : Int) + (b : Int)) = ((a + b : Nat) : Int) := by omega
  unfold cutV
  rw [e, HT.sIx_nat, HT.sIx_nat]
  by_cases h : a ≤ xs.length
  · rw [Nat.min_eq_left h]
    by_cases h2 : a + b ≤ xs.length
    · rw [Nat.min_eq_left h2]; congr 1; omega
    · rw [Nat.min_eq_right (by omega), List.take_of_length_le (by rw [List.length_drop]; omega), List.take_of_length_le (by rw [List.length_drop]; omega)]
  · rw [Nat.min_eq_right (by omega), Nat.min_eq_right (by omega), Nat.sub_self, List.take_zero, List.drop_of_length_le (by omega)]; simp
theorem mid_bits {n a b : Nat} {i : Int} (h : a + b ≤ n) : ((bitsL n i).drop a).take b = bitsL b (i / 2 ^ a) := by
  apply List.ext_getElem?
  intro m
  rw [List.getElem?_take]
  by_cases hm : m < b
  · rw [if_pos hm, List.getElem?_drop, bitsL_get (by omega), bitsL_get hm, Int.ediv_ediv_of_nonneg (Int.le_of_lt (pow_pos' a)), Int.pow_add]
  · rw [if_neg hm, bitsL_none (by omega)]
theorem ExD.mut {d p : Addr} {H H' : Hp} {o : HO} (e : ExD d H H') (h : H p = none) : ExD d H (upd H' p o) := fun a u n x => by
  rw [upd_ne (ne_of_none x h)]; exact e a u n x
theorem DiceAt.mut {d p : Addr} {H : Hp} {o : HO} (h : DiceAt H d) (n : d ≠ p) : DiceAt (upd H p o) d := by
  obtain ⟨l, m, q, a, b, c, e⟩ := h
  exact ⟨l, m, q, a, b, c, by rw [upd_ne n]; exact e⟩
theorem PartsAt.exd {d : Addr} {H H' : Hp} {xs : List V} {ps : List (Nat × Int)} (hd : DiceAt H d) (e : ExD d H H') (h : PartsAt H xs ps) : PartsAt H' xs ps := Paired.mapP h fun _ _ ⟨⟨q, e1, e2⟩, r⟩ => ⟨⟨q, e1, e _ _ (fun z => by
  obtain ⟨l, m, o, _, _, _, hh⟩ := hd
  rw [z, hh] at e2; cases e2) e2⟩, r⟩
theorem PartsAt.mut {H : Hp} {p : Addr} {ys : List V} {o : HO} {xs : List V} {ps : List (Nat × Int)} (hp : H p = some (.lst ys)) (h : PartsAt H xs ps) : PartsAt (upd H p o) xs ps := Paired.mapP h fun _ _ ⟨⟨q, e1, e2⟩, r⟩ => ⟨⟨q, e1, by
  rw [upd_ne (fun z => by rw [z, hp] at e2; cases e2)]; exact e2⟩, r⟩
theorem repA_use {K : PySem.W.Frag} {H : Hp} {l : Addr} {x : V} {k : Nat} {Q : VK} (h : H l = some (.tup [x])) (hk : k ≤ 1000) (q : ∀ v H', Ex H H' → H' v = some (.tup (List.replicate k x)) → Q (.ref v) H') : rRepA K (.ref l) (.int k) H Q := by
  refine ⟨l, k, [x], rfl, rfl, .of h, List.cons_ne_nil _ _, by omega, by omega, by simp, fun e => ?_, fun e p hp => ?_⟩
  · have : k = 1 := by omega
    subst this
    exact q l H (Ex.refl H) h
  · refine q p _ (ex_upd hp) ?_
    rw [upd_same, Int.toNat_natCast, flat_rep]
theorem catA_use {K : PySem.W.Frag} {H : Hp} {a b : Addr} {xs ys : List V} {Q : VK} (ha : H a = some (.tup xs)) (hb : H b = some (.tup ys)) (hz : xs.length + ys.length ≤ 100000) (q : ∀ v H', Ex H H' → H' v = some (.tup (xs ++ ys)) → Q (.ref v) H') : rCatA K (.ref a) (.ref b) H Q := by
  refine ⟨a, b, xs, ys, rfl, rfl, .of ha, .of hb, by rw [sizeLine_eq]; omega, fun e => ?_, fun e1 e2 => ?_, fun e1 e2 p hp => ?_⟩
  · subst e; exact q b H (Ex.refl H) hb
  · subst e2; exact q a H (Ex.refl H) (by rw [List.append_nil]; exact ha)
  · exact q p _ (ex_upd hp) upd_same
theorem emod_mul' {i A B : Int} (h : 0 < A) : i % (A * B) = i % A + A * (i / A % B) := by
  have h1 : i / (A * B) = i / A / B := (Int.ediv_ediv_of_nonneg (Int.le_of_lt h)).symm
  rw [Int.emod_def i (A * B), Int.emod_def i A, Int.emod_def (i / A) B, h1, Int.mul_sub, ← Int.mul_assoc]
  omega
theorem tSeq_go {t u : TS} {D : Ends} {σ : St} {H : Hp} (h : t { D with nx := u D } σ H) : tSeq t u D σ H := h
/-! ### a conditional expression with one value told, whichever way is taken -/
def tIfV (t : TT) (ta tb : TE) : TE := fun σ H Q => ∃ v, (t σ H fun c H1 => if c = true then ta σ H1 (fun x H2 => x = v ∧ H2 = H) else tb σ H1 (fun x H2 => x = v ∧ H2 = H)) ∧ Q v H
theorem pe_ifV {X : Cx} {c a b : Expr} {pos : Pos} {t : TT} {ta tb : TE} (hc : PT X c t) (ha : PE X a ta) (hb : PE X b tb) : PE X (.IfExp c a b pos) (tIfV t ta tb) := by
  refine ⟨fun pins s σ H Q I h => ?_⟩
  obtain ⟨v, h1, q⟩ := h
  refine thn ((pe_ifExp hc ha hb).run pins s σ H (fun x H2 => x = v ∧ H2 = H) I h1) fun u s1 hu => ?_
  obtain ⟨x, H1, I1, r, rfl, rfl⟩ := hu
  exact ⟨x, H1, I1, r, q⟩
theorem kept_none {n : Nat} {f : Nat → V} : kept n (fun _ => false) f = [] := by
  unfold kept
  rw [List.filter_eq_nil_iff.mpr (fun _ _ => Bool.false_ne_true)]; rfl
/-- a list of texts at a -/
def strD (ss : List Str) : PyData := .list (ss.map .str)
theorem dpAll_strs {K : PySem.W.Frag} {H : Hp} : ∀ ss : List Str, DpAll K H (ss.map V.str) (ss.map PyData.str)
  | [] => .nil
  | x :: xs => .cons (.str x) (dpAll_strs xs)
theorem dp_strs {K : PySem.W.Frag} {H : Hp} {a : Addr} {ss : List Str} (h : SqL K H a (ss.map V.str)) : Dp K H (.ref a) (strD ss) := .lst h (dpAll_strs ss)
def boolS (b : Bool) : Str := if b then "True" else "False"
/-- a comprehension whose items are new: what stands of each -/
theorem lc_rel {J : It} {n : Nat} {G : Hp → Prop} {Y : Nat → Hp → V → Hp → Prop} {g : TG} {te : TE} {vs : List Nat} {σ : St} {H1 : Hp} {D : Addr} {Qd : Hp → Prop} (w : Walk J n G Y) (R : Hp → V → Nat → Prop) (hR : ∀ H H' v i, Ex H H' → R H v i → R H' v i) (hM : ∀ H p o ys v i, H p = some (.lst ys) → R H v i → R (upd H p o) v i) (hn : n ≤ 50000) (hD : H1 D = none) (hG : ∀ H', Ex H1 H' → G H')
    (hs : ∀ i x H' H2, i < n → Ex H1 H' → Y i H' x H2 → ∀ (Qe : VK), (∀ v H5, Ex H' H5 → R H5 v i → Qe v H5) → g x (wipe σ vs) H2 fun σ2 H3 => wipe σ2 vs = wipe σ vs ∧ te σ2 H3 Qe)
    (hd : ∀ H' ys, Ex H1 H' → H' D = some (.lst ys) → Paired (R H') ys (List.range n) → Qd H') : Lc J g tYes te vs σ H1 D Qd := by
  refine lc_it w (fun i H' => Ex H1 H' ∧ ∃ ys, H' D = some (.lst ys) ∧ Paired (R H') ys (List.range i)) ⟨ex_upd hD, [], upd_same, .nil⟩ (fun i H' _ p => hG H' p.1) (fun i x H' H2 hi p y => ?_) (fun H' p => by obtain ⟨e, ys, h1, h2⟩ := p; exact hd H' ys e h1 h2)
  obtain ⟨e, ys, h1, h2⟩ := p
  have hlen : ys.length < sizeLine := by have := Paired.len' h2; rw [List.length_range] at this; rw [sizeLine_eq]; omega
  refine hs i x H' H2 hi e y _ (fun v H5 e5 r5 => ⟨_, e5 _ _ h1, hlen, (e.trans e5).mut hD, _, upd_same, ?_⟩)
  rw [List.range_succ]
  have h5 := e5 _ _ h1
  exact Paired.app' (Paired.mapP h2 fun _ _ r => hM _ _ _ _ _ _ h5 (hR _ _ _ _ e5 r)) (hM _ _ _ _ _ _ h5 r5)
theorem Paired.mapR {α β γ : Type} {R : α → β → Prop} {S : α → γ → Prop} {f : β → γ} (h : ∀ x y, R x y → S x (f y)) : ∀ {xs : List α} {ys : List β}, Paired R xs ys → Paired S xs (ys.map f)
  | _, _, .nil => .nil
  | _, _, .cons r t => .cons (h _ _ r) (Paired.mapR h t)
theorem seqIx_nat {n k : Nat} (h : k < n) : seqIndex? (k : Int) n = some k := by
  unfold seqIndex?
  simp [show ¬ ((k : Int) < 0) by omega, h]
theorem Paired.erase {α β : Type} {R : α → β → Prop} : ∀ {xs : List α} {ys : List β} (k : Nat), Paired R xs ys → Paired R (xs.eraseIdx k) (ys.eraseIdx k)
  | _, _, _, .nil => .nil
  | _, _, 0, .cons _ t => t
  | _, _, k + 1, .cons r t => .cons r (Paired.erase k t)
theorem Paired.set' {α β : Type} {R : α → β → Prop} {x : α} {y : β} (r : R x y) : ∀ {xs : List α} {ys : List β} (k : Nat), Paired R xs ys → Paired R (xs.set k x) (ys.set k y)
  | _, _, _, .nil => .nil
  | _, _, 0, .cons _ t => .cons r t
  | _, _, k + 1, .cons q t => .cons q (Paired.set' r k t)
theorem Paired.drop' {α β : Type} {R : α → β → Prop} : ∀ {xs : List α} {ys : List β} (k : Nat), Paired R xs ys → Paired R (xs.drop k) (ys.drop k)
  | _, _, 0, t => t
  | _, _, _ + 1, .nil => .nil
  | _, _, k + 1, .cons _ t => Paired.drop' k t
theorem Paired.take' {α β : Type} {R : α → β → Prop} : ∀ {xs : List α} {ys : List β} (k : Nat), Paired R xs ys → Paired R (xs.take k) (ys.take k)
  | _, _, 0, _ => .nil
  | _, _, _ + 1, .nil => .nil
  | _, _, k + 1, .cons r t => .cons r (Paired.take' k t)
def isIntV : V → Bool
  | .int _ => true
  | _ => false
/-! ### ways that join again -/
def tJoin (t : TS) : TS := fun D σ H => ∃ N : St → Hp → Prop, t { D with nx := N } σ H ∧ ∀ σ' H', N σ' H' → D.nx σ' H'
theorem ps_join {X : Cx} {st : Stmt} {t : TS} (h : PS X st t) : PS X st (tJoin t) := by
  refine ⟨fun pins s σ H D I ⟨N, h1, h2⟩ => thn (h.run pins s σ H _ I h1) fun f s' hs => ?_⟩
  unfold SP at *
  cases f with
  | next => obtain ⟨σ', H', I', q⟩ := hs; exact ⟨σ', H', I', h2 _ _ q⟩
  | _ => exact hs
def tJoinE (t : TE) : TE := fun σ H Q => ∃ N : VK, t σ H N ∧ ∀ v H', N v H' → Q v H'
theorem pe_join {X : Cx} {e : Expr} {t : TE} (h : PE X e t) : PE X e (tJoinE t) := by
  refine ⟨fun pins s σ H Q I ⟨N, h1, h2⟩ => thn (h.run pins s σ H _ I h1) fun u s' hs => ?_⟩
  obtain ⟨v, H', I', r, q⟩ := hs
  exact ⟨v, H', I', r, h2 _ _ q⟩
theorem ExD.back {d p : Addr} {H H' : Hp} (e : ExD d H H') (hd : DiceAt H' d) (h : H' p = none) : H p = none := by
  cases hp : H p with
  | none => rfl
  | some o =>
    have n : p ≠ d := fun z => by
      obtain ⟨l, m, q, _, _, _, hh⟩ := hd
      rw [z, hh] at h; cases h
    rw [e _ _ n hp] at h; cases h

theorem cpow_ok {i j : Int} (h1 : i.natAbs < 2 ^ 64) (h2 : 0 ≤ j) (h3 : j ≤ 1000000) : CPow i j := ⟨by omega, by omega, by omega⟩
theorem ofStr_inj {a b : String} : (Str.ofString a = Str.ofString b) = (a = b) := by
  apply propext
  constructor
  · intro h
    rw [Str.ofString_eq_toList, Str.ofString_eq_toList] at h
    have h1 : a.toList.map Char.toNat = b.toList.map Char.toNat := by
      have := congrArg (fun s => s.cps.toList) h
      simpa using this
    have h2 : a.toList = b.toList := by
      refine List.map_inj_right (f := Char.toNat) ?_ |>.mp h1
      intro x y e
      exact Char.toNat_inj.mp e
    exact String.toList_inj.mp h2
  · intro h; rw [h]
/-- a conditional expression, its ways joined again -/
theorem pe_ifJ {X : Cx} {c a b : Expr} {pos : Pos} {t : TT} {ta tb : TE} (hc : PT X c t) (ha : PE X a ta) (hb : PE X b tb) : PE X (.IfExp c a b pos) (tJoinE (tIf t ta tb)) := pe_join (pe_ifExp hc ha hb)
theorem u1 {a c : Nat} (h : a + 64 < c) : a + 1 < c := by omega
/-! ### a display of one pair whose key is a tuple -/
section
open PySem.Spec PyProof.Rows
theorem dict_pairsH2 {prog : Program} {w : World} {K : Type} [DecidableEq K] {knd : HeapKind prog w K} {A : Around} {E : Value → Shared → Prop} {s : Shared} {env : Env} {keys : List (Option Expr)} {values : List Expr} {pos : Pos} {pairs : List (Sem Value × Sem Value)} {Q : Value → Shared → Prop} (hu : knd.room A)
    (hshape : (evalEachOpt keys env).zip ((evalEach values env).map fun v => do let x ← v; standAt pos; pure x) = pairs.map fun p => (some p.1, p.2)) (h0 : pairs ≠ []) (hlen : pairs.length ≤ 15)
    (h : wpAny (model prog w) A (evalPairs pairs) (fun vs s₁ => ∃ ps, CarriesH knd s₁.heap vs ps ∧ s₁.heap.DictOfH knd s.heap.objs.size [] ∧
      ∀ h' tk, h'.DictOfH knd s.heap.objs.size (storedAllH [] ps) → Heap.SameBut s.heap.objs.size s₁.heap h' → Q (.ref s.heap.objs.size) { s₁ with heap := h', toks := tk }) E
      { s with heap := s.heap.push { cls := .type "dict", data := .dict #[] } }) :
    wpAny (model prog w) A (eval (.Dict keys values pos) env) Q E s := by
  rw [arm_eval_Dict, hshape, dictDisplay_pairs pairs h0 (by omega)]
  exact wpAny_bind (wpAny_standAt (wpAny_bind (wpAny_subDictH (knd := knd) (Q := fun d s' => wpAny (model prog w) A (pure (Value.ref d)) Q E s') hu hlen
    (wpAny_mono h (fun vs s₁ h₁ => by obtain ⟨ps, hc, hm, hq⟩ := h₁; exact ⟨ps, hc, hm, fun h' tk a b => wpAny_pure (hq h' tk a b)⟩) fun _ _ e => e))))
def tDisp1T (tk tv : TE) : TE := fun σ H Q => ∀ p, H p = none → tk σ (upd H p (.dT [])) fun x H1 => tv σ H1 fun y H2 => H2 p = some (.dT []) ∧ ∃ (b : Addr) (k : List L2.Key), x = .ref b ∧ H2 b = some (.tup (k.map kV)) ∧ Q (.ref p) (upd H2 p (.dT [(k, y)]))
theorem pe_disp1T {X : Cx} {pos : Pos} {k v : Expr} {tk tv : TE} (hu : X.A.units + 1 < cLine) (hk : PE X k tk) (hv : PE X v tv) : PE X (.Dict [some k] [v] pos) (tDisp1T tk tv) := by
  refine ⟨fun pins s σ H Q I q => ?_⟩
  have hn := I.hok.fresh (Nat.le_refl s.heap.objs.size)
  have I1 := I.laid (a := s.heap.objs.size) (o := .dT []) (h' := s.heap.push { cls := .type "dict", data := .dict #[] }) (t' := s.toks) (fun _ _ q => Heap.get?_push_of_some _ q) (Nat.le_refl _) (dt_empty s.heap I.big)
  refine dict_pairsH2 (knd := tupleKind (mixKind X.prog X.w)) (show X.A.units < cLine by omega) (zip_pairTrees [some k] [v] X.env pos rfl rfl) (by simp [pairTrees]) (by simp [pairTrees]) (thn ((pps_cons (pos := pos) hk hv pps_nil).run pins _ σ _ (fun ps H2 => match ps with | [(x, y)] => H2 s.heap.objs.size = some (.dT []) ∧ ∃ (b : Addr) (k : List L2.Key), x = .ref b ∧ H2 b = some (.tup (k.map kV)) ∧ Q (.ref s.heap.objs.size) (upd H2 s.heap.objs.size (.dT [(k, y)])) | _ => False) I1 (q _ hn)) fun ws s2 ⟨ps, H2, I2, rel, q1⟩ => ?_)
  match ps, q1 with
  | [(x, y)], q1 =>
  obtain ⟨e, b, kk, ex, hb, q2⟩ := q1
  cases rel with
  | @cons a b' as bs h t =>
    cases t
    obtain ⟨h1, h2⟩ := h
    subst ex
    obtain ⟨w1, w2⟩ := b'
    cases (show w1 = Value.ref b from h1)
    obtain ⟨z, hd, xs, rel0, dd⟩ := dt_of I2.hok e
    cases rel0
    refine ⟨[(kk, b, w2)], ⟨rfl, rfl, key_of I2.hok hb, True.intro⟩, dd, fun h' tk dd' hs => ?_⟩
    refine ⟨.ref s.heap.objs.size, _, ?_, rfl, q2⟩
    obtain ⟨q9, es, ep, hq, g2, g3, g4, _, g5⟩ := dd'
    refine d_write I2 (by rw [e]; exact True.intro) hs ⟨q9, hq⟩ ⟨by show 1 ≤ sizeLine; decide, hd, _, ?_, q9, es, ep, hq, g2, g3, g4, g5⟩
    refine .cons ⟨rfl, ?_, h2⟩ .nil
    rw [upd_ne (ne_of hb e (fun z => nomatch z))]
    exact hb
end
section
open PySem.Spec PyProof.Rows
/-- max of a tuple of ints -/
def rMaxT (K : PySem.W.Frag) : List V → Hp → VK → Prop := fun vs H Q => ∃ (a : Addr) (n : Int) (ns : List Int), vs = [V.ref a] ∧ SqT K H a ((n :: ns).map V.int) ∧ Q (.int (ns.foldl max n)) H
theorem cr_maxT {X : Cx} (hc : X.calm = true) (hu : X.A.units + 64 < cLine) : CallR X (.builtin "max") (rMaxT X.K) := by
  intro pins s σ H vs us Q I r h
  obtain ⟨a, n, ns, rfl, hs, q⟩ := h
  obtain ⟨its, rv, p, hz⟩ := I.tuple hs
  rw [Vals.ref1 r]
  obtain ⟨as, hr⟩ := Dp.readsAll I ((n :: ns).map PyData.int) _ its (dpAll_ints (n :: ns)) rv
  have hd : PyData.depthAll ((n :: ns).map PyData.int) = 0 := PyProof.Rows.depthAll_ints (n :: ns)
  refine max_tuple_data (x := .int n) (xs := ns.map .int) (I.ok.hd hc) p hr ?_ (by rw [show PyData.int n :: ns.map PyData.int = (n :: ns).map PyData.int from rfl, hd]; omega) fun i v h' tk bs hv hrd hk => ?_
  · refine ⟨fun x hx y hy => ?_, fun x hx => ?_⟩
    · have hx' : x ∈ (n :: ns).map PyData.int := hx
      have hy' : y ∈ (n :: ns).map PyData.int := hy
      obtain ⟨i, _, rfl⟩ := List.mem_map.mp hx'
      obtain ⟨j, _, rfl⟩ := List.mem_map.mp hy'
      rfl
    · have hx' : x ∈ (n :: ns).map PyData.int := hx
      obtain ⟨i, _, rfl⟩ := List.mem_map.mp hx'
      exact fun z => by cases z
  rw [maxD_ints] at hrd
  cases hrd
  exact ⟨.int _, H, I.kept hk, ⟨_, rfl⟩, q⟩
end
theorem ix_kd {X : Cx} {d : Addr} {es : Array DictEntry} {n : Nat} (D : KDict X.K X.w d es n) : IxR X (fun x y H Q => ∃ (z : Str) (u0 : Value) (v0 : V), x = .ref d ∧ y = .str z ∧ PySem.W.nsIn X.K d z = some (some u0) ∧ RelV v0 u0 ∧ Q v0 H) := by
  intro value slice pins s σ H x y v u Q I rx ry h hs
  have hT := kd_type D I
  obtain ⟨z, u0, v0, ex, ey, h1, h2, q⟩ := h
  subst ex
  cases rx
  refine PyProof.Rows.tail_any hT PySem.F.slot_dict_getitem.lookup ?_ hs
  exact op_item_kd D pins s σ H (.ref d) y (.ref d) u Q I rfl ry ⟨z, u0, v0, rfl, ey, h1, h2, q⟩
/-! ### comprehensions of dicts -/
def Dc (J : It) (g : TG) (tt : TT) (tk tv : TE) (vs : List Nat) (σ : St) (H1 : Hp) (D : Addr) (Qd : Hp → Prop) : Prop := ∃ W : Nat → Nat → Hp → Prop, (∃ m, W 0 m (upd H1 D (.dK []))) ∧ ∀ i m H, W i m H →
  (J.stop i H ∧ Qd H) ∨ (J.go i H ∧ ∃ Nx : Hp → Prop, (∀ H', Nx H' → ∃ m', m' < m ∧ W (i + 1) m' H') ∧ ∀ x H', J.yld i H x H' → g x (wipe σ vs) H' fun σ2 H2 => wipe σ2 vs = wipe σ vs ∧ tt σ2 H2 fun b H3 =>
    if b = true then tk σ2 H3 fun y H4 => tv σ2 H4 fun z H5 => ∃ kvs k, y = kV k ∧ H5 D = some (.dK kvs) ∧ kvs.length < sizeLine ∧ Nx (upd H5 D (.dK (putK kvs k z))) else Nx H3)
theorem tDc_eq {wi : TI} {g : TG} {tt : TT} {tk tv : TE} {vs : List Nat} {σ : St} {H : Hp} {Q : VK} : tDc wi g tt tk tv vs σ H Q = wi σ H (fun J H1 => ∀ D, H1 D = none → Dc J g tt tk tv vs σ H1 D (fun H' => Q (.ref D) H')) := rfl
/-! ### rounds that move -/
def byOf (rs : List (Nat × Int)) (a : Int) : Int := ((rs.filter fun p => decide (a / 2 ^ p.1 % 2 = 1)).map (·.2)).sum
def byAt (rs : List (Nat × Int)) (b : Nat) : Int := ((rs.filter fun p => decide ((p.1 : Int) = b)).map (·.2)).sum
def sumB (f : Nat → Int) (a : Int) : Nat → Int
  | 0 => 0
  | m + 1 => sumB f a m + a / 2 ^ m % 2 * f m
theorem byOf_cons (p : Nat × Int) (r : List (Nat × Int)) (a : Int) : byOf (p :: r) a = (if a / 2 ^ p.1 % 2 = 1 then p.2 else 0) + byOf r a := by
  unfold byOf
  rw [List.filter_cons]
  by_cases h : a / 2 ^ p.1 % 2 = 1
  · rw [if_pos h, if_pos (by simpa using h), List.map_cons, List.sum_cons]
  · rw [if_neg h, if_neg (by simpa using h)]; omega
theorem byAt_cons (p : Nat × Int) (r : List (Nat × Int)) (b : Nat) : byAt (p :: r) b = (if p.1 = b then p.2 else 0) + byAt r b := by
  unfold byAt
  rw [List.filter_cons]
  by_cases h : p.1 = b
  · rw [if_pos h, if_pos (by simp [h]), List.map_cons, List.sum_cons]
  · rw [if_neg h, if_neg (by simp; omega)]; omega
theorem pow_bit (b k : Nat) : (2 : Int) ^ b / 2 ^ k % 2 = if k = b then 1 else 0 := by
  by_cases h : k ≤ b
  · rw [pow_split h, Int.mul_ediv_cancel_left _ (Int.ne_of_gt (pow_pos' k))]
    by_cases e : k = b
    · rw [if_pos e, e, Nat.sub_self]; rfl
    · rw [if_neg e, show b - k = (b - k - 1) + 1 by omega, Int.pow_succ, Int.mul_emod_left]
  · rw [if_neg (by omega), Int.ediv_eq_zero_of_lt (Int.le_of_lt (pow_pos' b))]
    · rfl
    · have h1 : (2 : Int) ^ (b + 1) ≤ 2 ^ k := pow_le (by omega)
      rw [Int.pow_succ] at h1
      have := pow_pos' b
      omega
theorem byOf_pow (rs : List (Nat × Int)) (b : Nat) : byOf rs (2 ^ b) = byAt rs b := by
  induction rs with
  | nil => rfl
  | cons p r ih =>
    rw [byOf_cons, byAt_cons, ih, pow_bit]
    by_cases h : p.1 = b
    · rw [if_pos h, if_pos rfl, if_pos h]
    · rw [if_neg h, if_neg (by decide), if_neg h]
theorem sumB_add (f g : Nat → Int) (a : Int) (m : Nat) : sumB (fun b => f b + g b) a m = sumB f a m + sumB g a m := by
  induction m with
  | zero => rfl
  | succ m ih => show _ + _ * _ = _ + _ * _ + (_ + _ * _); rw [ih, Int.mul_add]; omega
theorem sumB_one (k : Nat) (c a : Int) (m : Nat) : sumB (fun b => if k = b then c else 0) a m = if k < m then (if a / 2 ^ k % 2 = 1 then c else 0) else 0 := by
  induction m with
  | zero => rfl
  | succ m ih =>
    show _ + _ * (if k = m then c else 0) = _
    rw [ih]
    by_cases e : k = m
    · subst e
      rw [if_neg (by omega), if_pos rfl, if_pos (by omega)]
      have : a / 2 ^ k % 2 = 0 ∨ a / 2 ^ k % 2 = 1 := by omega
      rcases this with h | h <;> rw [h] <;> simp
    · rw [if_neg e]
      by_cases h : k < m
      · rw [if_pos h, if_pos (show k < m + 1 by omega)]; omega
      · rw [if_neg h, if_neg (show ¬ k < m + 1 by omega)]; omega
theorem sumB_zero (a : Int) (m : Nat) : sumB (fun _ => 0) a m = 0 := by
  induction m with
  | zero => rfl
  | succ m ih => show _ + _ * 0 = _; rw [ih]; omega
theorem byOf_sum (m : Nat) (rs : List (Nat × Int)) (a : Int) (h : ∀ p, p ∈ rs → p.1 < m) : byOf rs a = sumB (byAt rs) a m := by
  induction rs with
  | nil => exact (sumB_zero a m).symm
  | cons p r ih =>
    have e : byAt (p :: r) = fun b => (if p.1 = b then p.2 else 0) + byAt r b := funext fun b => byAt_cons p r b
    rw [byOf_cons, e, sumB_add, sumB_one, if_pos (h p (List.mem_cons_self ..)), ih fun q hq => h q (List.mem_cons_of_mem _ hq)]
theorem amt_sum (m : Nat) (a : Int) : sumB (fun b => 2 ^ b) a m = a % 2 ^ m := by
  induction m with
  | zero => show (0 : Int) = a % 1; omega
  | succ m ih => show _ + _ * _ = _; rw [ih, Int.pow_succ, emod_two_mul (pow_pos' m), Int.mul_comm (2 ^ m)]
/-- the less of two, as min tells it -/
def mn (n x : Int) : Int := if x < n then x else n
theorem mn_iff (n x y : Int) : mn n x = mn n y ↔ x = y ∨ (n ≤ x ∧ n ≤ y) := by
  unfold mn
  split <;> split <;> omega
theorem sum_mn {f g : Nat → Int} {n : Int} (a : Int) (m : Nat) (hn : 0 ≤ n) (hf : ∀ b, b < m → 0 ≤ f b) (hg : ∀ b, b < m → 0 ≤ g b) (h : ∀ b, b < m → f b = g b ∨ (n ≤ f b ∧ n ≤ g b)) :
    0 ≤ sumB f a m ∧ 0 ≤ sumB g a m ∧ (sumB f a m = sumB g a m ∨ (n ≤ sumB f a m ∧ n ≤ sumB g a m)) := by
  induction m with
  | zero => exact ⟨Int.le_refl _, Int.le_refl _, .inl rfl⟩
  | succ m ih =>
    obtain ⟨h1, h2, h3⟩ := ih (fun b hb => hf b (by omega)) (fun b hb => hg b (by omega)) (fun b hb => h b (by omega))
    have a1 := hf m (by omega)
    have a2 := hg m (by omega)
    have a3 := h m (by omega)
    show 0 ≤ sumB f a m + _ * _ ∧ 0 ≤ sumB g a m + _ * _ ∧ (sumB f a m + _ * _ = sumB g a m + _ * _ ∨ _ ≤ sumB f a m + _ * _ ∧ _ ≤ sumB g a m + _ * _)
    have : a / 2 ^ m % 2 = 0 ∨ a / 2 ^ m % 2 = 1 := by omega
    rcases this with e | e <;> rw [e] <;> omega
def RsIn (m : Nat) (rs : List (Nat × Int)) : Prop := ∀ p, p ∈ rs → p.1 < m ∧ 0 ≤ p.2 ∧ p.2 ≤ 64
theorem byOf_nn {rs : List (Nat × Int)} {m : Nat} (h : RsIn m rs) (a : Int) : 0 ≤ byOf rs a ∧ byOf rs a ≤ 64 * rs.length := by
  induction rs with
  | nil => exact ⟨Int.le_refl _, Int.le_refl _⟩
  | cons p r ih =>
    obtain ⟨h1, h2⟩ := ih fun q hq => h q (List.mem_cons_of_mem _ hq)
    obtain ⟨_, h3, h4⟩ := h p (List.mem_cons_self ..)
    rw [byOf_cons, List.length_cons]
    by_cases e : a / 2 ^ p.1 % 2 = 1
    · rw [if_pos e]; omega
    · rw [if_neg e]; omega
theorem good_all {rs : List (Nat × Int)} {m : Nat} {n : Int} (hn : 0 ≤ n) (h : RsIn m rs) (hg : ∀ b, b < m → mn n (byOf rs (2 ^ b)) = mn n (2 ^ b)) {a : Int} (a0 : 0 ≤ a) (a1 : a < 2 ^ m) : mn n (byOf rs a) = mn n a := by
  rw [mn_iff]
  have e := amt_sum m a
  rw [Int.emod_eq_of_lt a0 a1] at e
  rw [byOf_sum m rs a fun p hp => (h p hp).1]
  have := (sum_mn (f := byAt rs) (g := fun b => 2 ^ b) (n := n) a m hn (fun b _ => by rw [← byOf_pow]; exact (byOf_nn h _).1) (fun b _ => Int.le_of_lt (pow_pos' b)) fun b hb => by
    have := (mn_iff _ _ _).mp (hg b hb)
    rwa [byOf_pow] at this).2.2
  rwa [e] at this
/-- a word moved -/
def mv (n : Nat) (left : Bool) (w p : Int) : Int := if left = true then w * 2 ^ p.toNat % 2 ^ n else w / 2 ^ p.toNat
theorem mv_far {n : Nat} {left : Bool} {w : Int} {p : Nat} (h0 : 0 ≤ w) (h : w < 2 ^ n) (hp : n ≤ p) : mv n left w p = 0 := by
  unfold mv
  rw [Int.toNat_natCast]
  cases left with
  | true => rw [if_pos rfl, pow_split hp, Int.mul_left_comm, Int.mul_emod_right]
  | false => rw [if_neg (by decide)]; exact Int.ediv_eq_zero_of_lt h0 (Int.lt_of_lt_of_le h (pow_le hp))
theorem mv_least {n : Nat} {left : Bool} {w : Int} {p : Nat} (h0 : 0 ≤ w) (h : w < 2 ^ n) : mv n left w (mn p n) = mv n left w p := by
  unfold mn
  by_cases hp : (n : Int) < p
  · rw [if_pos hp, mv_far h0 h (Nat.le_refl n), mv_far h0 h (by omega)]
  · rw [if_neg hp]
def farW (n : Nat) (left : Bool) : Int := if left = true then 1 else 2 ^ (n - 1)
theorem mv_farW {n : Nat} {left : Bool} (h1 : 1 ≤ n) {p : Nat} : mv n left (farW n left) p = if p < n then (if left = true then 2 ^ p else 2 ^ (n - 1 - p)) else 0 := by
  have hw : 0 ≤ farW n left ∧ farW n left < 2 ^ n := by
    unfold farW
    have := pow_pos' (n - 1)
    have e : (2 : Int) ^ n = 2 ^ (n - 1) * 2 := by rw [← Int.pow_succ]; congr 1; omega
    cases left with
    | true => rw [if_pos rfl]; omega
    | false => rw [if_neg (by decide)]; omega
  by_cases hp : p < n
  · rw [if_pos hp]
    unfold mv farW
    rw [Int.toNat_natCast]
    cases left with
    | true =>
      simp only [if_true]
      rw [Int.one_mul]
      refine Int.emod_eq_of_lt (Int.le_of_lt (pow_pos' p)) ?_
      have h2 : (2 : Int) ^ (p + 1) ≤ 2 ^ n := pow_le (by omega)
      rw [Int.pow_succ] at h2
      have := pow_pos' p
      omega
    | false =>
      simp only [Bool.false_eq_true, if_false]
      rw [pow_split (show p ≤ n - 1 by omega), Int.mul_ediv_cancel_left _ (Int.ne_of_gt (pow_pos' p))]
  · rw [if_neg hp]; exact mv_far hw.1 hw.2 (by omega)
theorem pow_inj' {a b : Nat} (h : (2 : Int) ^ a = 2 ^ b) : a = b := by
  rcases Nat.lt_trichotomy a b with hl | hl | hl
  · have h2 : (2 : Int) ^ (a + 1) ≤ 2 ^ b := pow_le (by omega)
    rw [Int.pow_succ] at h2
    have := pow_pos' a
    omega
  · exact hl
  · have h2 : (2 : Int) ^ (b + 1) ≤ 2 ^ a := pow_le (by omega)
    rw [Int.pow_succ] at h2
    have := pow_pos' b
    omega
/-- the farthest bit tells numbers of places apart -/
theorem far_tells {n : Nat} {left : Bool} (h1 : 1 ≤ n) {p q : Int} (p0 : 0 ≤ p) (q0 : 0 ≤ q) (h : mn n p ≠ mn n q) : mv n left (farW n left) p ≠ mv n left (farW n left) q := by
  rw [Ne, mn_iff] at h
  obtain ⟨a, rfl⟩ : ∃ a : Nat, p = a := ⟨p.toNat, by omega⟩
  obtain ⟨b, rfl⟩ : ∃ b : Nat, q = b := ⟨q.toNat, by omega⟩
  rw [mv_farW h1, mv_farW h1]
  by_cases ha : a < n <;> by_cases hb : b < n
  · rw [if_pos ha, if_pos hb]
    cases left with
    | true => simp only [if_true]; intro e; have := pow_inj' e; omega
    | false => simp only [Bool.false_eq_true, if_false]; intro e; have := pow_inj' e; omega
  · rw [if_pos ha, if_neg hb]
    cases left with
    | true => simp only [if_true]; exact Int.ne_of_gt (pow_pos' _)
    | false => simp only [Bool.false_eq_true, if_false]; exact Int.ne_of_gt (pow_pos' _)
  · rw [if_neg ha, if_pos hb]
    cases left with
    | true => simp only [if_true]; exact Int.ne_of_lt (pow_pos' _)
    | false => simp only [Bool.false_eq_true, if_false]; exact Int.ne_of_lt (pow_pos' _)
  · omega
/-! ### rounds in the heap -/
def pairR (H : Hp) (v : V) (p : Nat × Int) : Prop := ∃ q, v = .ref q ∧ H q = some (.tup [.int p.1, .int p.2])
abbrev RsAt (H : Hp) (xs : List V) (rs : List (Nat × Int)) : Prop := Paired (pairR H) xs rs
theorem RsAt.ex {H H' : Hp} {xs : List V} {rs : List (Nat × Int)} (e : Ex H H') (h : RsAt H xs rs) : RsAt H' xs rs := Paired.mapP h fun _ _ ⟨q, e1, e2⟩ => ⟨q, e1, e _ _ e2⟩
theorem RsAt.exd {d : Addr} {H H' : Hp} {xs : List V} {rs : List (Nat × Int)} (hd : DiceAt H d) (e : ExD d H H') (h : RsAt H xs rs) : RsAt H' xs rs := Paired.mapP h fun _ _ ⟨q, e1, e2⟩ => ⟨q, e1, e _ _ (fun z => by
  obtain ⟨l, m, o, _, _, _, hh⟩ := hd
  rw [z, hh] at e2; cases e2) e2⟩
theorem RsAt.mut {H : Hp} {p : Addr} {ys : List V} {o : HO} {xs : List V} {rs : List (Nat × Int)} (hp : H p = some (.lst ys)) (h : RsAt H xs rs) : RsAt (upd H p o) xs rs := Paired.mapP h fun _ _ ⟨q, e1, e2⟩ => ⟨q, e1, by
  rw [upd_ne (fun z => by rw [z, hp] at e2; cases e2)]; exact e2⟩
/-- what is kept of the turns over a list, told by its items -/
theorem kept_list {α : Type} (rs : List α) (d : α) (k : α → Bool) (g : α → V) : kept rs.length (fun i => k (rs.getD i d)) (fun i => g (rs.getD i d)) = (rs.filter k).map g := by
  unfold kept
  have e := range_take rs d
  have h : rs.filter k = ((List.range rs.length).filter (fun i => k (rs.getD i d))).map (fun i => rs.getD i d) := by
    conv => lhs; rw [← e]
    rw [List.filter_map]; rfl
  rw [h, List.map_map]; rfl
theorem getD_of {α : Type} {xs : List α} {i : Nat} {x d : α} (h : xs[i]? = some x) : xs.getD i d = x := by
  rw [List.getD, h]; rfl
def sdV (left : Bool) : V := .str (if left = true then Str.ofString "left" else Str.ofString "right")
/-- what a value is, as far as papers go: a tuple of ints and booleans, or none -/
def DescAt (H : Hp) (v : V) : Option (List V) → Prop
  | none => v = .non ∨ ∃ a x y, v = .ref a ∧ H a = some (.lst [x, y])
  | some xs => ∃ a, v = .ref a ∧ H a = some (.tup xs) ∧ ∀ x, x ∈ xs → (∃ i : Int, x = .int i) ∨ ∃ b, x = .bl b
theorem DescAt.ex {H H' : Hp} {v : V} {o : Option (List V)} (e : Ex H H') (h : DescAt H v o) : DescAt H' v o := by
  cases o with
  | none =>
    rcases h with h | ⟨a, x, y, h1, h2⟩
    · exact .inl h
    · exact .inr ⟨a, x, y, h1, e _ _ h2⟩
  | some xs => obtain ⟨a, h1, h2, h3⟩ := h; exact ⟨a, h1, e _ _ h2, h3⟩
theorem DescAt.exd {d : Addr} {H H' : Hp} {v : V} {o : Option (List V)} (hd : DiceAt H d) (e : ExD d H H') (h : DescAt H v o) : DescAt H' v o := by
  obtain ⟨l, m, k, _, _, _, hh⟩ := hd
  cases o with
  | none =>
    rcases h with h | ⟨a, x, y, h1, h2⟩
    · exact .inl h
    · exact .inr ⟨a, x, y, h1, e _ _ (fun z => by rw [z, hh] at h2; cases h2) h2⟩
  | some xs => obtain ⟨a, h1, h2, h3⟩ := h; exact ⟨a, h1, e _ _ (fun z => by rw [z, hh] at h2; cases h2) h2, h3⟩
/-- a paper, told from what a value is -/
def papB (n : Nat) (left : Bool) (m : Nat) (rs : List (Nat × Int)) : Option (List V) → Bool
  | some [.int w, .int a] => decide (0 ≤ w ∧ w < 2 ^ n ∧ 0 ≤ a ∧ a < 2 ^ m) && decide (mv n left w (byOf rs a) ≠ mv n left w a)
  | _ => false
/-- pairs as data -/
def prD (p : Nat × Int) : PyData := .tuple [.int p.1, .int p.2]
def prsD (rs : List (Nat × Int)) : PyData := .list (rs.map prD)
theorem dpAll_prs {K : PySem.W.Frag} {H : Hp} : ∀ {xs : List V} {rs : List (Nat × Int)}, RsAt H xs rs → DpAll K H xs (rs.map prD)
  | _, _, .nil => .nil
  | _, _, .cons ⟨q, e1, e2⟩ t => by
    subst e1
    exact .cons (.tup (.of e2) (.cons (.int _) (.cons (.int _) .nil))) (dpAll_prs t)
theorem canLay_prs : ∀ rs : List (Nat × Int), PyData.canLayAll0 (rs.map prD) = true
  | [] => rfl
  | p :: r => by
    show (PyData.canLay0 (prD p) && PyData.canLayAll0 (r.map prD)) = true
    rw [canLay_prs r]; rfl
theorem depth_prs : ∀ rs : List (Nat × Int), PyData.depthAll (rs.map prD) ≤ 1
  | [] => Nat.zero_le _
  | p :: r => by
    have := depth_prs r
    show max (PyData.depth (prD p)) (PyData.depthAll (r.map prD)) ≤ 1
    have e : PyData.depth (prD p) = 1 := by simp [prD, PyData.depth, PyData.depthAll]
    omega
theorem sh_prs (rs : List (Nat × Int)) : SeqAt.shaped (prsD rs) = true := by
  unfold SeqAt.shaped prsD
  have h1 : (PyData.list (rs.map prD)).canLay0 = true := canLay_prs rs
  have h2 := depth_prs rs
  have h3 : (PyData.list (rs.map prD)).depth = 1 + PyData.depthAll (rs.map prD) := by simp only [PyData.depth]; omega
  rw [h1, h3, Bool.true_and]
  exact decide_eq_true (by omega)
theorem eqv_prs (rs : List (Nat × Int)) : PyData.eqv (prsD rs) (.list []) = decide (rs = []) := by
  cases rs with
  | nil => rfl
  | cons p r => rfl
/-! ### a list of rounds beside the dice -/
def FL (H0 : Hp) (d f : Addr) (xs : List V) (rs : List (Nat × Int)) (H : Hp) : Prop := DiceAt H d ∧ H f = some (.lst xs) ∧ RsAt H xs rs ∧ ExD d H0 H
theorem FL.dice {H0 H : Hp} {d f : Addr} {xs : List V} {rs : List (Nat × Int)} {x y z : Int} (h : FL H0 d f xs rs H) (n : d ≠ f) (hx : 0 ≤ x) (hy : 0 ≤ y) (hz : 0 ≤ z) : FL H0 d f xs rs (upd H d (dice3 x y z)) :=
  ⟨dice_upd hx hy hz, by rw [upd_ne n.symm]; exact h.2.1, h.2.2.1.exd h.1 exd_upd, h.2.2.2.trans exd_upd⟩
theorem FL.ex {H0 H H' : Hp} {d f : Addr} {xs : List V} {rs : List (Nat × Int)} (h : FL H0 d f xs rs H) (e : Ex H H') : FL H0 d f xs rs H' := ⟨h.1.ex e, e _ _ h.2.1, h.2.2.1.ex e, h.2.2.2.trans (ExD.of e)⟩
theorem pairR.mut {H : Hp} {f : Addr} {ys : List V} {o : HO} {v : V} {p : Nat × Int} (hf : H f = some (.lst ys)) (h : pairR H v p) : pairR (upd H f o) v p := by
  obtain ⟨q, e1, e2⟩ := h
  exact ⟨q, e1, by rw [upd_ne (fun z => by rw [z, hf] at e2; cases e2)]; exact e2⟩
theorem FL.push {H0 H : Hp} {d f : Addr} {xs : List V} {rs : List (Nat × Int)} {v : V} {p : Nat × Int} (h : FL H0 d f xs rs H) (n : d ≠ f) (hf : H0 f = none) (hv : pairR H v p) : FL H0 d f (xs ++ [v]) (rs ++ [p]) (upd H f (.lst (xs ++ [v]))) :=
  ⟨h.1.mut n, upd_same, Paired.app' (h.2.2.1.mut h.2.1) (hv.mut h.2.1), h.2.2.2.mut hf⟩
theorem FL.put {H0 H : Hp} {d f : Addr} {xs : List V} {rs : List (Nat × Int)} {v : V} {p : Nat × Int} (k : Nat) (h : FL H0 d f xs rs H) (n : d ≠ f) (hf : H0 f = none) (hv : pairR H v p) : FL H0 d f (xs.set k v) (rs.set k p) (upd H f (.lst (xs.set k v))) :=
  ⟨h.1.mut n, upd_same, Paired.set' (hv.mut h.2.1) k (h.2.2.1.mut h.2.1), h.2.2.2.mut hf⟩
theorem RsIn.app {m : Nat} {rs : List (Nat × Int)} {p : Nat × Int} (h : RsIn m rs) (h1 : p.1 < m) (h2 : 0 ≤ p.2) (h3 : p.2 ≤ 64) : RsIn m (rs ++ [p]) := fun q hq => by
  rcases List.mem_append.mp hq with h' | h'
  · exact h q h'
  · rw [List.mem_singleton.mp h']; exact ⟨h1, h2, h3⟩
theorem RsIn.put {m : Nat} {rs : List (Nat × Int)} {p : Nat × Int} (k : Nat) (h : RsIn m rs) (h1 : p.1 < m) (h2 : 0 ≤ p.2) (h3 : p.2 ≤ 64) : RsIn m (rs.set k p) := fun q hq => by
  rcases List.mem_or_eq_of_mem_set hq with h' | h'
  · exact h q h'
  · rw [h']; exact ⟨h1, h2, h3⟩
/-! ### a tuple of rounds beside the dice -/
def RT (H0 : Hp) (d r : Addr) (xs : List V) (rs : List (Nat × Int)) (H : Hp) : Prop := DiceAt H d ∧ H r = some (.tup xs) ∧ RsAt H xs rs ∧ ExD d H0 H
theorem RT.dice {H0 H : Hp} {d r : Addr} {xs : List V} {rs : List (Nat × Int)} {x y z : Int} (h : RT H0 d r xs rs H) (hx : 0 ≤ x) (hy : 0 ≤ y) (hz : 0 ≤ z) : RT H0 d r xs rs (upd H d (dice3 x y z)) :=
  ⟨dice_upd hx hy hz, by
    obtain ⟨l, m, k, _, _, _, hh⟩ := h.1
    rw [upd_ne (fun e => by rw [← e, h.2.1] at hh; cases hh)]; exact h.2.1, h.2.2.1.exd h.1 exd_upd, h.2.2.2.trans exd_upd⟩
theorem RT.ex {H0 H H' : Hp} {d r : Addr} {xs : List V} {rs : List (Nat × Int)} (h : RT H0 d r xs rs H) (e : Ex H H') : RT H0 d r xs rs H' := ⟨h.1.ex e, e _ _ h.2.1, h.2.2.1.ex e, h.2.2.2.trans (ExD.of e)⟩
theorem RT.mut {H0 H : Hp} {d r p : Addr} {xs ys : List V} {rs : List (Nat × Int)} {o : HO} (h : RT H0 d r xs rs H) (n : d ≠ p) (hp : H p = some (.lst ys)) (hf : H0 p = none) : RT H0 d r xs rs (upd H p o) :=
  ⟨h.1.mut n, by rw [upd_ne (fun e => by rw [← e, h.2.1] at hp; cases hp)]; exact h.2.1, h.2.2.1.mut hp, h.2.2.2.mut hf⟩
theorem DescAt.mut {H : Hp} {p : Addr} {ys : List V} {u : HO} {v : V} {o : Option (List V)} (h : DescAt H v o) (hp : H p = some (.lst ys)) (hl : ys.length ≠ 2) : DescAt (upd H p u) v o := by
  cases o with
  | none =>
    rcases h with h | ⟨a, x, y, h1, h2⟩
    · exact .inl h
    · exact .inr ⟨a, x, y, h1, by rw [upd_ne (fun z => by rw [z, hp] at h2; cases h2; exact hl rfl)]; exact h2⟩
  | some xs => obtain ⟨a, h1, h2, h3⟩ := h; exact ⟨a, h1, by rw [upd_ne (fun z => by rw [z, hp] at h2; cases h2)]; exact h2, h3⟩
/-- what a paper tells -/
def Told (n : Nat) (left : Bool) (m : Nat) (rs : List (Nat × Int)) (H : Hp) (v : V) (o : Option (List V)) : Prop :=
  DescAt H v o ∧ (v = .non ↔ ∀ b, b < m → mn n (byOf rs (2 ^ b)) = mn n (2 ^ b)) ∧ (o = none ∨ ∃ b, b < m ∧ mn n (byOf rs (2 ^ b)) ≠ mn n (2 ^ b) ∧ o = some [.int (farW n left), .int (2 ^ b)]) ∧ (v ≠ .non → o ≠ none)
theorem RT.exd {H0 H H' : Hp} {d r : Addr} {xs : List V} {rs : List (Nat × Int)} (h : RT H0 d r xs rs H) (e : ExD d H H') (hd : DiceAt H' d) : RT H0 d r xs rs H' :=
  ⟨hd, e _ _ (fun z => by
    obtain ⟨l, m, k, _, _, _, hh⟩ := h.1
    rw [← z, h.2.1] at hh; cases hh) h.2.1, h.2.2.1.exd h.1 e, h.2.2.2.trans e⟩
def okD (o : Option (List V)) : Prop := ∀ ys, o = some ys → ∀ i : Int, V.int i ∈ ys → -(10 ^ 60) < i ∧ i < 10 ^ 60
/-- a list of values that may be papers, beside the dice -/
def VL (H0 : Hp) (d L : Addr) (vs : List V) (ds : List (Option (List V))) (H : Hp) : Prop := DiceAt H d ∧ H L = some (.lst vs) ∧ Paired (DescAt H) vs ds ∧ (∀ o, o ∈ ds → okD o) ∧ ExD d H0 H
theorem VL.dice {H0 H : Hp} {d L : Addr} {vs : List V} {ds : List (Option (List V))} {x y z : Int} (h : VL H0 d L vs ds H) (n : d ≠ L) (hx : 0 ≤ x) (hy : 0 ≤ y) (hz : 0 ≤ z) : VL H0 d L vs ds (upd H d (dice3 x y z)) :=
  ⟨dice_upd hx hy hz, by rw [upd_ne n.symm]; exact h.2.1, Paired.mapP h.2.2.1 fun _ _ r => r.exd h.1 exd_upd, h.2.2.2.1, h.2.2.2.2.trans exd_upd⟩
theorem VL.ex {H0 H H' : Hp} {d L : Addr} {vs : List V} {ds : List (Option (List V))} (h : VL H0 d L vs ds H) (e : Ex H H') : VL H0 d L vs ds H' :=
  ⟨h.1.ex e, e _ _ h.2.1, Paired.mapP h.2.2.1 fun _ _ r => r.ex e, h.2.2.2.1, h.2.2.2.2.trans (ExD.of e)⟩
theorem VL.push {H0 H : Hp} {d L : Addr} {vs : List V} {ds : List (Option (List V))} {v : V} {o : Option (List V)} (h : VL H0 d L vs ds H) (n : d ≠ L) (hf : H0 L = none) (hl : 3 ≤ vs.length) (hv : DescAt H v o) (ho : okD o) : VL H0 d L (vs ++ [v]) (ds ++ [o]) (upd H L (.lst (vs ++ [v]))) :=
  ⟨h.1.mut n, upd_same, Paired.app' (Paired.mapP h.2.2.1 fun _ _ r => r.mut h.2.1 (by omega)) (hv.mut h.2.1 (by omega)), fun q hq => by
    rcases List.mem_append.mp hq with h' | h'
    · exact h.2.2.2.1 q h'
    · rw [List.mem_singleton.mp h']; exact ho, h.2.2.2.2.mut hf⟩
def LastP (n m : Nat) (vs : List V) (H : Hp) : Prop := ∃ (vs' : List V) (u : Addr) (w a : Int), vs = vs' ++ [V.ref u] ∧ H u = some (.tup [.int w, .int a]) ∧ 0 ≤ w ∧ w < 2 ^ n ∧ 0 ≤ a ∧ a < 2 ^ m
def prT (rs : List (Nat × Int)) : PyData := .tuple (rs.map prD)
def tupR (H : Hp) (v : V) (rs : List (Nat × Int)) : Prop := ∃ r xs, v = .ref r ∧ H r = some (.tup xs) ∧ RsAt H xs rs
theorem tupR.ex {H H' : Hp} {v : V} {rs : List (Nat × Int)} (e : Ex H H') (h : tupR H v rs) : tupR H' v rs := by
  obtain ⟨r, xs, h1, h2, h3⟩ := h; exact ⟨r, xs, h1, e _ _ h2, h3.ex e⟩
theorem tupR.mut {H : Hp} {p : Addr} {ys : List V} {o : HO} {v : V} {rs : List (Nat × Int)} (hp : H p = some (.lst ys)) (h : tupR H v rs) : tupR (upd H p o) v rs := by
  obtain ⟨r, xs, h1, h2, h3⟩ := h
  exact ⟨r, xs, h1, by rw [upd_ne (fun z => by rw [z, hp] at h2; cases h2)]; exact h2, h3.mut hp⟩
theorem tupR.dp {K : PySem.W.Frag} {H : Hp} {v : V} {rs : List (Nat × Int)} (h : tupR H v rs) : Dp K H v (prT rs) := by
  obtain ⟨r, xs, rfl, h2, h3⟩ := h
  exact .tup (.of h2) (dpAll_prs h3)
local macro_rules | `(tactic| walk_at "rd") => `(tactic|
  simp only [tSeq, tAsg, gName, tVar, tC, tOp, tUn, rI, rI0, rU, rEq, rNe, tTest, tB, tNot, tAnd, tOr, tIfS, tRet, tRetN, tNext, tNever, tDrop, tCall, tCallN, tCallK, tCons, tNil, tTup, tLst, tIf, tIfV, tAndV, tOrV, tNotV, tPar, tPar3, tAug, ipI, tChain, tCB, tBM, tSl, tPart, tNoPart, tRevL,
    L2.start, List.map_cons, List.map_nil, List.length_cons, List.length_nil, List.replicate, List.cons_append, List.nil_append, List.append_nil, Nat.reduceAdd, Nat.reduceSub, List.set, List.getElem?_cons_zero, List.getElem?_cons_succ,
    ex_eq_l, exists_eq_left, exists_eq_left', exists_and_left, exists_and_right, exists_eq_right, exists_eq, exists_eq', and_assoc, Option.some.injEq, V.int.injEq, V.bl.injEq, V.str.injEq, V.ref.injEq, List.cons.injEq, and_true, true_and, decide_eq_true_eq, Bool.not_eq_true', decide_eq_false_iff_not, Bool.false_eq_true, Bool.true_eq_false, reduceCtorEq, if_false, if_true, ite_true, ite_false, reduceIte, ite_not, not_true_eq_false, not_false_eq_true, scal_ii, scal_bb, scal_ss, eq_self_iff_true, Int.reduceNeg, cxK, gSub, tLc_eq, L2.wipe, List.map, tFor_eq, iRng1, iRng2, iList, iTup, iEnum, iEnumT, iZip, gTup, gCons, gNil, Int.toNat_natCast, Int.toNat_zero, forall_const, false_and, and_false, exists_const, exists_false, or_false, false_or])
local macro_rules | `(tactic| walk_at "rt") => `(tactic| try walk_at "rd")
local macro_rules | `(tactic| walk_at "r1") => `(tactic| (try simp only [tAsg, gName, tVar, tC, tOp, tUn, rI, rI0, rU, rEq, rNe, tTest, tB, tNot, tAnd, tOr, tIfS, tRet, tRetN, tNext, tNever, tDrop, tCall, tCallN, tCallK, tCons, tNil, tTup, tLst, tIf, tIfV, tAndV, tOrV, tNotV, tPar, tPar3, tAug, ipI, tChain, tCB, tBM, tSl, tPart, tNoPart, tRevL,     L2.start, List.map_cons, List.map_nil, List.length_cons, List.length_nil, List.replicate, List.cons_append, List.nil_append, List.append_nil, Nat.reduceAdd, Nat.reduceSub, List.set, List.getElem?_cons_zero, List.getElem?_cons_succ,     ex_eq_l, exists_eq_left, exists_eq_left', exists_and_left, exists_and_right, exists_eq_right, exists_eq, exists_eq', and_assoc, Option.some.injEq, V.int.injEq, V.bl.injEq, V.str.injEq, V.ref.injEq, List.cons.injEq, and_true, true_and, decide_eq_true_eq, Bool.not_eq_true', decide_eq_false_iff_not, Bool.false_eq_true, Bool.true_eq_false, reduceCtorEq, if_false, if_true, ite_true, ite_false, reduceIte, ite_not, not_true_eq_false, not_false_eq_true, scal_ii, scal_bb, scal_ss, eq_self_iff_true, Int.reduceNeg, cxK, gSub, tLc_eq, L2.wipe, List.map, tFor_eq, iRng1, iRng2, iList, iTup, iEnum, iEnumT, iZip, gTup, gCons, gNil, Int.toNat_natCast, Int.toNat_zero, forall_const, false_and, and_false, exists_const, exists_false, or_false, false_or]))
local macro_rules | `(tactic| walk_at "rs") => `(tactic| (walk_at "r1"; (try refine tSeq_go ?_); walk_at "r1"; (try refine tSeq_go ?_); walk_at "r1"))
def topS (i : Nat) : Stmt := PySem.Challenge.pw_truebeat_k21_whole_rounds_that_shift.main.body.getD i (.Pass ⟨0, 0, 0, 0⟩)
abbrev s_is_integer : Stmt := topS 2
abbrev s_is_between : Stmt := topS 3
abbrev s_is_index : Stmt := topS 4
abbrev s_is_word_of : Stmt := topS 5
abbrev s_is_pair : Stmt := topS 6
abbrev s_is_tuple_of : Stmt := topS 7
abbrev s_check_number : Stmt := topS 15
abbrev s_check_word : Stmt := topS 16
abbrev s_is_shift_round : Stmt := topS 23
abbrev s_check_rounds : Stmt := topS 24
abbrev s_plain_rounds : Stmt := topS 25
abbrev s_moved : Stmt := topS 26
abbrev s_moved_in_rounds : Stmt := topS 27
abbrev s_moved_by : Stmt := topS 28
abbrev s_rounds_paper : Stmt := topS 29
abbrev s_is_rounds_paper : Stmt := topS 30
abbrev s_law_dice : Stmt := topS 32
abbrev s_law_roll : Stmt := topS 33
abbrev s_law_one_of : Stmt := topS 34
abbrev s_law_two_to : Stmt := topS 35
abbrev s_law_mixed : Stmt := topS 36
abbrev s_law_rounds_drawn : Stmt := topS 37
abbrev s_law_moved : Stmt := topS 38
abbrev s_law_by : Stmt := topS 39
abbrev s_law_is_paper : Stmt := topS 40
abbrev s_law_right : Stmt := topS 41
abbrev s_law : Stmt := topS 42
abbrev N_is_integer : List Str := ["value"]
abbrev P_is_integer : List Str := ["value"]
theorem sc_is_integer : FnScope N_is_integer P_is_integer (defScope s_is_integer) := ⟨rfl, rfl, rfl, by decide +kernel, rfl, by decide +kernel, by decide +kernel⟩
abbrev N_is_between : List Str := ["value", "least", "most"]
abbrev P_is_between : List Str := ["value", "least", "most"]
theorem sc_is_between : FnScope N_is_between P_is_between (defScope s_is_between) := ⟨rfl, rfl, rfl, by decide +kernel, rfl, by decide +kernel, by decide +kernel⟩
abbrev N_is_index : List Str := ["value", "many"]
abbrev P_is_index : List Str := ["value", "many"]
theorem sc_is_index : FnScope N_is_index P_is_index (defScope s_is_index) := ⟨rfl, rfl, rfl, by decide +kernel, rfl, by decide +kernel, by decide +kernel⟩
abbrev N_is_word_of : List Str := ["bits", "value"]
abbrev P_is_word_of : List Str := ["bits", "value"]
theorem sc_is_word_of : FnScope N_is_word_of P_is_word_of (defScope s_is_word_of) := ⟨rfl, rfl, rfl, by decide +kernel, rfl, by decide +kernel, by decide +kernel⟩
abbrev N_is_pair : List Str := ["value"]
abbrev P_is_pair : List Str := ["value"]
theorem sc_is_pair : FnScope N_is_pair P_is_pair (defScope s_is_pair) := ⟨rfl, rfl, rfl, by decide +kernel, rfl, by decide +kernel, by decide +kernel⟩
abbrev N_is_tuple_of : List Str := ["value", "least", "most"]
abbrev P_is_tuple_of : List Str := ["value", "least", "most"]
theorem sc_is_tuple_of : FnScope N_is_tuple_of P_is_tuple_of (defScope s_is_tuple_of) := ⟨rfl, rfl, rfl, by decide +kernel, rfl, by decide +kernel, by decide +kernel⟩
abbrev N_check_number : List Str := ["value", "least", "most"]
abbrev P_check_number : List Str := ["value", "least", "most"]
theorem sc_check_number : FnScope N_check_number P_check_number (defScope s_check_number) := ⟨rfl, rfl, rfl, by decide +kernel, rfl, by decide +kernel, by decide +kernel⟩
abbrev N_check_word : List Str := ["width", "word"]
abbrev P_check_word : List Str := ["width", "word"]
theorem sc_check_word : FnScope N_check_word P_check_word (defScope s_check_word) := ⟨rfl, rfl, rfl, by decide +kernel, rfl, by decide +kernel, by decide +kernel⟩
abbrev N_is_shift_round : List Str := ["value", "many"]
abbrev P_is_shift_round : List Str := ["value", "many"]
theorem sc_is_shift_round : FnScope N_is_shift_round P_is_shift_round (defScope s_is_shift_round) := ⟨rfl, rfl, rfl, by decide +kernel, rfl, by decide +kernel, by decide +kernel⟩
abbrev N_check_rounds : List Str := ["size", "side", "many", "rounds", "pair"]
abbrev P_check_rounds : List Str := ["size", "side", "many", "rounds"]
theorem sc_check_rounds : FnScope N_check_rounds P_check_rounds (defScope s_check_rounds) := ⟨rfl, rfl, rfl, by decide +kernel, rfl, by decide +kernel, by decide +kernel⟩
abbrev N_plain_rounds : List Str := ["many", "bit"]
abbrev P_plain_rounds : List Str := ["many"]
theorem sc_plain_rounds : FnScope N_plain_rounds P_plain_rounds (defScope s_plain_rounds) := ⟨rfl, rfl, rfl, by decide +kernel, rfl, by decide +kernel, by decide +kernel⟩
abbrev N_moved : List Str := ["size", "side", "word", "places"]
abbrev P_moved : List Str := ["size", "side", "word", "places"]
theorem sc_moved : FnScope N_moved P_moved (defScope s_moved) := ⟨rfl, rfl, rfl, by decide +kernel, rfl, by decide +kernel, by decide +kernel⟩
abbrev N_moved_in_rounds : List Str := ["size", "side", "rounds", "word", "amount", "places", "bit", "by"]
abbrev P_moved_in_rounds : List Str := ["size", "side", "rounds", "word", "amount"]
theorem sc_moved_in_rounds : FnScope N_moved_in_rounds P_moved_in_rounds (defScope s_moved_in_rounds) := ⟨rfl, rfl, rfl, by decide +kernel, rfl, by decide +kernel, by decide +kernel⟩
abbrev N_moved_by : List Str := ["size", "side", "many", "rounds", "word", "amount"]
abbrev P_moved_by : List Str := ["size", "side", "many", "rounds", "word", "amount"]
theorem sc_moved_by : FnScope N_moved_by P_moved_by (defScope s_moved_by) := ⟨rfl, rfl, rfl, by decide +kernel, rfl, by decide +kernel, by decide +kernel⟩
abbrev N_rounds_paper : List Str := ["size", "side", "many", "rounds", "bit", "places", "at", "by", "farthest"]
abbrev P_rounds_paper : List Str := ["size", "side", "many", "rounds"]
theorem sc_rounds_paper : FnScope N_rounds_paper P_rounds_paper (defScope s_rounds_paper) := ⟨rfl, rfl, rfl, by decide +kernel, rfl, by decide +kernel, by decide +kernel⟩
abbrev N_is_rounds_paper : List Str := ["size", "side", "many", "rounds", "value", "word", "amount"]
abbrev P_is_rounds_paper : List Str := ["size", "side", "many", "rounds", "value"]
theorem sc_is_rounds_paper : FnScope N_is_rounds_paper P_is_rounds_paper (defScope s_is_rounds_paper) := ⟨rfl, rfl, rfl, by decide +kernel, rfl, by decide +kernel, by decide +kernel⟩
abbrev N_law_dice : List Str := ["script", "at", "cell", "great", "left", "mixed"]
abbrev P_law_dice : List Str := ["script", "at"]
theorem sc_law_dice : FnScope N_law_dice P_law_dice (defScope s_law_dice) := ⟨rfl, rfl, rfl, by decide +kernel, rfl, by decide +kernel, by decide +kernel⟩
abbrev N_law_roll : List Str := ["dice", "total", "size", "drawn", "one", "two"]
abbrev P_law_roll : List Str := ["dice", "total"]
theorem sc_law_roll : FnScope N_law_roll P_law_roll (defScope s_law_roll) := ⟨rfl, rfl, rfl, by decide +kernel, rfl, by decide +kernel, by decide +kernel⟩
abbrev N_law_one_of : List Str := ["dice", "items"]
abbrev P_law_one_of : List Str := ["dice", "items"]
theorem sc_law_one_of : FnScope N_law_one_of P_law_one_of (defScope s_law_one_of) := ⟨rfl, rfl, rfl, by decide +kernel, rfl, by decide +kernel, by decide +kernel⟩
abbrev N_law_two_to : List Str := ["bits", "found", "turn"]
abbrev P_law_two_to : List Str := ["bits"]
theorem sc_law_two_to : FnScope N_law_two_to P_law_two_to (defScope s_law_two_to) := ⟨rfl, rfl, rfl, by decide +kernel, rfl, by decide +kernel, by decide +kernel⟩
abbrev N_law_mixed : List Str := ["dice", "items", "left", "found"]
abbrev P_law_mixed : List Str := ["dice", "items"]
theorem sc_law_mixed : FnScope N_law_mixed P_law_mixed (defScope s_law_mixed) := ⟨rfl, rfl, rfl, by decide +kernel, rfl, by decide +kernel, by decide +kernel⟩
abbrev N_law_rounds_drawn : List Str := ["dice", "size", "many", "found", "bit", "by", "some", "at"]
abbrev P_law_rounds_drawn : List Str := ["dice", "size", "many"]
theorem sc_law_rounds_drawn : FnScope N_law_rounds_drawn P_law_rounds_drawn (defScope s_law_rounds_drawn) := ⟨rfl, rfl, rfl, by decide +kernel, rfl, by decide +kernel, by decide +kernel⟩
abbrev N_law_moved : List Str := ["size", "side", "word", "places", "many"]
abbrev P_law_moved : List Str := ["size", "side", "word", "places"]
theorem sc_law_moved : FnScope N_law_moved P_law_moved (defScope s_law_moved) := ⟨rfl, rfl, rfl, by decide +kernel, rfl, by decide +kernel, by decide +kernel⟩
abbrev N_law_by : List Str := ["rounds", "amount", "bit", "by"]
abbrev P_law_by : List Str := ["rounds", "amount"]
theorem sc_law_by : FnScope N_law_by P_law_by (defScope s_law_by) := ⟨rfl, rfl, rfl, by decide +kernel, rfl, by decide +kernel, by decide +kernel⟩
abbrev N_law_is_paper : List Str := ["size", "side", "many", "rounds", "value", "one", "word", "amount"]
abbrev P_law_is_paper : List Str := ["size", "side", "many", "rounds", "value"]
theorem sc_law_is_paper : FnScope N_law_is_paper P_law_is_paper (defScope s_law_is_paper) := ⟨rfl, rfl, rfl, by decide +kernel, rfl, by decide +kernel, by decide +kernel⟩
abbrev N_law_right : List Str := ["dice", "size", "side", "many", "rounds", "told", "wrong", "bit", "every", "at", "full", "more", "some", "turn", "value", "word", "amount"]
abbrev P_law_right : List Str := ["dice"]
theorem sc_law_right : FnScope N_law_right P_law_right (defScope s_law_right) := ⟨rfl, rfl, rfl, by decide +kernel, rfl, by decide +kernel, by decide +kernel⟩
abbrev N_law : List Str := ["script", "at", "dice", "turn", "many", "some"]
abbrev P_law : List Str := ["script"]
theorem sc_law : FnScope N_law P_law (defScope s_law) := ⟨rfl, rfl, rfl, by decide +kernel, rfl, by decide +kernel, by decide +kernel⟩
structure Txt (K : PySem.W.Frag) (mg : Str → Option Value) where
  f_is_integer : Addr
  d_is_integer : FuncData
  F_is_integer : Fun K "is_integer" "is_integer" s_is_integer f_is_integer d_is_integer
  b_is_integer : Binds K d_is_integer P_is_integer []
  m_is_integer : mg "is_integer" = some (.ref f_is_integer)
  f_is_between : Addr
  d_is_between : FuncData
  F_is_between : Fun K "is_between" "is_between" s_is_between f_is_between d_is_between
  b_is_between : Binds K d_is_between P_is_between []
  m_is_between : mg "is_between" = some (.ref f_is_between)
  f_is_index : Addr
  d_is_index : FuncData
  F_is_index : Fun K "is_index" "is_index" s_is_index f_is_index d_is_index
  b_is_index : Binds K d_is_index P_is_index []
  m_is_index : mg "is_index" = some (.ref f_is_index)
  f_is_word_of : Addr
  d_is_word_of : FuncData
  F_is_word_of : Fun K "is_word_of" "is_word_of" s_is_word_of f_is_word_of d_is_word_of
  b_is_word_of : Binds K d_is_word_of P_is_word_of []
  m_is_word_of : mg "is_word_of" = some (.ref f_is_word_of)
  f_is_pair : Addr
  d_is_pair : FuncData
  F_is_pair : Fun K "is_pair" "is_pair" s_is_pair f_is_pair d_is_pair
  b_is_pair : Binds K d_is_pair P_is_pair []
  m_is_pair : mg "is_pair" = some (.ref f_is_pair)
  f_is_tuple_of : Addr
  d_is_tuple_of : FuncData
  F_is_tuple_of : Fun K "is_tuple_of" "is_tuple_of" s_is_tuple_of f_is_tuple_of d_is_tuple_of
  b_is_tuple_of : Binds K d_is_tuple_of P_is_tuple_of []
  m_is_tuple_of : mg "is_tuple_of" = some (.ref f_is_tuple_of)
  f_check_number : Addr
  d_check_number : FuncData
  F_check_number : Fun K "check_number" "check_number" s_check_number f_check_number d_check_number
  b_check_number : Binds K d_check_number P_check_number []
  m_check_number : mg "check_number" = some (.ref f_check_number)
  f_check_word : Addr
  d_check_word : FuncData
  F_check_word : Fun K "check_word" "check_word" s_check_word f_check_word d_check_word
  b_check_word : Binds K d_check_word P_check_word []
  m_check_word : mg "check_word" = some (.ref f_check_word)
  f_is_shift_round : Addr
  d_is_shift_round : FuncData
  F_is_shift_round : Fun K "is_shift_round" "is_shift_round" s_is_shift_round f_is_shift_round d_is_shift_round
  b_is_shift_round : Binds K d_is_shift_round P_is_shift_round []
  m_is_shift_round : mg "is_shift_round" = some (.ref f_is_shift_round)
  f_check_rounds : Addr
  d_check_rounds : FuncData
  F_check_rounds : Fun K "check_rounds" "check_rounds" s_check_rounds f_check_rounds d_check_rounds
  b_check_rounds : Binds K d_check_rounds P_check_rounds []
  m_check_rounds : mg "check_rounds" = some (.ref f_check_rounds)
  f_plain_rounds : Addr
  d_plain_rounds : FuncData
  F_plain_rounds : Fun K "plain_rounds" "plain_rounds" s_plain_rounds f_plain_rounds d_plain_rounds
  b_plain_rounds : Binds K d_plain_rounds P_plain_rounds []
  m_plain_rounds : mg "plain_rounds" = some (.ref f_plain_rounds)
  f_moved : Addr
  d_moved : FuncData
  F_moved : Fun K "moved" "moved" s_moved f_moved d_moved
  b_moved : Binds K d_moved P_moved []
  m_moved : mg "moved" = some (.ref f_moved)
  f_moved_in_rounds : Addr
  d_moved_in_rounds : FuncData
  F_moved_in_rounds : Fun K "moved_in_rounds" "moved_in_rounds" s_moved_in_rounds f_moved_in_rounds d_moved_in_rounds
  b_moved_in_rounds : Binds K d_moved_in_rounds P_moved_in_rounds []
  m_moved_in_rounds : mg "moved_in_rounds" = some (.ref f_moved_in_rounds)
  f_moved_by : Addr
  d_moved_by : FuncData
  F_moved_by : Fun K "moved_by" "moved_by" s_moved_by f_moved_by d_moved_by
  b_moved_by : Binds K d_moved_by P_moved_by []
  m_moved_by : mg "moved_by" = some (.ref f_moved_by)
  f_rounds_paper : Addr
  d_rounds_paper : FuncData
  F_rounds_paper : Fun K "rounds_paper" "rounds_paper" s_rounds_paper f_rounds_paper d_rounds_paper
  b_rounds_paper : Binds K d_rounds_paper P_rounds_paper []
  m_rounds_paper : mg "rounds_paper" = some (.ref f_rounds_paper)
  f_is_rounds_paper : Addr
  d_is_rounds_paper : FuncData
  F_is_rounds_paper : Fun K "is_rounds_paper" "is_rounds_paper" s_is_rounds_paper f_is_rounds_paper d_is_rounds_paper
  b_is_rounds_paper : Binds K d_is_rounds_paper P_is_rounds_paper []
  m_is_rounds_paper : mg "is_rounds_paper" = some (.ref f_is_rounds_paper)
  f_law_dice : Addr
  d_law_dice : FuncData
  F_law_dice : Fun K "_law_dice" "_law_dice" s_law_dice f_law_dice d_law_dice
  b_law_dice : Binds K d_law_dice P_law_dice []
  m_law_dice : mg "_law_dice" = some (.ref f_law_dice)
  f_law_roll : Addr
  d_law_roll : FuncData
  F_law_roll : Fun K "_law_roll" "_law_roll" s_law_roll f_law_roll d_law_roll
  b_law_roll : Binds K d_law_roll P_law_roll []
  m_law_roll : mg "_law_roll" = some (.ref f_law_roll)
  f_law_one_of : Addr
  d_law_one_of : FuncData
  F_law_one_of : Fun K "_law_one_of" "_law_one_of" s_law_one_of f_law_one_of d_law_one_of
  b_law_one_of : Binds K d_law_one_of P_law_one_of []
  m_law_one_of : mg "_law_one_of" = some (.ref f_law_one_of)
  f_law_two_to : Addr
  d_law_two_to : FuncData
  F_law_two_to : Fun K "_law_two_to" "_law_two_to" s_law_two_to f_law_two_to d_law_two_to
  b_law_two_to : Binds K d_law_two_to P_law_two_to []
  m_law_two_to : mg "_law_two_to" = some (.ref f_law_two_to)
  f_law_mixed : Addr
  d_law_mixed : FuncData
  F_law_mixed : Fun K "_law_mixed" "_law_mixed" s_law_mixed f_law_mixed d_law_mixed
  b_law_mixed : Binds K d_law_mixed P_law_mixed []
  m_law_mixed : mg "_law_mixed" = some (.ref f_law_mixed)
  f_law_rounds_drawn : Addr
  d_law_rounds_drawn : FuncData
  F_law_rounds_drawn : Fun K "_law_rounds_drawn" "_law_rounds_drawn" s_law_rounds_drawn f_law_rounds_drawn d_law_rounds_drawn
  b_law_rounds_drawn : Binds K d_law_rounds_drawn P_law_rounds_drawn []
  m_law_rounds_drawn : mg "_law_rounds_drawn" = some (.ref f_law_rounds_drawn)
  f_law_moved : Addr
  d_law_moved : FuncData
  F_law_moved : Fun K "_law_moved" "_law_moved" s_law_moved f_law_moved d_law_moved
  b_law_moved : Binds K d_law_moved P_law_moved []
  m_law_moved : mg "_law_moved" = some (.ref f_law_moved)
  f_law_by : Addr
  d_law_by : FuncData
  F_law_by : Fun K "_law_by" "_law_by" s_law_by f_law_by d_law_by
  b_law_by : Binds K d_law_by P_law_by []
  m_law_by : mg "_law_by" = some (.ref f_law_by)
  f_law_is_paper : Addr
  d_law_is_paper : FuncData
  F_law_is_paper : Fun K "_law_is_paper" "_law_is_paper" s_law_is_paper f_law_is_paper d_law_is_paper
  b_law_is_paper : Binds K d_law_is_paper P_law_is_paper []
  m_law_is_paper : mg "_law_is_paper" = some (.ref f_law_is_paper)
  f_law_right : Addr
  d_law_right : FuncData
  F_law_right : Fun K "_law_right" "_law_right" s_law_right f_law_right d_law_right
  b_law_right : Binds K d_law_right P_law_right []
  m_law_right : mg "_law_right" = some (.ref f_law_right)
  f_law : Addr
  d_law : FuncData
  F_law : Fun K "law" "law" s_law f_law d_law
  b_law : Binds K d_law P_law []
  m_law : mg "law" = some (.ref f_law)
  n_abs : mg "abs" = none
  n_all : mg "all" = none
  n_bool : mg "bool" = none
  n_int : mg "int" = none
  n_isinstance : mg "isinstance" = none
  n_len : mg "len" = none
  n_list : mg "list" = none
  n_max : mg "max" = none
  n_min : mg "min" = none
  n_range : mg "range" = none
  n_sum : mg "sum" = none
  n_tuple : mg "tuple" = none
  u_LEAST_TOO_LONG : Value
  c_LEAST_TOO_LONG : mg "LEAST_TOO_LONG" = some u_LEAST_TOO_LONG
  r_LEAST_TOO_LONG : RelV (.int 1000000000000000000000000000000000000000000000000000000000000) u_LEAST_TOO_LONG
  u_MAX_SHIFTED : Value
  c_MAX_SHIFTED : mg "MAX_SHIFTED" = some u_MAX_SHIFTED
  r_MAX_SHIFTED : RelV (.int 32) u_MAX_SHIFTED
  u_MAX_AMOUNT : Value
  c_MAX_AMOUNT : mg "MAX_AMOUNT" = some u_MAX_AMOUNT
  r_MAX_AMOUNT : RelV (.int 6) u_MAX_AMOUNT
  u_MAX_ROUNDS : Value
  c_MAX_ROUNDS : mg "MAX_ROUNDS" = some u_MAX_ROUNDS
  r_MAX_ROUNDS : RelV (.int 24) u_MAX_ROUNDS
  u_MAX_BY : Value
  c_MAX_BY : mg "MAX_BY" = some u_MAX_BY
  r_MAX_BY : RelV (.int 64) u_MAX_BY
  u_SIDES : Addr
  c_SIDES : mg "SIDES" = some (.ref u_SIDES)
  t_SIDES : ∀ H, SqT K H u_SIDES [V.str "left", V.str "right"]
section
variable {P : Program} {w : World} {K : PySem.W.Frag} {mg : Str → Option Value} {base : Heap}
def sp_is_integer (K : PySem.W.Frag) : Sp := fun vs H Q _ => ∃ v, vs = [v] ∧ Typd K H v ∧ Q (.bl (isI v)) H
set_option maxHeartbeats 4000000 in
theorem ok_is_integer (T : Txt K mg) : FnOk P w K mg base CX0 1 T.f_is_integer T.d_is_integer P_is_integer (sp_is_integer K) := by
  refine T.F_is_integer.ok sc_is_integer (fun vs H Q E h => ?_) (fun cdv A outer s H vs Q E hr h => ?_)
  · obtain ⟨v, rfl, _⟩ := h; rfl
  · obtain ⟨v, rfl, ⟨n, hn, ty⟩, q⟩ := h
    refine ⟨_, (pss_one (ps_ret (pe_and (pe_callB call_isi (by rfl) T.n_isinstance (by decide +kernel) (pa_cons (pv 0) (pa_cons (pe_bltn (v := .ty "int") (by rfl) T.n_int (by decide +kernel) rfl) pa_nil))) (pe_and (pe_not (pe_callB call_isi (by rfl) T.n_isinstance (by decide +kernel) (pa_cons (pv 0) (pa_cons (pe_bltn (v := .ty "bool") (by rfl) T.n_bool (by decide +kernel) rfl) pa_nil)))) (pe_one (pe_chain op_lt op_lt (pe_un un_neg (pe_glob (by rfl) T.c_LEAST_TOO_LONG T.r_LEAST_TOO_LONG)) (pv 0) (pe_glob (by rfl) T.c_LEAST_TOO_LONG T.r_LEAST_TOO_LONG))))))), ?_⟩
    walk_at "rd"
    by_cases e : n = "int"
    · subst e
      obtain ⟨i, rfl⟩ := int_of ty
      refine isi_to ty (b := true) (by decide +kernel) ⟨_, rfl, iteT (isi_to ty (b := false) (by decide +kernel) ⟨_, rfl, ?_⟩)⟩
      walk_at "rd"
      by_cases h1 : -1000000000000000000000000000000000000000000000000000000000000 < i
      · rw [if_pos h1]
        have e : isI (.int i) = decide (i < 1000000000000000000000000000000000000000000000000000000000000) := by
          show decide (-(10 ^ 60) < i ∧ i < 10 ^ 60) = _
          rw [decide_eq_decide]
          constructor
          · intro h; exact h.2
          · intro h; exact ⟨h1, h⟩
        rw [← e]; exact q
      · rw [if_neg h1]
        have e : isI (.int i) = false := by
          show decide (-(10 ^ 60) < i ∧ i < 10 ^ 60) = _
          rw [decide_eq_false_iff_not]
          intro h; exact h1 h.1
        rw [← e]; exact q
    · rw [isI_not ty e] at q
      by_cases e2 : n = "bool"
      · subst e2
        refine isi_to ty (b := true) (by decide +kernel) ⟨_, rfl, iteT (isi_to ty (b := true) (by decide +kernel) ⟨_, rfl, ?_⟩)⟩
        walk_at "rd"
        exact q
      · have : kitB n "int" = some false := by
          simp only [kinds, List.mem_cons, List.mem_nil_iff, or_false] at hn
          rcases hn with rfl | rfl | rfl | rfl | rfl | rfl | rfl
          · exact absurd rfl e
          · exact absurd rfl e2
          all_goals decide +kernel
        exact isi_to ty this ⟨_, rfl, iteF q⟩
def sp_is_between (K : PySem.W.Frag) : Sp := fun vs H Q _ => ∃ v lo hi, vs = [v, .int lo, .int hi] ∧ Typd K H v ∧ Q (.bl (btw v lo hi)) H
set_option maxHeartbeats 4000000 in
theorem ok_is_between (T : Txt K mg) : FnOk P w K mg base CX0 2 T.f_is_between T.d_is_between P_is_between (sp_is_between K) := by
  have G_is_integer := ok_is_integer (P := P) (w := w) (base := base) T
  refine T.F_is_between.ok sc_is_between (fun vs H Q E h => ?_) (fun cdv A outer s H vs Q E hr h => ?_)
  · obtain ⟨v, lo, hi, rfl, _⟩ := h; rfl
  · obtain ⟨v, lo, hi, rfl, ty, q⟩ := h
    refine ⟨_, (pss_one (ps_ret (pe_and (pe_call G_is_integer (hr.mono (by decide)) (by rfl) T.m_is_integer T.F_is_integer.kp T.b_is_integer .nil pass0 (pa_cons (pv 0) pa_nil)) (pe_one (pe_chain op_le op_le (pv 1) (pv 0) (pv 2)))))), ?_⟩
    walk_at "rd"
    refine ⟨v, rfl, ty, _, rfl, ?_⟩
    cases e : isI v with
    | false => rw [btw_not e] at q; exact iteF q
    | true =>
      refine iteT ?_
      cases v with
      | int i =>
        walk_at "rd"
        rw [btw_if e] at q
        by_cases h : lo ≤ i
        · rw [if_pos h] at *; exact q
        · rw [if_neg h] at *; exact q
      | _ => cases e
def sp_is_index (K : PySem.W.Frag) : Sp := fun vs H Q _ => ∃ (v : V) (m : Int), vs = [v, .int m] ∧ Typd K H v ∧ Q (.bl (btw v 0 (m - 1))) H
set_option maxHeartbeats 4000000 in
theorem ok_is_index (T : Txt K mg) : FnOk P w K mg base CX0 3 T.f_is_index T.d_is_index P_is_index (sp_is_index K) := by
  have G_is_between := ok_is_between (P := P) (w := w) (base := base) T
  refine T.F_is_index.ok sc_is_index (fun vs H Q E h => ?_) (fun cdv A outer s H vs Q E hr h => ?_)
  · obtain ⟨v, m, rfl, _⟩ := h; rfl
  · obtain ⟨v, m, rfl, ty, q⟩ := h
    refine ⟨_, (pss_one (ps_ret (pe_call G_is_between (hr.mono (by decide)) (by rfl) T.m_is_between T.F_is_between.kp T.b_is_between .nil pass0 (pa_cons (pv 0) (pa_cons pe_int (pa_cons (pe_op op_sub (pv 1) pe_int) pa_nil)))))), ?_⟩
    walk_at "rd"
    exact ⟨v, 0, _, rfl, ty, q⟩
def sp_is_word_of (K : PySem.W.Frag) : Sp := fun vs H Q _ => ∃ (n : Nat) (v : V), vs = [.int n, v] ∧ n ≤ 1000 ∧ Typd K H v ∧ Q (.bl (btw v 0 (2 ^ n - 1))) H
set_option maxHeartbeats 4000000 in
theorem ok_is_word_of (T : Txt K mg) : FnOk P w K mg base CX0 3 T.f_is_word_of T.d_is_word_of P_is_word_of (sp_is_word_of K) := by
  have G_is_between := ok_is_between (P := P) (w := w) (base := base) T
  refine T.F_is_word_of.ok sc_is_word_of (fun vs H Q E h => ?_) (fun cdv A outer s H vs Q E hr h => ?_)
  · obtain ⟨n, v, rfl, _⟩ := h; rfl
  · obtain ⟨n, v, rfl, hn, ty, q⟩ := h
    refine ⟨_, (pss_one (ps_ret (pe_call G_is_between (hr.mono (by decide)) (by rfl) T.m_is_between T.F_is_between.kp T.b_is_between .nil pass0 (pa_cons (pv 1) (pa_cons pe_int (pa_cons (pe_op op_sub (pe_op op_shl pe_int (pv 0)) pe_int) pa_nil)))))), ?_⟩
    walk_at "rd"
    refine ⟨(show CPow 1 n from ⟨by omega, by omega, by decide⟩), v, 0, _, rfl, ty, ?_⟩
    simpa using q
/-- a value that is a tuple of two, or not -/
def sp_is_pair (K : PySem.W.Frag) : Sp := fun vs H Q _ => ∃ (v : V) (b : Bool), vs = [v] ∧ ((∃ (a : Addr) (xs : List V), v = .ref a ∧ H a = some (.tup xs) ∧ b = decide ((xs.length : Int) = 2)) ∨ (∃ n, n ∈ kinds ∧ n ≠ "tuple" ∧ TyX K H v (.type n) ∧ b = false)) ∧ Q (.bl b) H
theorem kit_tuple {n : String} (hn : n ∈ kinds) (h : n ≠ "tuple") : kitB n "tuple" = some false := by
  simp only [kinds, List.mem_cons, List.mem_nil_iff, or_false] at hn
  rcases hn with rfl | rfl | rfl | rfl | rfl | rfl | rfl
  all_goals first | exact absurd rfl h | decide +kernel
set_option maxHeartbeats 4000000 in
theorem ok_is_pair (T : Txt K mg) : FnOk P w K mg base CX0 1 T.f_is_pair T.d_is_pair P_is_pair (sp_is_pair K) := by
  refine T.F_is_pair.ok sc_is_pair (fun vs H Q E h => ?_) (fun cdv A outer s H vs Q E hr h => ?_)
  · obtain ⟨v, b, rfl, _⟩ := h; rfl
  · obtain ⟨v, b, rfl, hv, q⟩ := h
    refine ⟨_, (pss_one (ps_ret (pe_and (pe_callB call_isi (by rfl) T.n_isinstance (by decide +kernel) (pa_cons (pv 0) (pa_cons (pe_bltn (v := .ty "tuple") (by rfl) T.n_tuple (by decide +kernel) rfl) pa_nil))) (pe_one (pe_cmpR op_eq (pe_callB call_len_seq (by rfl) T.n_len (by decide +kernel) (pa_cons (pv 0) pa_nil)) pe_int (nomark _)))))), ?_⟩
    walk_at "rd"
    rcases hv with ⟨a, xs, rfl, ha, rfl⟩ | ⟨n, hn, hne, ty, rfl⟩
    · refine isi_to (.base (.tup ha)) (b := true) (by decide +kernel) ⟨_, rfl, iteT ?_⟩
      walk_at "rt"
      exact ⟨_, .inr (.of ha), q⟩
    · exact isi_to ty (kit_tuple hn hne) ⟨_, rfl, iteF q⟩
def sp_is_tuple_of (K : PySem.W.Frag) : Sp := fun vs H Q _ => ∃ (a : Addr) (xs : List V) (lo hi : Int), vs = [.ref a, .int lo, .int hi] ∧ H a = some (.tup xs) ∧ Q (.bl (decide (lo ≤ xs.length ∧ (xs.length : Int) ≤ hi))) H
set_option maxHeartbeats 4000000 in
theorem ok_is_tuple_of (T : Txt K mg) : FnOk P w K mg base CX0 1 T.f_is_tuple_of T.d_is_tuple_of P_is_tuple_of (sp_is_tuple_of K) := by
  refine T.F_is_tuple_of.ok sc_is_tuple_of (fun vs H Q E h => ?_) (fun cdv A outer s H vs Q E hr h => ?_)
  · obtain ⟨a, xs, lo, hi, rfl, _⟩ := h; rfl
  · obtain ⟨a, xs, lo, hi, rfl, ha, q⟩ := h
    refine ⟨_, (pss_one (ps_ret (pe_and (pe_callB call_isi (by rfl) T.n_isinstance (by decide +kernel) (pa_cons (pv 0) (pa_cons (pe_bltn (v := .ty "tuple") (by rfl) T.n_tuple (by decide +kernel) rfl) pa_nil))) (pe_one (pe_chain op_le op_le (pv 1) (pe_callB call_len_seq (by rfl) T.n_len (by decide +kernel) (pa_cons (pv 0) pa_nil)) (pv 2)))))), ?_⟩
    walk_at "rd"
    refine isi_to (.base (.tup ha)) (b := true) (by decide +kernel) ⟨_, rfl, iteT ?_⟩
    walk_at "rt"
    refine ⟨_, .inr (.of ha), ?_⟩
    by_cases h : lo ≤ xs.length
    · rw [if_pos h]
      simp only [h, true_and] at q; exact q
    · rw [if_neg h]
      simp only [h, false_and, decide_false] at q; exact q
/-- no exception: the number lies between the bounds -/
def sp_check_number (K : PySem.W.Frag) : Sp := fun vs H Q _ => ∃ v lo hi, vs = [v, .int lo, .int hi] ∧ Typd K H v ∧ btw v lo hi = true ∧ Q .non H
set_option maxHeartbeats 4000000 in
theorem ok_check_number (T : Txt K mg) : FnOk P w K mg base CX0 3 T.f_check_number T.d_check_number P_check_number (sp_check_number K) := by
  have G_is_between := ok_is_between (P := P) (w := w) (base := base) T
  refine T.F_check_number.ok sc_check_number (fun vs H Q E h => ?_) (fun cdv A outer s H vs Q E hr h => ?_)
  · obtain ⟨v, lo, hi, rfl, _⟩ := h; rfl
  · obtain ⟨v, lo, hi, rfl, ty, hb, q⟩ := h
    refine ⟨_, (pss_one (ps_if (pt_not (pt_val (pe_call G_is_between (hr.mono (by decide)) (by rfl) T.m_is_between T.F_is_between.kp T.b_is_between .nil pass0 (pa_cons (pv 0) (pa_cons (pv 1) (pa_cons (pv 2) pa_nil)))))) pss_never pss_nil)), ?_⟩
    walk_at "rd"
    refine ⟨v, lo, hi, rfl, ty, true, ?_, ?_⟩
    · rw [hb]
    · walk_at "rd"; exact q
def sp_check_word (K : PySem.W.Frag) : Sp := fun vs H Q _ => ∃ (n : Nat) (i : Int), vs = [.int n, .int i] ∧ n ≤ 64 ∧ 0 ≤ i ∧ i < 2 ^ n ∧ Q .non H
set_option maxHeartbeats 4000000 in
theorem ok_check_word (T : Txt K mg) : FnOk P w K mg base CX0 4 T.f_check_word T.d_check_word P_check_word (sp_check_word K) := by
  have G_check_number := ok_check_number (P := P) (w := w) (base := base) T
  refine T.F_check_word.ok sc_check_word (fun vs H Q E h => ?_) (fun cdv A outer s H vs Q E hr h => ?_)
  · obtain ⟨n, i, rfl, _⟩ := h; rfl
  · obtain ⟨n, i, rfl, h0, h1, h2, q⟩ := h
    refine ⟨_, (pss_one (ps_expr (pe_call G_check_number (hr.mono (by decide)) (by rfl) T.m_check_number T.F_check_number.kp T.b_check_number .nil pass0 (pa_cons (pv 1) (pa_cons pe_int (pa_cons (pe_op op_sub (pe_op op_shl pe_int (pv 0)) pe_int) pa_nil)))))), ?_⟩
    walk_at "rd"
    have h3 := pow64 h0
    exact ⟨(show CPow 1 n from ⟨by omega, by omega, by decide⟩), _, _, _, rfl, .int, btw_ok h1 (by omega) (by omega) (by omega), q⟩
def sp_is_shift_round (K : PySem.W.Frag) : Sp := fun vs H Q _ => ∃ (v : V) (p : Nat × Int) (m : Nat), vs = [v, .int m] ∧ pairR H v p ∧ p.1 < m ∧ m ≤ 6 ∧ 0 ≤ p.2 ∧ p.2 ≤ 64 ∧ Q (.bl true) H
set_option maxHeartbeats 4000000 in
theorem ok_is_shift_round (T : Txt K mg) : FnOk P w K mg base CX0 4 T.f_is_shift_round T.d_is_shift_round P_is_shift_round (sp_is_shift_round K) := by
  have G_is_pair := ok_is_pair (P := P) (w := w) (base := base) T
  have G_is_index := ok_is_index (P := P) (w := w) (base := base) T
  have G_is_between := ok_is_between (P := P) (w := w) (base := base) T
  refine T.F_is_shift_round.ok sc_is_shift_round (fun vs H Q E h => ?_) (fun cdv A outer s H vs Q E hr h => ?_)
  · obtain ⟨v, p, m, rfl, _⟩ := h; rfl
  · obtain ⟨v, ⟨b, y⟩, m, rfl, ⟨u, rfl, hu⟩, h1, h2, h3, h4, q⟩ := h
    refine ⟨_, (pss_one (ps_ret (pe_and (pe_call G_is_pair (hr.mono (by decide)) (by rfl) T.m_is_pair T.F_is_pair.kp T.b_is_pair .nil pass0 (pa_cons (pv 0) pa_nil)) (pe_and (pe_call G_is_index (hr.mono (by decide)) (by rfl) T.m_is_index T.F_is_index.kp T.b_is_index .nil pass0 (pa_cons (pe_ix ix_tup (pv 0) pe_int (fun _ _ => rfl)) (pa_cons (pv 1) pa_nil))) (pe_one (pe_call G_is_between (hr.mono (by decide)) (by rfl) T.m_is_between T.F_is_between.kp T.b_is_between .nil pass0 (pa_cons (pe_ix ix_tup (pv 0) pe_int (fun _ _ => rfl)) (pa_cons pe_int (pa_cons (pe_glob (by rfl) T.c_MAX_BY T.r_MAX_BY) pa_nil))))))))), ?_⟩
    walk_at "rt"
    refine ⟨.ref u, true, rfl, .inl ⟨u, _, rfl, hu, rfl⟩, ?_⟩
    walk_at "rt"
    refine ixT (.of hu) (v := .int b) rfl ?_
    walk_at "rt"
    refine ⟨_, _, rfl, .int, ?_⟩
    rw [btw_ok (by omega) (by omega) (by omega) (by omega)]
    walk_at "rt"
    refine ixT (.of hu) (v := .int y) rfl ⟨_, _, _, rfl, .int, ?_⟩
    rw [btw_ok (by omega) (by omega) (by omega) (by omega)]
    exact q
def sp_check_rounds (K : PySem.W.Frag) : Sp := fun vs H Q _ => ∃ (n : Nat) (left : Bool) (m : Nat) (r : Addr) (xs : List V) (rs : List (Nat × Int)), vs = [.int n, sdV left, .int m, .ref r] ∧ 1 ≤ n ∧ n ≤ 32 ∧ 1 ≤ m ∧ m ≤ 6 ∧ H r = some (.tup xs) ∧ RsAt H xs rs ∧ RsIn m rs ∧ rs.length ≤ 24 ∧ ∀ H', Ex H H' → Q .non H'
set_option maxHeartbeats 4000000 in
theorem ok_check_rounds (T : Txt K mg) : FnOk P w K mg base CX0 5 T.f_check_rounds T.d_check_rounds P_check_rounds (sp_check_rounds K) := by
  have G_check_number := ok_check_number (P := P) (w := w) (base := base) T
  have G_is_tuple_of := ok_is_tuple_of (P := P) (w := w) (base := base) T
  have G_is_shift_round := ok_is_shift_round (P := P) (w := w) (base := base) T
  refine T.F_check_rounds.ok sc_check_rounds (fun vs H Q E h => ?_) (fun cdv A outer s H vs Q E hr h => ?_)
  · obtain ⟨n, left, m, r, xs, rs, rfl, _⟩ := h; rfl
  · obtain ⟨n, left, m, r, xs, rs, rfl, h1, h2, h3, h4, hr1, hr2, hr3, h5, q⟩ := h
    refine ⟨_, (pss_cons (ps_expr (pe_call G_check_number (hr.mono (by decide)) (by rfl) T.m_check_number T.F_check_number.kp T.b_check_number .nil pass0 (pa_cons (pv 0) (pa_cons pe_int (pa_cons (pe_glob (by rfl) T.c_MAX_SHIFTED T.r_MAX_SHIFTED) pa_nil)))))
      (pss_cons (ps_if (pt_cmpR op_notIn_seq (pv 1) (pe_glob (v := .ref T.u_SIDES) (by rfl) T.c_SIDES rfl) (by rfl)) pss_never pss_nil)
      (pss_cons (ps_expr (pe_call G_check_number (hr.mono (by decide)) (by rfl) T.m_check_number T.F_check_number.kp T.b_check_number .nil pass0 (pa_cons (pv 2) (pa_cons pe_int (pa_cons (pe_glob (by rfl) T.c_MAX_AMOUNT T.r_MAX_AMOUNT) pa_nil)))))
      (pss_one (ps_if (PW.pt (pw_or (pt_not (pt_val (pe_call G_is_tuple_of (hr.mono (by decide)) (by rfl) T.m_is_tuple_of T.F_is_tuple_of.kp T.b_is_tuple_of .nil pass0 (pa_cons (pv 3) (pa_cons pe_int (pa_cons (pe_glob (by rfl) T.c_MAX_ROUNDS T.r_MAX_ROUNDS) pa_nil)))))) (pw_or1 (pt_not (pt_val (pe_callB (cr_all rfl) (by rfl) T.n_all (by decide +kernel) (pa_cons (pe_lc (own := [("pair", 4)]) (g := gName 4) (tt := tYes) (by rfl) sc_check_rounds.nd (pi_tup (pv 3)) (blkOk_by (own := [("pair", 4)]) (N := N_check_rounds) (sc := defScope s_check_rounds) (by decide +kernel)) (fun _ _ _ _ _ => (pg_name (i := 4) sc_check_rounds.nd rfl (by first | exact Or.inl rfl | exact Or.inr rfl))) (fun _ _ _ _ _ => pts_nil) (fun _ _ _ _ _ => (pe_call G_is_shift_round (hr.mono (by decide)) (by rfl) T.m_is_shift_round T.F_is_shift_round.kp T.b_is_shift_round .nil pass0 (pa_cons (pv 4) (pa_cons (pv 2) pa_nil))))) pa_nil))))))) pss_never pss_nil))))), ?_⟩
    walk_at "rs"
    refine ⟨_, _, _, rfl, .int, btw_ok (by omega) (by omega) (by omega) (by omega), ?_⟩
    walk_at "rs"
    have hin : inV (sdV left) [V.str (Str.ofString "left"), V.str (Str.ofString "right")] = true := by
      cases left <;> decide +kernel
    refine ⟨_, _, rfl, .inr (T.t_SIDES H), by cases left <;> rfl, rfl, ?_⟩
    rw [hin]
    walk_at "rs"
    refine ⟨_, _, _, rfl, .int, btw_ok (by omega) (by omega) (by omega) (by omega), ?_⟩
    walk_at "rs"
    have hlen : xs.length = rs.length := Paired.len' hr2
    refine ⟨r, xs, _, _, rfl, hr1, ?_⟩
    rw [decide_eq_true (show (0 : Int) ≤ xs.length ∧ (xs.length : Int) ≤ 24 by omega)]
    walk_at "rs"
    refine ⟨⟨_, .of hr1⟩, fun D hD => ?_⟩
    refine lc_map (walk_tup (xs := xs)) (fun _ => .bl true) (by omega) hD (fun H' e => .of (e _ _ hr1)) ?_ ?_
    · rintro k x H' H2' hk e ⟨rfl, hx⟩ Qe qe
      obtain ⟨p, hp, hu⟩ := Paired.at' (hr2.ex e) hx
      obtain ⟨g1, g2, g3⟩ := hr3 _ (List.mem_of_getElem? hp)
      walk_at "rs"
      exact ⟨x, p, m, rfl, hu, g1, h4, g2, g3, qe _ (Ex.refl _)⟩
    intro H2 x2 l2
    walk_at "rs"
    refine all_true (n := xs.length) l2 (fun _ _ => rfl) ?_
    walk_at "rs"
    exact q _ x2
def sp_plain_rounds (K : PySem.W.Frag) : Sp := fun vs H Q _ => ∃ m : Nat, vs = [.int m] ∧ 1 ≤ m ∧ m ≤ 6 ∧ ∀ r H' xs, Ex H H' → H' r = some (.tup xs) → RsAt H' xs ((List.range m).map fun b => (b, 2 ^ b)) → Q (.ref r) H'
set_option maxHeartbeats 4000000 in
theorem ok_plain_rounds (T : Txt K mg) : FnOk P w K mg base CX0 4 T.f_plain_rounds T.d_plain_rounds P_plain_rounds (sp_plain_rounds K) := by
  have G_check_number := ok_check_number (P := P) (w := w) (base := base) T
  refine T.F_plain_rounds.ok sc_plain_rounds (fun vs H Q E h => ?_) (fun cdv A outer s H vs Q E hr h => ?_)
  · obtain ⟨m, rfl, _⟩ := h; rfl
  · obtain ⟨m, rfl, h1, h2, q⟩ := h
    refine ⟨_, (pss_cons (ps_expr (pe_call G_check_number (hr.mono (by decide)) (by rfl) T.m_check_number T.F_check_number.kp T.b_check_number .nil pass0 (pa_cons (pv 0) (pa_cons pe_int (pa_cons (pe_glob (by rfl) T.c_MAX_AMOUNT T.r_MAX_AMOUNT) pa_nil)))))
      (pss_one (ps_ret (pe_callTy call_tuple_of (by rfl) T.n_tuple (by decide +kernel) (pa_cons (pe_lc (own := [("bit", 1)]) (g := gName 1) (tt := tYes) (by rfl) sc_plain_rounds.nd (pi_range1 (by rfl) T.n_range (pa_cons (pv 0) pa_nil)) (blkOk_by (own := [("bit", 1)]) (N := N_plain_rounds) (sc := defScope s_plain_rounds) (by decide +kernel)) (fun _ _ _ _ _ => (pg_name (i := 1) sc_plain_rounds.nd rfl (by first | exact Or.inl rfl | exact Or.inr rfl))) (fun _ _ _ _ _ => pts_nil) (fun _ _ _ _ _ => (pe_tup (pa_cons (pv 1) (pa_cons (pe_op op_shl pe_int (pv 1)) pa_nil))))) pa_nil))))), ?_⟩
    walk_at "rs"
    refine ⟨_, _, _, rfl, .int, btw_ok (by omega) (by omega) (by omega) (by omega), by omega, by omega, fun D hD => ?_⟩
    refine lc_rel (n := m) walk_range (fun H v b => pairR H v (b, 2 ^ b)) (fun _ _ _ _ e ⟨q, e1, e2⟩ => ⟨q, e1, e _ _ e2⟩) (fun _ _ _ _ _ _ hp ⟨q, e1, e2⟩ => ⟨q, e1, by rw [upd_ne (fun z => by rw [z, hp] at e2; cases e2)]; exact e2⟩) (by omega) hD (fun _ _ => trivial) ?_ ?_
    · rintro k x H' H2' hk e ⟨rfl, rfl⟩ Qe qe
      walk_at "rs"
      refine ⟨⟨by omega, by omega, by decide⟩, by decide, fun u hu => qe _ _ (ex_upd hu) ⟨u, rfl, ?_⟩⟩
      rw [upd_same]
      simp
    intro H' ys e1 l1 p1
    walk_at "rs"
    refine ⟨ys, .inl ⟨.of l1, fun l hl => ?_⟩⟩
    refine q l _ ys (e1.trans (ex_upd hl)) upd_same (RsAt.ex (ex_upd hl) ?_)
    exact Paired.mapR (S := pairR H') (f := fun b => (b, (2 : Int) ^ b)) (fun _ _ r => r) p1
def sp_moved (K : PySem.W.Frag) : Sp := fun vs H Q _ => ∃ (n : Nat) (left : Bool) (w p : Int), vs = [.int n, sdV left, .int w, .int p] ∧ n ≤ 64 ∧ 0 ≤ w ∧ w < 2 ^ 64 ∧ 0 ≤ p ∧ p ≤ 10000 ∧ Q (.int (mv n left w p)) H
set_option maxHeartbeats 4000000 in
theorem ok_moved (T : Txt K mg) : FnOk P w K mg base CX0 1 T.f_moved T.d_moved P_moved (sp_moved K) := by
  refine T.F_moved.ok sc_moved (fun vs H Q E h => ?_) (fun cdv A outer s H vs Q E hr h => ?_)
  · obtain ⟨n, left, w, p, rfl, _⟩ := h; rfl
  · obtain ⟨n, left, w, p, rfl, h1, h2, h3, h4, h5, q⟩ := h
    refine ⟨_, (pss_one (ps_ret (pe_ifExp (pt_cmpR op_eq (pv 1) pe_str (nomark _)) (pe_op op_mod (pe_op op_shl (pv 2) (pv 3)) (pe_op op_shl pe_int (pv 0))) (pe_op op_shr (pv 2) (pv 3))))), ?_⟩
    unfold mv at q
    have hq := pow_pos' n
    cases left with
    | true =>
      simp only [sdV, if_true] at q ⊢
      walk_at "rs"
      exact ⟨⟨h4, by omega, by omega⟩, ⟨by omega, by omega, by decide⟩, by omega, by rw [Int.one_mul]; exact q⟩
    | false =>
      simp only [sdV, Bool.false_eq_true, if_false] at q ⊢
      walk_at "rs"
      exact ⟨h4, q⟩
def sp_moved_in_rounds (K : PySem.W.Frag) : Sp := fun vs H Q _ => ∃ (n : Nat) (left : Bool) (r : Addr) (xs : List V) (rs : List (Nat × Int)) (m : Nat) (w a : Int), vs = [.int n, sdV left, .ref r, .int w, .int a] ∧ n ≤ 64 ∧ 0 ≤ w ∧ w < 2 ^ 64 ∧ H r = some (.tup xs) ∧ RsAt H xs rs ∧ RsIn m rs ∧ rs.length ≤ 24 ∧ ∀ H', Ex H H' → Q (.int (mv n left w (byOf rs a))) H'
set_option maxHeartbeats 4000000 in
theorem ok_moved_in_rounds (T : Txt K mg) : FnOk P w K mg base CX0 2 T.f_moved_in_rounds T.d_moved_in_rounds P_moved_in_rounds (sp_moved_in_rounds K) := by
  have G_moved := ok_moved (P := P) (w := w) (base := base) T
  refine T.F_moved_in_rounds.ok sc_moved_in_rounds (fun vs H Q E h => ?_) (fun cdv A outer s H vs Q E hr h => ?_)
  · obtain ⟨n, left, r, xs, rs, m, w, a, rfl, _⟩ := h; rfl
  · obtain ⟨n, left, r, xs, rs, m, w, a, rfl, h1, h2, h3, hr1, hr2, hr3, h4, q⟩ := h
    refine ⟨_, (pss_cons (ps_set (i := 5) sc_moved_in_rounds.nd rfl (Or.inl rfl) (pe_callB (cr_sum rfl) (by rfl) T.n_sum (by decide +kernel) (pa_cons (pe_lc (own := [("bit", 6), ("by", 7)]) (g := gTup K 2 (gCons (gName 6) (gCons (gName 7) gNil))) (by rfl) sc_moved_in_rounds.nd (pi_tup (pv 2)) (blkOk_by (own := [("bit", 6), ("by", 7)]) (N := N_moved_in_rounds) (sc := defScope s_moved_in_rounds) (by decide +kernel)) (fun _ _ _ _ _ => (pg_tup (n := 2) rfl (pgs_cons (pg_name (i := 6) sc_moved_in_rounds.nd rfl (by first | exact Or.inl rfl | exact Or.inr rfl)) (pgs_cons (pg_name (i := 7) sc_moved_in_rounds.nd rfl (by first | exact Or.inl rfl | exact Or.inr rfl)) pgs_nil)))) (fun _ _ _ _ _ => pts_one (pt_cmpR op_eq (pe_op op_and1 (pe_op op_shr (pv 4) (pv 6)) pe_int) pe_int (nomark _))) (fun _ _ _ _ _ => (pv 7))) pa_nil)))
      (pss_one (ps_ret (pe_call G_moved (hr.mono (by decide)) (by rfl) T.m_moved T.F_moved.kp T.b_moved .nil pass0 (pa_cons (pv 0) (pa_cons (pv 1) (pa_cons (pv 3) (pa_cons (pv 5) pa_nil)))))))), ?_⟩
    walk_at "rs"
    refine ⟨⟨_, .of hr1⟩, fun D hD => ?_⟩
    have hlen : xs.length = rs.length := Paired.len' hr2
    refine lc_go (walk_tup (xs := xs)) (fun i => decide (a / 2 ^ (rs.getD i (0, 0)).1 % 2 = 1)) (fun i => .int (rs.getD i (0, 0)).2) (by omega) hD (fun H' e => .of (e _ _ hr1)) ?_ ?_
    · rintro k x H' H2' hk e ⟨rfl, hx⟩ Qe Qn qe qn
      obtain ⟨⟨b, y⟩, hp, u, rfl, hu⟩ := Paired.at' hr2 hx
      have hg : rs.getD k (0, 0) = (b, y) := getD_of hp
      obtain ⟨hb, _, _⟩ := hr3 _ (List.mem_of_getElem? hp)
      have u2 := e _ _ hu
      walk_at "rs"
      refine ⟨_, .of u2, rfl, ?_⟩
      walk_at "rs"
      refine ⟨by omega, ?_⟩
      have qe' : ∀ H5, Ex H2' H5 → a / 2 ^ b % 2 = 1 → Qe (.int y) H5 := fun H5 e5 hc => by
        have := qe H5 e5 (by simp only [hg]; simpa using hc)
        simpa only [hg] using this
      have qn' : ∀ H5, Ex H2' H5 → ¬ a / 2 ^ b % 2 = 1 → Qn H5 := fun H5 e5 hc => qn H5 e5 (by simp only [hg]; simpa using hc)
      by_cases hc : a / 2 ^ b % 2 = 1
      · rw [if_pos hc]; exact qe' H2' (Ex.refl _) hc
      · rw [if_neg hc]; exact qn' H2' (Ex.refl _) hc
    intro H2 x2 l2
    rw [hlen, kept_list rs (0, 0) (fun p => decide (a / 2 ^ p.1 % 2 = 1)) (fun p => .int p.2)] at l2
    walk_at "rs"
    refine ⟨D, (rs.filter fun p => decide (a / 2 ^ p.1 % 2 = 1)).map (·.2), rfl, .of (by rw [l2, List.map_map]; rfl), ?_⟩
    have hb := byOf_nn hr3 a
    walk_at "rs"
    exact ⟨n, left, w, _, rfl, h1, h2, h3, hb.1, Int.le_trans hb.2 (by omega), q _ x2⟩
def sp_moved_by (K : PySem.W.Frag) : Sp := fun vs H Q _ => ∃ (n : Nat) (left : Bool) (m : Nat) (r : Addr) (xs : List V) (rs : List (Nat × Int)) (w a : Int), vs = [.int n, sdV left, .int m, .ref r, .int w, .int a] ∧ 1 ≤ n ∧ n ≤ 32 ∧ 1 ≤ m ∧ m ≤ 6 ∧ H r = some (.tup xs) ∧ RsAt H xs rs ∧ RsIn m rs ∧ rs.length ≤ 24 ∧ 0 ≤ w ∧ w < 2 ^ n ∧ 0 ≤ a ∧ a < 2 ^ m ∧ ∀ H', Ex H H' → Q (.int (mv n left w (byOf rs a))) H'
set_option maxHeartbeats 4000000 in
theorem ok_moved_by (T : Txt K mg) : FnOk P w K mg base CX0 6 T.f_moved_by T.d_moved_by P_moved_by (sp_moved_by K) := by
  have G_check_rounds := ok_check_rounds (P := P) (w := w) (base := base) T
  have G_check_word := ok_check_word (P := P) (w := w) (base := base) T
  have G_moved_in_rounds := ok_moved_in_rounds (P := P) (w := w) (base := base) T
  refine T.F_moved_by.ok sc_moved_by (fun vs H Q E h => ?_) (fun cdv A outer s H vs Q E hr h => ?_)
  · obtain ⟨n, left, m, r, xs, rs, w, a, rfl, _⟩ := h; rfl
  · obtain ⟨n, left, m, r, xs, rs, w, a, rfl, h1, h2, h3, h4, hr1, hr2, hr3, h5, h6, h7, h8, h9, q⟩ := h
    refine ⟨_, (pss_cons (ps_expr (pe_call G_check_rounds (hr.mono (by decide)) (by rfl) T.m_check_rounds T.F_check_rounds.kp T.b_check_rounds .nil pass0 (pa_cons (pv 0) (pa_cons (pv 1) (pa_cons (pv 2) (pa_cons (pv 3) pa_nil))))))
      (pss_cons (ps_expr (pe_call G_check_word (hr.mono (by decide)) (by rfl) T.m_check_word T.F_check_word.kp T.b_check_word .nil pass0 (pa_cons (pv 0) (pa_cons (pv 4) pa_nil))))
      (pss_cons (ps_expr (pe_call G_check_word (hr.mono (by decide)) (by rfl) T.m_check_word T.F_check_word.kp T.b_check_word .nil pass0 (pa_cons (pv 2) (pa_cons (pv 5) pa_nil))))
      (pss_one (ps_ret (pe_call G_moved_in_rounds (hr.mono (by decide)) (by rfl) T.m_moved_in_rounds T.F_moved_in_rounds.kp T.b_moved_in_rounds .nil pass0 (pa_cons (pv 0) (pa_cons (pv 1) (pa_cons (pv 3) (pa_cons (pv 4) (pa_cons (pv 5) pa_nil))))))))))), ?_⟩
    walk_at "rs"
    refine ⟨n, left, m, r, xs, rs, rfl, h1, h2, h3, h4, hr1, hr2, hr3, h5, fun H1 x1 => ?_⟩
    walk_at "rs"
    refine ⟨n, w, rfl, by omega, h6, h7, ?_⟩
    walk_at "rs"
    refine ⟨m, a, rfl, by omega, h8, h9, ?_⟩
    walk_at "rs"
    have hw := pow64 (show n ≤ 64 by omega)
    exact ⟨n, left, r, xs, rs, m, w, a, rfl, by omega, h6, by omega, x1 _ _ hr1, hr2.ex x1, hr3, h5, fun H2 x2 => q _ (x1.trans x2)⟩
def sp_rounds_paper (K : PySem.W.Frag) : Sp := fun vs H Q _ => ∃ (n : Nat) (left : Bool) (m : Nat) (r : Addr) (xs : List V) (rs : List (Nat × Int)), vs = [.int n, sdV left, .int m, .ref r] ∧ 1 ≤ n ∧ n ≤ 32 ∧ 1 ≤ m ∧ m ≤ 6 ∧ H r = some (.tup xs) ∧ RsAt H xs rs ∧ RsIn m rs ∧ rs.length ≤ 24 ∧
  ∀ H' v o, Ex H H' → Told n left m rs H' v o → Q v H'
set_option maxHeartbeats 4000000 in
theorem ok_rounds_paper (T : Txt K mg) : FnOk P w K mg base CX0 6 T.f_rounds_paper T.d_rounds_paper P_rounds_paper (sp_rounds_paper K) := by
  have G_check_rounds := ok_check_rounds (P := P) (w := w) (base := base) T
  refine T.F_rounds_paper.ok sc_rounds_paper (fun vs H Q E h => ?_) (fun cdv A outer s H vs Q E hr h => ?_)
  · obtain ⟨n, left, m, r, xs, rs, rfl, _⟩ := h; rfl
  · obtain ⟨n, left, m, r, xs, rs, rfl, h1, h2, h3, h4, hr1, hr2, hr3, h5, q⟩ := h
    refine ⟨_, (pss_cons (ps_expr (pe_call G_check_rounds (hr.mono (by decide)) (by rfl) T.m_check_rounds T.F_check_rounds.kp T.b_check_rounds .nil pass0 (pa_cons (pv 0) (pa_cons (pv 1) (pa_cons (pv 2) (pa_cons (pv 3) pa_nil))))))
      (pss_cons (ps_for PassesOwn.never rfl (pi_range1 (by rfl) T.n_range (pa_cons (pv 2) pa_nil)) (pg_name (i := 4) sc_rounds_paper.nd rfl (Or.inr rfl)) (pss_cons (ps_set (i := 5) sc_rounds_paper.nd rfl (Or.inl rfl) (pe_callB (cr_sum rfl) (by rfl) T.n_sum (by decide +kernel) (pa_cons (pe_lc (own := [("at", 6), ("by", 7)]) (g := gTup K 2 (gCons (gName 6) (gCons (gName 7) gNil))) (by rfl) sc_rounds_paper.nd (pi_tup (pv 3)) (blkOk_by (own := [("at", 6), ("by", 7)]) (N := N_rounds_paper) (sc := defScope s_rounds_paper) (by decide +kernel)) (fun _ _ _ _ _ => (pg_tup (n := 2) rfl (pgs_cons (pg_name (i := 6) sc_rounds_paper.nd rfl (by first | exact Or.inl rfl | exact Or.inr rfl)) (pgs_cons (pg_name (i := 7) sc_rounds_paper.nd rfl (by first | exact Or.inl rfl | exact Or.inr rfl)) pgs_nil)))) (fun _ _ _ _ _ => pts_one (pt_cmpR op_eq (pv 6) (pv 4) (nomark _))) (fun _ _ _ _ _ => (pv 7))) pa_nil)))
      (pss_one (ps_if (PW.pt (pw_and (pt_cmpR op_ne (pv 5) (pe_op op_shl pe_int (pv 4)) (nomark _)) (pw_and1 (pt_cmpR op_lt (pe_callB (call_min2 rfl) (by rfl) T.n_min (by decide +kernel) (pa_cons (pv 5) (pa_cons (pe_op op_shl pe_int (pv 4)) pa_nil))) (pv 0) (nomark _))))) (pss_cons (ps_set (i := 8) sc_rounds_paper.nd rfl (Or.inl rfl) (pe_ifExp (pt_cmpR op_eq (pv 1) pe_str (nomark _)) pe_int (pe_op op_shl pe_int (pe_op op_sub (pv 0) pe_int))))
      (pss_one (ps_ret (pe_tup (pa_cons (pv 8) (pa_cons (pe_op op_shl pe_int (pv 4)) pa_nil)))))) pss_nil))))
      (pss_one (ps_ret pe_non)))), ?_⟩
    walk_at "rs"
    refine ⟨n, left, m, r, xs, rs, rfl, h1, h2, h3, h4, hr1, hr2, hr3, h5, fun H1 x1 => ?_⟩
    walk_at "rs"
    refine ⟨by omega, by omega, ?_⟩
    have hlen : xs.length = rs.length := Paired.len' hr2
    have good : ∀ b : Nat, mn n (byOf rs (2 ^ b)) = mn n (2 ^ b) ↔ ¬ (byAt rs b ≠ 2 ^ b ∧ (if 2 ^ b < byAt rs b then 2 ^ b else byAt rs b) < (n : Int)) := fun b => by
      rw [mn_iff, byOf_pow]
      split <;> omega
    refine lpR m (fun i σ H' => Ex H H' ∧ (∀ b, b < i → mn n (byOf rs (2 ^ b)) = mn n (2 ^ b)) ∧ ∃ t4 t5 t6 t7 t8, σ = [some (.int n), some (sdV left), some (.int m), some (.ref r), t4, t5, t6, t7, t8]) ⟨x1, fun b hb => absurd hb (Nat.not_lt_zero _), _, _, _, _, _, rfl⟩ ?_ ?_
    · rintro i σ H2 hi ⟨x2, hg, t4, t5, t6, t7, t8, rfl⟩
      walk_at "rs"
      refine ⟨⟨_, .of (x2 _ _ hr1)⟩, fun D hD => ?_⟩
      refine lc_go (walk_tup (xs := xs)) (fun k => decide (((rs.getD k (0, 0)).1 : Int) = i)) (fun k => .int (rs.getD k (0, 0)).2) (by omega) hD (fun H' e => .of (e _ _ (x2 _ _ hr1))) ?_ ?_
      · rintro k x H' H2' hk e ⟨rfl, hx⟩ Qe Qn qe qn
        obtain ⟨⟨b, y⟩, hp, u, rfl, hu⟩ := Paired.at' hr2 hx
        have hgd : rs.getD k (0, 0) = (b, y) := getD_of hp
        have u2 := e _ _ (x2 _ _ hu)
        walk_at "rs"
        refine ⟨_, .of u2, rfl, ?_⟩
        walk_at "rs"
        have qe' : ∀ H5, Ex H2' H5 → (b : Int) = i → Qe (.int y) H5 := fun H5 e5 hc => by
          have := qe H5 e5 (by simp only [hgd]; simpa using hc)
          simpa only [hgd] using this
        have qn' : ∀ H5, Ex H2' H5 → ¬ (b : Int) = i → Qn H5 := fun H5 e5 hc => qn H5 e5 (by simp only [hgd]; simpa using hc)
        by_cases hc : (b : Int) = i
        · rw [if_pos hc]; exact qe' H2' (Ex.refl _) hc
        · rw [if_neg hc]; exact qn' H2' (Ex.refl _) hc
      intro H3 x3 l3
      rw [hlen, kept_list rs (0, 0) (fun p => decide ((p.1 : Int) = i)) (fun p => .int p.2)] at l3
      walk_at "rs"
      refine ⟨D, (rs.filter fun p => decide ((p.1 : Int) = i)).map (·.2), rfl, .of (by rw [l3, List.map_map]; rfl), ?_⟩
      walk_at "rs"
      have eb : ((rs.filter fun p => decide ((p.1 : Int) = i)).map (·.2)).sum = byAt rs i := rfl
      have hpow : CPow 1 i := ⟨by omega, by omega, by decide⟩
      rw [eb, Int.one_mul]
      have xx := x2.trans x3
      refine ⟨hpow, ?_⟩
      have hgi := good i
      by_cases hc1 : byAt rs i = 2 ^ i
      · rw [if_pos hc1]
        refine ⟨xx, fun b hb => ?_⟩
        by_cases hbi : b = i
        · subst hbi; exact hgi.mpr (fun h => h.1 hc1)
        · exact hg b (by omega)
      · rw [if_neg hc1]
        refine ⟨hpow, ?_⟩
        by_cases hc2 : (if 2 ^ i < byAt rs i then 2 ^ i else byAt rs i) < (n : Int)
        · rw [if_pos hc2]
          have hbad : ¬ mn n (byOf rs (2 ^ i)) = mn n (2 ^ i) := fun h => hgi.mp h ⟨hc1, hc2⟩
          have hfar : ∀ t, H3 t = none → Q (.ref t) (upd H3 t (.tup [.int (farW n left), .int (2 ^ i)])) := fun t ht => q _ _ (some [.int (farW n left), .int (2 ^ i)]) (xx.trans (ex_upd ht)) ⟨⟨t, rfl, upd_same, fun x hx => .inl (by
            simp only [List.mem_cons, List.mem_nil_iff, or_false] at hx
            rcases hx with rfl | rfl <;> exact ⟨_, rfl⟩)⟩, ⟨(fun h => nomatch h), fun h => absurd (h i hi) hbad⟩, .inr ⟨i, hi, hbad, rfl⟩, (fun _ h => nomatch h)⟩
          walk_at "rs"
          unfold farW at hfar
          rw [Int.one_mul] 
          cases left with
          | true =>
            simp only [sdV, if_true] at hfar ⊢
            exact ⟨rfl, hpow, by decide, hfar⟩
          | false =>
            simp only [sdV, Bool.false_eq_true, if_false] at hfar ⊢
            walk_at "rs"
            refine ⟨⟨by omega, by omega, by decide⟩, hpow, by decide, fun p hp => ?_⟩
            have := hfar p hp
            rwa [Int.one_mul, show ((n : Int) - 1).toNat = n - 1 by omega]
        · rw [if_neg hc2]
          refine ⟨xx, fun b hb => ?_⟩
          by_cases hbi : b = i
          · subst hbi; exact hgi.mpr (fun h => hc2 h.2)
          · exact hg b (by omega)
    · rintro σ H2 ⟨x2, hg, t4, t5, t6, t7, t8, rfl⟩
      walk_at "rs"
      exact q _ _ none x2 ⟨.inl rfl, ⟨fun _ => hg, fun _ => rfl⟩, .inl rfl, fun h => absurd rfl h⟩
def sp_is_rounds_paper (K : PySem.W.Frag) : Sp := fun vs H Q _ => ∃ (n : Nat) (left : Bool) (m : Nat) (r : Addr) (xs : List V) (rs : List (Nat × Int)) (v : V) (o : Option (List V)), vs = [.int n, sdV left, .int m, .ref r, v] ∧ 1 ≤ n ∧ n ≤ 32 ∧ 1 ≤ m ∧ m ≤ 6 ∧ H r = some (.tup xs) ∧ RsAt H xs rs ∧ RsIn m rs ∧ rs.length ≤ 24 ∧ DescAt H v o ∧
  (∀ ys, o = some ys → ∀ i : Int, V.int i ∈ ys → -(10 ^ 60) < i ∧ i < 10 ^ 60) ∧ ∀ H', Ex H H' → Q (.bl (papB n left m rs o)) H'
set_option maxHeartbeats 4000000 in
theorem ok_is_rounds_paper (T : Txt K mg) : FnOk P w K mg base CX0 6 T.f_is_rounds_paper T.d_is_rounds_paper P_is_rounds_paper (sp_is_rounds_paper K) := by
  have G_check_rounds := ok_check_rounds (P := P) (w := w) (base := base) T
  have G_moved_in_rounds := ok_moved_in_rounds (P := P) (w := w) (base := base) T
  have G_moved := ok_moved (P := P) (w := w) (base := base) T
  have G_is_pair := ok_is_pair (P := P) (w := w) (base := base) T
  have G_is_word_of := ok_is_word_of (P := P) (w := w) (base := base) T
  refine T.F_is_rounds_paper.ok sc_is_rounds_paper (fun vs H Q E h => ?_) (fun cdv A outer s H vs Q E hr h => ?_)
  · obtain ⟨n, left, m, r, xs, rs, v, o, rfl, _⟩ := h; rfl
  · obtain ⟨n, left, m, r, xs, rs, v, o, rfl, h1, h2, h3, h4, hr1, hr2, hr3, h5, hv, hi, q⟩ := h
    refine ⟨_, (pss_cons (ps_expr (pe_call G_check_rounds (hr.mono (by decide)) (by rfl) T.m_check_rounds T.F_check_rounds.kp T.b_check_rounds .nil pass0 (pa_cons (pv 0) (pa_cons (pv 1) (pa_cons (pv 2) (pa_cons (pv 3) pa_nil))))))
      (pss_cons (ps_if (PW.pt (pw_or (pt_not (pt_val (pe_call G_is_pair (hr.mono (by decide)) (by rfl) T.m_is_pair T.F_is_pair.kp T.b_is_pair .nil pass0 (pa_cons (pv 4) pa_nil)))) (pw_or (pt_not (pt_val (pe_call G_is_word_of (hr.mono (by decide)) (by rfl) T.m_is_word_of T.F_is_word_of.kp T.b_is_word_of .nil pass0 (pa_cons (pv 0) (pa_cons (pe_ix ix_tup (pv 4) pe_int (fun _ _ => rfl)) pa_nil))))) (pw_or1 (pt_not (pt_val (pe_call G_is_word_of (hr.mono (by decide)) (by rfl) T.m_is_word_of T.F_is_word_of.kp T.b_is_word_of .nil pass0 (pa_cons (pv 2) (pa_cons (pe_ix ix_tup (pv 4) pe_int (fun _ _ => rfl)) pa_nil))))))))) (pss_one (ps_ret pe_bl)) pss_nil)
      (pss_cons (ps_asg (pv 4) (pg_tup (n := 2) rfl (pgs_cons (pg_name (i := 5) sc_is_rounds_paper.nd rfl (Or.inl rfl)) (pgs_cons (pg_name (i := 6) sc_is_rounds_paper.nd rfl (Or.inl rfl)) pgs_nil))))
      (pss_one (ps_ret (pe_cmpR op_ne (pe_call G_moved_in_rounds (hr.mono (by decide)) (by rfl) T.m_moved_in_rounds T.F_moved_in_rounds.kp T.b_moved_in_rounds .nil pass0 (pa_cons (pv 0) (pa_cons (pv 1) (pa_cons (pv 3) (pa_cons (pv 5) (pa_cons (pv 6) pa_nil)))))) (pe_call G_moved (hr.mono (by decide)) (by rfl) T.m_moved T.F_moved.kp T.b_moved .nil pass0 (pa_cons (pv 0) (pa_cons (pv 1) (pa_cons (pv 5) (pa_cons (pv 6) pa_nil))))) (nomark _))))))), ?_⟩
    walk_at "rs"
    refine ⟨n, left, m, r, xs, rs, rfl, h1, h2, h3, h4, hr1, hr2, hr3, h5, fun H1 x1 => ?_⟩
    walk_at "rs"
    have hv1 := hv.ex x1
    cases o with
    | none =>
      refine ⟨v, false, rfl, .inr ?_, ?_⟩
      rotate_left
      · walk_at "rs"
        exact q _ x1
      rcases hv1 with rfl | ⟨a, x, y, rfl, ha⟩
      · exact ⟨"NoneType", by decide, by decide, .base .non, rfl⟩
      · exact ⟨"list", by decide, by decide, .base (.lst ha), rfl⟩
    | some ys =>
      obtain ⟨u, rfl, hu, hk⟩ := hv1
      refine ⟨_, decide ((ys.length : Int) = 2), rfl, .inl ⟨u, ys, rfl, hu, rfl⟩, ?_⟩
      by_cases hl : ys.length = 2
      · rw [decide_eq_true (show (ys.length : Int) = 2 by omega)]
        obtain ⟨y1, y2, rfl⟩ : ∃ y1 y2, ys = [y1, y2] := by
          match ys, hl with
          | [y1, y2], _ => exact ⟨_, _, rfl⟩
        walk_at "rs"
        refine ixT (.of hu) (v := y1) rfl ?_
        have ty : ∀ y, y ∈ [y1, y2] → Typd K H1 y := fun y hy => by
          rcases hk y hy with ⟨i, rfl⟩ | ⟨b, rfl⟩
          · exact .int
          · exact ⟨"bool", by decide, .base (.bl b)⟩
        have bw : ∀ y (k : Nat), y ∈ [y1, y2] → k ≤ 64 → btw y 0 (2 ^ k - 1) = true → ∃ i : Int, y = .int i ∧ 0 ≤ i ∧ i < 2 ^ k := fun y k hy hk2 hb => by
          rcases hk y hy with ⟨i, rfl⟩ | ⟨b, rfl⟩
          · have := hi _ rfl i hy
            rw [btw_if (decide_eq_true this)] at hb
            by_cases h0 : 0 ≤ i
            · rw [if_pos h0] at hb
              have := of_decide_eq_true hb
              exact ⟨i, rfl, h0, by omega⟩
            · rw [if_neg h0] at hb; cases hb
          · cases hb
        have nb : ∀ y (k : Nat), y ∈ [y1, y2] → k ≤ 64 → btw y 0 (2 ^ k - 1) = false → ∀ i : Int, y = .int i → ¬ (0 ≤ i ∧ i < 2 ^ k) := fun y k hy hk2 hb i e hc => by
          subst e
          have := hi _ rfl i hy
          rw [btw_if (decide_eq_true this), if_pos hc.1] at hb
          have := of_decide_eq_false hb
          omega
        refine ⟨n, y1, rfl, by omega, ty y1 (by simp), ?_⟩
        walk_at "rs"
        cases hb1 : btw y1 0 (2 ^ n - 1) with
        | false =>
          have e : papB n left m rs (some [y1, y2]) = false := by
            rcases hk y1 (by simp) with ⟨i, rfl⟩ | ⟨b, rfl⟩
            · rcases hk y2 (by simp) with ⟨j, rfl⟩ | ⟨b, rfl⟩
              · have := nb _ n (by simp) (by omega) hb1 i rfl
                show (decide _ && _) = false
                rw [decide_eq_false (fun h => this ⟨h.1, h.2.1⟩)]; rfl
              · rfl
            · rfl
          walk_at "rs"
          rw [← e]; exact q _ x1
        | true =>
          obtain ⟨w, rfl, w0, w1⟩ := bw _ n (by simp) (by omega) hb1
          walk_at "rs"
          refine ixT (.of hu) (v := y2) rfl ?_
          refine ⟨m, y2, rfl, by omega, ty y2 (by simp), ?_⟩
          walk_at "rs"
          cases hb2 : btw y2 0 (2 ^ m - 1) with
          | false =>
            have e : papB n left m rs (some [.int w, y2]) = false := by
              rcases hk y2 (by simp) with ⟨j, rfl⟩ | ⟨b, rfl⟩
              · have := nb _ m (by simp) (by omega) hb2 j rfl
                show (decide _ && _) = false
                rw [decide_eq_false (fun h => this ⟨h.2.2.1, h.2.2.2⟩)]; rfl
              · rfl
            walk_at "rs"
            rw [← e]; exact q _ x1
          | true =>
            obtain ⟨a, rfl, a0, a1⟩ := bw _ m (by simp) (by omega) hb2
            walk_at "rs"
            refine ⟨_, .of hu, rfl, ?_⟩
            walk_at "rs"
            have hw := pow64 (show n ≤ 64 by omega)
            have hm : (2 : Int) ^ m ≤ 2 ^ 6 := pow_le h4
            refine ⟨n, left, r, xs, rs, m, w, a, rfl, by omega, w0, by omega, x1 _ _ hr1, hr2.ex x1, hr3, h5, fun H2 x2 => ?_⟩
            refine ⟨n, left, w, a, rfl, by omega, w0, by omega, a0, by omega, ?_⟩
            have e : papB n left m rs (some [.int w, .int a]) = !decide (V.int (mv n left w (byOf rs a)) = V.int (mv n left w a)) := by
              show (decide _ && decide _) = _
              rw [decide_eq_true ⟨w0, w1, a0, a1⟩, Bool.true_and]
              by_cases hc : mv n left w (byOf rs a) = mv n left w a
              · rw [decide_eq_false (by simpa using hc), decide_eq_true (by rw [hc])]; rfl
              · rw [decide_eq_true hc, decide_eq_false (by simpa using hc)]; rfl
            have q2 := q _ (x1.trans x2)
            rw [e] at q2
            exact ⟨rfl, q2⟩
      · rw [decide_eq_false (show ¬ (ys.length : Int) = 2 by omega)]
        walk_at "rs"
        have e : papB n left m rs (some ys) = false := by
          unfold papB
          split
          · rename_i h; cases h; exact absurd rfl hl
          · rfl
        rw [← e]; exact q _ x1
def sp_law_dice (K : PySem.W.Frag) : Sp := fun vs H Q _ => ∃ (a : Addr) (ns : List Int) (k : Nat), vs = [.ref a, .int k] ∧ SqL K H a (ns.map V.int) ∧ k ≤ 1000 ∧ ∀ l m p, 0 ≤ l → 0 ≤ m → H p = none → Q (.ref p) (upd H p (dice3 l m 0))
set_option maxHeartbeats 4000000 in
theorem ok_law_dice (T : Txt K mg) : FnOk P w K mg base CX0 1 T.f_law_dice T.d_law_dice P_law_dice (sp_law_dice K) := by
  refine T.F_law_dice.ok sc_law_dice (fun vs H Q E h => ?_) (fun cdv A outer s H vs Q E hr h => ?_)
  · obtain ⟨a, ns, k, rfl, _⟩ := h; rfl
  · obtain ⟨a, ns, k, rfl, hS, hk, q⟩ := h
    refine ⟨_, (pss_cons (ps_set (i := 2) sc_law_dice.nd rfl (Or.inl rfl) (pe_op op_add (pe_op op_mulA pe_int (pv 1)) pe_int))
      (pss_cons (ps_if (pt_cmpR op_lt (pv 1) (pe_callB call_len_seq (by rfl) T.n_len (by decide +kernel) (pa_cons (pv 0) pa_nil)) (nomark _)) (pss_one (ps_set (i := 2) sc_law_dice.nd rfl (Or.inl rfl) (pe_ix ix_list (pv 0) (pv 1) (fun _ _ => rfl)))) pss_nil)
      (pss_cons (ps_set (i := 3) sc_law_dice.nd rfl (Or.inl rfl) (pe_op op_mod (pe_callTy call_int1 (by rfl) T.n_int (by decide +kernel) (pa_cons (pe_callB call_abs (by rfl) T.n_abs (by decide +kernel) (pa_cons (pv 2) pa_nil)) pa_nil)) (pe_op op_powW (pe_op op_powW pe_int pe_int) pe_int)))
      (pss_cons (ps_set (i := 4) sc_law_dice.nd rfl (Or.inl rfl) (pe_op op_fdivW (pv 3) (pe_op op_powW pe_int pe_int)))
      (pss_cons (ps_set (i := 5) sc_law_dice.nd rfl (Or.inl rfl) (pe_op op_add (pe_op op_add (pe_op op_add (pe_op op_mulA (pe_op op_mod (pv 3) pe_int) pe_int) (pe_op op_mulA pe_int (pv 1))) (pe_op op_mulA pe_int (pe_callTy call_int1 (by rfl) T.n_int (by decide +kernel) (pa_cons (pe_cmpR op_lt (pv 2) pe_int (nomark _)) pa_nil)))) pe_int))
      (pss_one (ps_ret (pe_lst (pa_cons (pv 4) (pa_cons (pe_op op_mod (pv 5) pe_int) (pa_cons pe_int pa_nil))))))))))), ?_⟩
    walk_at "rd"
    have hM : (0 : Int) < (10 ^ Int.toNat 62) ^ Int.toNat 10 := by decide +kernel
    have hD : (0 : Int) < 10 ^ Int.toNat 18 := by decide +kernel
    have p1 : CPowW 10 62 := ⟨by decide, by decide +kernel⟩
    have p2 : CPowW (10 ^ Int.toNat 62) 10 := ⟨by decide, by decide +kernel⟩
    have p3 : CPowW 10 18 := ⟨by decide, by decide +kernel⟩
    have d1 : ∀ x : Int, CDivW x (10 ^ Int.toNat 18) := fun x => divw 100 hD (by decide +kernel)
    refine ⟨mulL (by decide), ns.map V.int, .inl hS, ?_⟩
    refine ite2 (fun hlt => ?_) (fun hlt => ?_)
    · have hlt' : k < ns.length := by simpa using hlt
      refine ixL (v := .int ns[k]) hS (atI_nat (by simp [hlt'])) ⟨ns[k], rfl, p1, p2, hM, p3, d1 _, by decide, mulR (by decide), mulL (by decide), ns[k], rfl, mulL (by decide), by decide, by decide, fun p hp => q _ _ p ?_ ?_ hp⟩
      · exact Int.ediv_nonneg (mod_bd hM).1 (by omega)
      · exact (mod_bd (by decide)).1
    · refine ⟨p1, p2, hM, p3, d1 _, by decide, mulR (by decide), mulL (by decide), mulL (by decide), by decide, by decide, fun p hp => q _ _ p ?_ ?_ hp⟩
      · exact Int.ediv_nonneg (mod_bd hM).1 (by omega)
      · exact (mod_bd (by decide)).1
def sp_law_roll (K : PySem.W.Frag) : Sp := fun vs H Q _ => ∃ (d : Addr) (t : Int), vs = [.ref d, .int t] ∧ DiceAt H d ∧ 0 < t ∧ t < 2 ^ 4000 ∧ ∀ i l m n, 0 ≤ i → i < t → 0 ≤ l → 0 ≤ m → 0 ≤ n → Q (.int i) (upd H d (dice3 l m n))
set_option maxHeartbeats 4000000 in
theorem ok_law_roll (T : Txt K mg) : FnOk P w K mg base CX0 1 T.f_law_roll T.d_law_roll P_law_roll (sp_law_roll K) := by
  refine T.F_law_roll.ok sc_law_roll (fun vs H Q E h => ?_) (fun cdv A outer s H vs Q E hr h => ?_)
  · obtain ⟨d, t, rfl, _⟩ := h; rfl
  · obtain ⟨d, t, rfl, ⟨l, m, n, hl, hm, hn, hd⟩, h0, h1, q⟩ := h
    refine ⟨_, (pss_cons (ps_set (i := 2) sc_law_roll.nd rfl (Or.inl rfl) (pe_callTy call_int1 (by rfl) T.n_int (by decide +kernel) (pa_cons (pv 1) pa_nil)))
      (pss_cons (ps_if (pt_cmpR op_gt (pe_ix ix_list (pv 0) pe_int (fun _ _ => rfl)) pe_int (nomark _)) (pss_cons (ps_set (i := 3) sc_law_roll.nd rfl (Or.inl rfl) (pe_op op_mod (pe_ix ix_list (pv 0) pe_int (fun _ _ => rfl)) (pv 2)))
      (pss_cons (ps_asg (pe_op op_fdivW (pe_ix ix_list (pv 0) pe_int (fun _ _ => rfl)) (pv 2)) (pg_sub (pv 0) pe_int set_list))
      (pss_one (ps_ret (pe_callTy call_int1 (by rfl) T.n_int (by decide +kernel) (pa_cons (pv 3) pa_nil)))))) pss_nil)
      (pss_cons (ps_asg (pe_op op_add (pe_ix ix_list (pv 0) pe_int (fun _ _ => rfl)) pe_int) (pg_sub (pv 0) pe_int set_list))
      (pss_cons (ps_set (i := 4) sc_law_roll.nd rfl (Or.inl rfl) (pe_op op_mod (pe_op op_add (pe_ix ix_list (pv 0) pe_int (fun _ _ => rfl)) (pe_op op_mulA pe_int (pe_ix ix_list (pv 0) pe_int (fun _ _ => rfl)))) pe_int))
      (pss_cons (ps_set (i := 5) sc_law_roll.nd rfl (Or.inl rfl) (pe_op op_add (pe_op op_mulA (pe_op op_mod (pe_op op_mulA (pv 4) (pv 4)) pe_int) (pv 4)) (pe_op op_mulA pe_int (pe_ix ix_list (pv 0) pe_int (fun _ _ => rfl)))))
      (pss_cons (ps_set (i := 5) sc_law_roll.nd rfl (Or.inl rfl) (pe_op op_mod (pv 5) pe_int))
      (pss_one (ps_ret (pe_callTy call_int1 (by rfl) T.n_int (by decide +kernel) (pa_cons (pe_op op_mod (pe_op op_fdivW (pv 5) pe_int) (pv 2)) pa_nil)))))))))), ?_⟩
    walk_at "rd"
    refine ixM hd (v := .int l) rfl ⟨l, rfl, ite2 (fun hl0 => ?_) (fun hl0 => ?_)⟩
    · refine ixM hd (v := .int l) rfl ⟨l, rfl, h0, ixM hd (v := .int l) rfl ⟨l, rfl, divw 4000 h0 (by omega), setL hd (j := 0) rfl ?_⟩⟩
      exact q _ _ m n (mod_bd h0).1 (mod_bd h0).2 (Int.ediv_nonneg hl (by omega)) hm hn
    · refine ixM hd (v := .int n) rfl ⟨n, rfl, setL hd (j := 2) rfl (ixM upd_same (v := .int m) rfl (ixM upd_same (v := .int (n + 1)) rfl ⟨_, rfl, mulL (by decide), _, rfl, by decide, ?_⟩))⟩
      have b1 := mod_bd (a := m + 1000427 * (n + 1)) (b := 2305843009213693951) (by decide)
      generalize (m + 1000427 * (n + 1)) % 2305843009213693951 = one at b1 ⊢
      refine ⟨mulL (by omega), by decide, mulR (by omega), ixM upd_same (v := .int (n + 1)) rfl ⟨_, rfl, mulL (by decide), by decide, divw 20 (by decide) (by decide), h0, ?_⟩⟩
      exact q _ l m (n + 1) (mod_bd h0).1 (mod_bd h0).2 hl hm (by omega)
def sp_law_one_of (K : PySem.W.Frag) : Sp := fun vs H Q _ => ∃ (d a : Addr) (xs : List V), vs = [.ref d, .ref a] ∧ DiceAt H d ∧ d ≠ a ∧ SqL K H a xs ∧ 0 < xs.length ∧ xs.length ≤ 100000 ∧
  ∀ x l m n, x ∈ xs → 0 ≤ l → 0 ≤ m → 0 ≤ n → Q x (upd H d (dice3 l m n))
set_option maxHeartbeats 4000000 in
theorem ok_law_one_of (T : Txt K mg) : FnOk P w K mg base CX0 2 T.f_law_one_of T.d_law_one_of P_law_one_of (sp_law_one_of K) := by
  have G_law_roll := ok_law_roll (P := P) (w := w) (base := base) T
  refine T.F_law_one_of.ok sc_law_one_of (fun vs H Q E h => ?_) (fun cdv A outer s H vs Q E hr h => ?_)
  · obtain ⟨d, a, xs, rfl, _⟩ := h; rfl
  · obtain ⟨d, a, xs, rfl, hd, hda, hx, h0, h1, q⟩ := h
    refine ⟨_, (pss_one (ps_ret (pe_ix ix_list (pv 1) (pe_call G_law_roll (hr.mono (by decide)) (by rfl) T.m_law_roll T.F_law_roll.kp T.b_law_roll .nil pass0 (pa_cons (pv 0) (pa_cons (pe_callB call_len_seq (by rfl) T.n_len (by decide +kernel) (pa_cons (pv 1) pa_nil)) pa_nil))) (fun _ _ => rfl)))), ?_⟩
    walk_at "rd"
    refine ⟨xs, .inl hx, d, _, rfl, hd, by omega, Int.lt_of_le_of_lt (Int.ofNat_le.mpr h1) (by decide +kernel), fun i l m n hi hi2 hl hm hn => ?_⟩
    obtain ⟨k, rfl⟩ : ∃ k : Nat, i = k := ⟨i.toNat, by omega⟩
    have hk : k < xs.length := by omega
    exact ixL (sq_upd hda.symm hx) (atI_nat' hk) (q _ _ _ _ (List.getElem_mem hk) hl hm hn)
def sp_law_two_to (K : PySem.W.Frag) : Sp := fun vs H Q _ => ∃ n : Nat, vs = [.int n] ∧ n ≤ 100000 ∧ Q (.int (2 ^ n)) H
set_option maxHeartbeats 4000000 in
theorem ok_law_two_to (T : Txt K mg) : FnOk P w K mg base CX0 1 T.f_law_two_to T.d_law_two_to P_law_two_to (sp_law_two_to K) := by
  refine T.F_law_two_to.ok sc_law_two_to (fun vs H Q E h => ?_) (fun cdv A outer s H vs Q E hr h => ?_)
  · obtain ⟨n, rfl, _⟩ := h; rfl
  · obtain ⟨n, rfl, hn, q⟩ := h
    refine ⟨_, (pss_cons (ps_set (i := 1) sc_law_two_to.nd rfl (Or.inl rfl) pe_int)
      (pss_cons (ps_for PassesOwn.never rfl (pi_range1 (by rfl) T.n_range (pa_cons (pv 0) pa_nil)) (pg_name (i := 2) sc_law_two_to.nd rfl (Or.inl rfl)) (pss_one (ps_set (i := 1) sc_law_two_to.nd rfl (Or.inl rfl) (pe_op op_mulA pe_int (pv 1)))))
      (pss_one (ps_ret (pv 1))))), ?_⟩
    walk_at "rd"
    refine ⟨by omega, by omega, lpR n (fun i σ H' => H' = H ∧ ∃ t, σ = [some (.int n), some (.int (2 ^ i)), t]) ⟨rfl, _, rfl⟩ ?_ ?_⟩
    · rintro i σ H' hi ⟨rfl, t, rfl⟩
      walk_at "rd"
      exact ⟨mulL (by decide), by rw [Int.pow_succ, Int.mul_comm]⟩
    · rintro σ H' ⟨rfl, t, rfl⟩
      walk_at "rd"
      exact q
def sp_law_mixed (K : PySem.W.Frag) : Sp := fun vs H Q _ => ∃ (d a : Addr) (xs : List V) (rs : List (Nat × Int)), vs = [.ref d, .ref a] ∧ DiceAt H d ∧ H a = some (.lst xs) ∧ a ≠ d ∧ RsAt H xs rs ∧ rs.length ≤ 1000 ∧ ∀ f H' ys ms, ExD d H H' → DiceAt H' d → H f = none → H' f = some (.lst ys) → RsAt H' ys ms → ms.length = rs.length → (∀ p, p ∈ ms → p ∈ rs) → Q (.ref f) H'
set_option maxHeartbeats 4000000 in
theorem ok_law_mixed (T : Txt K mg) : FnOk P w K mg base CX0 2 T.f_law_mixed T.d_law_mixed P_law_mixed (sp_law_mixed K) := by
  have G_law_roll := ok_law_roll (P := P) (w := w) (base := base) T
  refine T.F_law_mixed.ok sc_law_mixed (fun vs H Q E h => ?_) (fun cdv A outer s H vs Q E hr h => ?_)
  · obtain ⟨d, a, xs, rs, rfl, _⟩ := h; rfl
  · obtain ⟨d, a, xs, rs, rfl, hd, ha, hda, hr1, h1, q⟩ := h
    refine ⟨_, (pss_cons (ps_par (i := 2) (j := 3) (by rfl) sc_law_mixed.nd rfl rfl (by decide) rfl rfl (pa_cons (pe_callTy call_list_of (by rfl) T.n_list (by decide +kernel) (pa_cons (pv 1) pa_nil)) (pa_cons (pe_lst pa_nil) pa_nil)) (by rfl))
      (pss_cons (ps_while PassesOwn.never (pt_cmpR (op_neD hr.units) (pv 2) (pe_lst pa_nil) (nomark _)) (pss_one (ps_expr (pe_bm PySem.F.plainAttrs_list PySem.F.slot_list_append PySem.F.type_list_append mt_append (pv 3) (pa_cons (pe_bm PySem.F.plainAttrs_list PySem.F.slot_list_pop PySem.F.type_list_pop mt_popAt (pv 2) (pa_cons (pe_call G_law_roll (hr.mono (by decide)) (by rfl) T.m_law_roll T.F_law_roll.kp T.b_law_roll .nil pass0 (pa_cons (pv 0) (pa_cons (pe_callB call_len_seq (by rfl) T.n_len (by decide +kernel) (pa_cons (pv 2) pa_nil)) pa_nil))) pa_nil)) pa_nil)))))
      (pss_one (ps_ret (pv 3))))), ?_⟩
    walk_at "rs"
    refine ⟨_, .inl (.of ha), fun l hl => ⟨by decide, fun f hf => ?_⟩⟩
    have nld : d ≠ l := hd.ne hl
    have ha2 : a ≠ l := ne_of_none ha hl
    have hf0 : H f = none := (ex_upd hl).fresh hf
    have nfd : d ≠ f := hd.ne hf0
    have nlf : l ≠ f := ne_of_none (upd_same (H := H) (a := l) (o := .lst xs)) hf
    refine whW (fun mm σ H' => ∃ (zs ys : List V) (ls ms : List (Nat × Int)), σ = [some (.ref d), some (.ref a), some (.ref l), some (.ref f)] ∧ mm = ls.length ∧ DiceAt H' d ∧ H' l = some (.lst zs) ∧ H' f = some (.lst ys) ∧ RsAt H' zs ls ∧ RsAt H' ys ms ∧ ms.length + ls.length = rs.length ∧ (∀ p, p ∈ ls → p ∈ rs) ∧ (∀ p, p ∈ ms → p ∈ rs) ∧ ExD d H H')
      rs.length ⟨xs, [], rs, [], rfl, rfl, (hd.new hl).new hf, ex_upd hf _ _ upd_same, upd_same, (hr1.ex (ex_upd hl)).ex (ex_upd hf), .nil, by simp, fun _ h => h, (fun _ h => absurd h (List.not_mem_nil)), ExD.of ((ex_upd hl).trans (ex_upd hf))⟩ ?_
    rintro mm σ H1 ⟨zs, ys, ls, ms, rfl, rfl, d1, l1, f1, r1, m1, c1, ii1, j1, g1⟩
    walk_at "rs"
    refine ⟨by decide, fun p hp => ?_⟩
    have d2 := d1.new (o := .lst []) hp
    have l2 := ex_upd (o := .lst []) hp _ _ l1
    have f2 := ex_upd (o := .lst []) hp _ _ f1
    have r2 := r1.ex (ex_upd (o := .lst []) hp)
    have m2 := m1.ex (ex_upd (o := .lst []) hp)
    have g2 := g1.trans (ExD.of (ex_upd (o := .lst []) hp))
    have p2 : (upd H1 p (.lst [])) p = some (.lst []) := upd_same
    generalize upd H1 p (.lst []) = H2 at d2 l2 f2 r2 m2 g2 p2 ⊢
    refine neD (d := prsD ls) (e := .list []) (.lst (.of l2) (dpAll_prs r2)) (.lst (.of p2) .nil) (sh_prs ls) rfl (eqv_prs ls) ?_
    have hzl : zs.length = ls.length := Paired.len' r2
    by_cases hls : ls = []
    · subst hls
      refine ⟨false, by simp, iteF (q f _ ys ms g2 d2 hf0 f2 m2 (by simpa using c1) j1)⟩
    · refine ⟨true, by simp [hls], iteT ⟨_, fun s2 H2 h => h, .inl ⟨rfl, _, .of f2⟩, .inl ⟨rfl, _, .of l2⟩, zs, .inl (.of l2), d, _, rfl, d2, ?_, ?_, fun i x y z i0 i1 hx hy hz => ?_⟩⟩
      · have : 0 < ls.length := List.length_pos_iff.mpr hls
        omega
      · exact Int.lt_of_le_of_lt (show (zs.length : Int) ≤ 1000 by omega) (by decide +kernel)
      obtain ⟨k, rfl⟩ : ∃ k : Nat, i = k := ⟨i.toNat, by omega⟩
      have hk : k < zs.length := by omega
      have hk2 : k < ls.length := by omega
      obtain ⟨pr, hpr, hv⟩ := Paired.at' r2 (List.getElem?_eq_getElem hk)
      have d3 : DiceAt (upd H2 d (dice3 x y z)) d := dice_upd hx hy hz
      have l3 : (upd H2 d (dice3 x y z)) l = some (.lst zs) := by rw [upd_ne nld.symm]; exact l2
      have f3 : (upd H2 d (dice3 x y z)) f = some (.lst ys) := by rw [upd_ne nfd.symm]; exact f2
      have r3 : RsAt (upd H2 d (dice3 x y z)) zs ls := r2.exd d2 exd_upd
      have m3 : RsAt (upd H2 d (dice3 x y z)) ys ms := m2.exd d2 exd_upd
      have g3 : ExD d H (upd H2 d (dice3 x y z)) := g2.trans exd_upd
      generalize upd H2 d (dice3 x y z) = H3 at d3 l3 f3 r3 m3 g3 ⊢
      refine ⟨l, zs, k, k, zs[k], rfl, rfl, l3, by omega, by have := rs.length; omega, ?_, List.getElem?_eq_getElem hk, ?_⟩
      · exact seqIx_nat hk
      have l4 : (upd H3 l (.lst (zs.eraseIdx k))) l = some (.lst (zs.eraseIdx k)) := upd_same
      have f4 : (upd H3 l (.lst (zs.eraseIdx k))) f = some (.lst ys) := by rw [upd_ne nlf.symm]; exact f3
      have d4 := d3.mut (o := .lst (zs.eraseIdx k)) nld
      have r4 : RsAt _ (zs.eraseIdx k) (ls.eraseIdx k) := Paired.erase k (r3.mut (o := .lst (zs.eraseIdx k)) l3)
      have m4 := m3.mut (o := .lst (zs.eraseIdx k)) l3
      have g4 := g3.mut (o := .lst (zs.eraseIdx k)) hl
      have v4 : pairR (upd H3 l (.lst (zs.eraseIdx k))) zs[k] pr := by
        obtain ⟨pr', hpr', hv'⟩ := Paired.at' (r3.mut (o := .lst (zs.eraseIdx k)) l3) (List.getElem?_eq_getElem hk)
        rw [hpr] at hpr'; cases hpr'; exact hv'
      generalize upd H3 l (.lst (zs.eraseIdx k)) = H4 at l4 f4 d4 r4 m4 g4 v4 ⊢
      have hyl : ys.length = ms.length := Paired.len' m4
      have hel : (ls.eraseIdx k).length = ls.length - 1 := by rw [List.length_eraseIdx, if_pos hk2]
      refine ⟨f, ys, zs[k], rfl, rfl, f4, by rw [sizeLine_eq]; omega, (ls.eraseIdx k).length, by omega, rfl, zs.eraseIdx k, ys ++ [zs[k]], ls.eraseIdx k, rfl, d4.mut nfd, ?_, upd_same, r4.mut f4, ms ++ [pr], ?_, ?_, fun p hp => ii1 p (List.mem_of_mem_eraseIdx hp), fun p hp => ?_, g4.mut hf0⟩
      · rw [upd_ne nlf]; exact l4
      · exact Paired.app' (m4.mut f4) (by
          obtain ⟨q5, e5, e6⟩ := v4
          exact ⟨q5, e5, by rw [upd_ne (fun z => by rw [z, f4] at e6; cases e6)]; exact e6⟩)
      · rw [List.length_append, hel]; simp; omega
      · rcases List.mem_append.mp hp with h | h
        · exact j1 p h
        · rw [List.mem_singleton.mp h]; exact ii1 _ (List.mem_of_getElem? hpr)
def sp_law_rounds_drawn (K : PySem.W.Frag) : Sp := fun vs H Q _ => ∃ (d : Addr) (n m : Nat), vs = [.ref d, .int n, .int m] ∧ DiceAt H d ∧ 1 ≤ n ∧ n ≤ 32 ∧ 1 ≤ m ∧ m ≤ 6 ∧ ∀ r H' xs rs, ExD d H H' → DiceAt H' d → H' r = some (.tup xs) → RsAt H' xs rs → RsIn m rs → rs.length ≤ 24 → Q (.ref r) H'
set_option maxHeartbeats 4000000 in
theorem ok_law_rounds_drawn (T : Txt K mg) : FnOk P w K mg base CX0 3 T.f_law_rounds_drawn T.d_law_rounds_drawn P_law_rounds_drawn (sp_law_rounds_drawn K) := by
  have G_law_mixed := ok_law_mixed (P := P) (w := w) (base := base) T
  have G_law_roll := ok_law_roll (P := P) (w := w) (base := base) T
  have G_law_two_to := ok_law_two_to (P := P) (w := w) (base := base) T
  have G_law_one_of := ok_law_one_of (P := P) (w := w) (base := base) T
  refine T.F_law_rounds_drawn.ok sc_law_rounds_drawn (fun vs H Q E h => ?_) (fun cdv A outer s H vs Q E hr h => ?_)
  · obtain ⟨d, n, m, rfl, _⟩ := h; rfl
  · obtain ⟨d, n, m, rfl, hd, h1, h2, h3, h4, q⟩ := h
    refine ⟨_, (pss_cons (ps_set (i := 3) sc_law_rounds_drawn.nd rfl (Or.inl rfl) (pe_lst pa_nil))
      (pss_cons (ps_for PassesOwn.never rfl (pi_range1 (by rfl) T.n_range (pa_cons (pv 2) pa_nil)) (pg_name (i := 4) sc_law_rounds_drawn.nd rfl (Or.inl rfl)) (pss_cons (ps_set (i := 5) sc_law_rounds_drawn.nd rfl (Or.inl rfl) (pe_call G_law_two_to (hr.mono (by decide)) (by rfl) T.m_law_two_to T.F_law_two_to.kp T.b_law_two_to .nil pass0 (pa_cons (pv 4) pa_nil)))
      (pss_cons (ps_join (ps_if (PW.pt (pw_and (pt_cmpR op_ge (pv 5) (pv 1) (nomark _)) (pw_and1 (pt_cmpR op_eq (pe_call G_law_roll (hr.mono (by decide)) (by rfl) T.m_law_roll T.F_law_roll.kp T.b_law_roll .nil pass0 (pa_cons (pv 0) (pa_cons pe_int pa_nil))) pe_int (nomark _))))) (pss_one (ps_set (i := 5) sc_law_rounds_drawn.nd rfl (Or.inl rfl) (pe_op op_add (pv 1) (pe_call G_law_roll (hr.mono (by decide)) (by rfl) T.m_law_roll T.F_law_roll.kp T.b_law_roll .nil pass0 (pa_cons (pv 0) (pa_cons pe_int pa_nil)))))) pss_nil))
      (pss_cons (ps_while PassesOwn.never (pt_cmpR op_gt (pv 5) pe_int (nomark _)) (pss_cons (ps_set (i := 6) sc_law_rounds_drawn.nd rfl (Or.inl rfl) (pe_call G_law_one_of (hr.mono (by decide)) (by rfl) T.m_law_one_of T.F_law_one_of.kp T.b_law_one_of .nil pass0 (pa_cons (pv 0) (pa_cons (pe_lst (pa_cons (pv 5) (pa_cons (pv 5) (pa_cons (pe_op op_add pe_int (pe_call G_law_roll (hr.mono (by decide)) (by rfl) T.m_law_roll T.F_law_roll.kp T.b_law_roll .nil pass0 (pa_cons (pv 0) (pa_cons (pv 5) pa_nil)))) pa_nil)))) pa_nil))))
      (pss_cons (ps_expr (pe_bm PySem.F.plainAttrs_list PySem.F.slot_list_append PySem.F.type_list_append mt_append (pv 3) (pa_cons (pe_tup (pa_cons (pv 4) (pa_cons (pv 6) pa_nil))) pa_nil)))
      (pss_one (ps_set (i := 5) sc_law_rounds_drawn.nd rfl (Or.inl rfl) (pe_ifV (pt_cmpR op_lt (pe_callB call_len_seq (by rfl) T.n_len (by decide +kernel) (pa_cons (pv 3) pa_nil)) pe_int (nomark _)) (pe_op op_sub (pv 5) (pv 6)) pe_int))))))
      (pss_one (ps_join (ps_if (pt_cmpR op_eq (pe_call G_law_roll (hr.mono (by decide)) (by rfl) T.m_law_roll T.F_law_roll.kp T.b_law_roll .nil pass0 (pa_cons (pv 0) (pa_cons pe_int pa_nil))) pe_int (nomark _)) (pss_one (ps_expr (pe_bm PySem.F.plainAttrs_list PySem.F.slot_list_append PySem.F.type_list_append mt_append (pv 3) (pa_cons (pe_tup (pa_cons (pv 4) (pa_cons pe_int pa_nil))) pa_nil)))) pss_nil)))))))
      (pss_cons (ps_set (i := 3) sc_law_rounds_drawn.nd rfl (Or.inl rfl) (pe_call G_law_mixed (hr.mono (by decide)) (by rfl) T.m_law_mixed T.F_law_mixed.kp T.b_law_mixed .nil pass0 (pa_cons (pv 0) (pa_cons (pv 3) pa_nil))))
      (pss_cons (ps_set (i := 7) sc_law_rounds_drawn.nd rfl (Or.inl rfl) (pe_call G_law_roll (hr.mono (by decide)) (by rfl) T.m_law_roll T.F_law_roll.kp T.b_law_roll .nil pass0 (pa_cons (pv 0) (pa_cons (pe_callB call_len_seq (by rfl) T.n_len (by decide +kernel) (pa_cons (pv 3) pa_nil)) pa_nil))))
      (pss_cons (ps_join (ps_if (pt_cmpR op_eq (pe_call G_law_roll (hr.mono (by decide)) (by rfl) T.m_law_roll T.F_law_roll.kp T.b_law_roll .nil pass0 (pa_cons (pv 0) (pa_cons pe_int pa_nil))) pe_int (nomark _)) (pss_one (ps_asg (pe_tup (pa_cons (pe_ix ix_tup (pe_ix ix_list (pv 3) (pv 7) (fun _ _ => rfl)) pe_int (fun _ _ => rfl)) (pa_cons (pe_callB (call_max2 rfl) (by rfl) T.n_max (by decide +kernel) (pa_cons pe_int (pa_cons (pe_callB (call_min2 rfl) (by rfl) T.n_min (by decide +kernel) (pa_cons pe_int (pa_cons (pe_op op_add (pe_ix ix_tup (pe_ix ix_list (pv 3) (pv 7) (fun _ _ => rfl)) pe_int (fun _ _ => rfl)) (pe_call G_law_one_of (hr.mono (by decide)) (by rfl) T.m_law_one_of T.F_law_one_of.kp T.b_law_one_of .nil pass0 (pa_cons (pv 0) (pa_cons (pe_lst (pa_cons pe_int (pa_cons (pe_un un_neg pe_int) (pa_cons pe_int (pa_cons pe_int pa_nil))))) pa_nil)))) pa_nil))) pa_nil))) pa_nil))) (pg_sub (pv 3) (pv 7) set_list))) pss_nil))
      (pss_cons (ps_join (ps_if (pt_cmpR op_eq (pe_call G_law_roll (hr.mono (by decide)) (by rfl) T.m_law_roll T.F_law_roll.kp T.b_law_roll .nil pass0 (pa_cons (pv 0) (pa_cons pe_int pa_nil))) pe_int (nomark _)) (pss_one (ps_asg (pe_tup (pa_cons (pe_call G_law_roll (hr.mono (by decide)) (by rfl) T.m_law_roll T.F_law_roll.kp T.b_law_roll .nil pass0 (pa_cons (pv 0) (pa_cons (pv 2) pa_nil))) (pa_cons (pe_ix ix_tup (pe_ix ix_list (pv 3) (pv 7) (fun _ _ => rfl)) pe_int (fun _ _ => rfl)) pa_nil))) (pg_sub (pv 3) (pv 7) set_list))) pss_nil))
      (pss_one (ps_ret (pe_ifExp (pt_cmpR op_eq (pe_call G_law_roll (hr.mono (by decide)) (by rfl) T.m_law_roll T.F_law_roll.kp T.b_law_roll .nil pass0 (pa_cons (pv 0) (pa_cons pe_int pa_nil))) pe_int (nomark _)) (pe_callTy call_tuple_of (by rfl) T.n_tuple (by decide +kernel) (pa_cons (pe_slice sl_list (pv 3) (po_some pe_int) po_none) pa_nil)) (pe_callTy call_tuple_of (by rfl) T.n_tuple (by decide +kernel) (pa_cons (pv 3) pa_nil))))))))))), ?_⟩
    have two : (2 : Int) < 2 ^ 4000 := by decide +kernel
    have five : (5 : Int) < 2 ^ 4000 := by decide +kernel
    have s64 : (64 : Int) < 2 ^ 4000 := by decide +kernel
    walk_at "rs"
    refine ⟨by decide, fun f hf => ?_⟩
    have nfd : d ≠ f := hd.ne hf
    walk_at "rs"
    refine ⟨by omega, by omega, lpR m (fun i σ H' => ∃ (xs : List V) (rs : List (Nat × Int)) (t4 t5 t6 t7 : Option V), σ = [some (.ref d), some (.int n), some (.int m), some (.ref f), t4, t5, t6, t7] ∧ FL H d f xs rs H' ∧ RsIn m rs ∧ rs.length ≤ 11 + 2 * i ∧ i ≤ rs.length) ⟨[], [], _, _, _, _, rfl, ⟨hd.new hf, upd_same, .nil, ExD.of (ex_upd hf)⟩, (fun p hp => absurd hp List.not_mem_nil), by simp, by simp⟩ ?_ ?_⟩
    · rintro i σ H1 hi ⟨xs, rs, t4, t5, t6, t7, rfl, g1, i1, c1, c2⟩
      walk_at "rs"
      refine ⟨i, rfl, by omega, ?_⟩
      walk_at "rs"
      -- by
      refine ⟨fun σ' H' => ∃ (by' : Int) (t6 : Option V), σ' = [some (.ref d), some (.int n), some (.int m), some (.ref f), some (.int i), some (.int by'), t6, t7] ∧ 1 ≤ by' ∧ by' ≤ 64 ∧ FL H d f xs rs H', ?_, ?_⟩
      · have hp := pow_pos' i
        have hp2 : (2 : Int) ^ i ≤ 2 ^ 6 := pow_le (by omega)
        walk_at "rs"
        refine ite2 (fun c => ?_) (fun c => ⟨by omega, by omega, g1⟩)
        refine ⟨d, _, rfl, g1.1, by decide, two, fun k x y z k0 k1 hx hy hz => ?_⟩
        have g2 := g1.dice nfd hx hy hz
        generalize upd H1 d (dice3 x y z) = H2 at g2 ⊢
        walk_at "rs"
        refine ite2 (fun c2 => ?_) (fun c2 => ⟨by omega, by omega, g2⟩)
        refine ⟨d, _, rfl, g2.1, by decide, five, fun k x y z k0 k1 hx hy hz => ?_⟩
        have g3 := g2.dice nfd hx hy hz
        walk_at "rs"
        exact ⟨by omega, by omega, g3⟩
      rintro σ H2 ⟨by0, t6', rfl, b1, b2, g2⟩
      walk_at "rs"
      refine whW (fun mm σ' H' => ∃ (xs : List V) (rs : List (Nat × Int)) (by' : Int) (t6 : Option V), σ' = [some (.ref d), some (.int n), some (.int m), some (.ref f), some (.int i), some (.int by'), t6, t7] ∧ mm = by'.toNat ∧ 0 ≤ by' ∧ by' ≤ 64 ∧ FL H d f xs rs H' ∧ RsIn m rs ∧ rs.length ≤ 12 + 2 * i ∧ (0 < by' → rs.length ≤ 11 + 2 * i) ∧ (by' = 0 → i + 1 ≤ rs.length) ∧ i ≤ rs.length) by0.toNat ⟨xs, rs, by0, t6', rfl, rfl, by omega, b2, g2, i1, by omega, fun _ => c1, by omega, c2⟩ ?_
      rintro mm σ H3 ⟨xs, rs, by', t6, rfl, rfl, y0, y1, g3, i3, e1, e2, e3, e4⟩
      walk_at "rs"
      refine ite2 (fun c => ?_) (fun c => ?_)
      · refine ⟨_, fun s2 H2 h => h, ?_⟩
        walk_at "rs"
        refine ⟨d, _, rfl, g3.1, c, by omega, fun k x y z k0 k1 hx hy hz => ?_⟩
        have g4 := g3.dice nfd hx hy hz
        generalize upd H3 d (dice3 x y z) = H4 at g4 ⊢
        walk_at "rs"
        refine ⟨by decide, fun l hl => ?_⟩
        have g5 := g4.ex (ex_upd (o := .lst [.int by', .int by', .int (1 + k)]) hl)
        have ndl : d ≠ l := g4.1.ne hl
        have l5 : (upd H4 l (.lst [.int by', .int by', .int (1 + k)])) l = some (.lst [.int by', .int by', .int (1 + k)]) := upd_same
        generalize upd H4 l (.lst [.int by', .int by', .int (1 + k)]) = H5 at g5 l5 ⊢
        refine ⟨d, l, _, rfl, g5.1, ndl, .of l5, by simp, by simp, fun v x y z hv hx hy hz => ?_⟩
        obtain ⟨some', rfl, s0, s1⟩ : ∃ s : Int, v = .int s ∧ 1 ≤ s ∧ s ≤ by' := by
          simp only [List.mem_cons, List.mem_nil_iff, or_false] at hv
          rcases hv with rfl | rfl | rfl
          · exact ⟨_, rfl, by omega, by omega⟩
          · exact ⟨_, rfl, by omega, by omega⟩
          · exact ⟨_, rfl, by omega, by omega⟩
        have g6 := g5.dice nfd hx hy hz
        generalize upd H5 d (dice3 x y z) = H6 at g6 ⊢
        walk_at "rs"
        refine ⟨.inl ⟨rfl, _, .of g6.2.1⟩, by decide, fun u hu => ?_⟩
        have g7 := g6.ex (ex_upd (o := .tup [.int i, .int some']) hu)
        have u7 : pairR (upd H6 u (.tup [.int i, .int some'])) (.ref u) (i, some') := ⟨u, rfl, upd_same⟩
        generalize upd H6 u (.tup [.int i, .int some']) = H7 at g7 u7 ⊢
        have hxl : xs.length = rs.length := Paired.len' g7.2.2.1
        refine ⟨f, xs, _, rfl, rfl, g7.2.1, by rw [sizeLine_eq]; omega, ?_⟩
        have g8 := g7.push nfd hf u7
        generalize upd H7 f (.lst (xs ++ [.ref u])) = H8 at g8 ⊢
        have e2' := e2 c
        walk_at "rs"
        refine ⟨if rs.length < 11 then .int (by' - some') else .int 0, ⟨xs ++ [.ref u], .inl (.of g8.2.1), ?_⟩, ?_⟩
        · rw [List.length_append, List.length_singleton]
          by_cases hc : rs.length < 11
          · rw [if_pos hc, if_pos (by omega)]
          · rw [if_neg hc, if_neg (by omega)]
        by_cases hc : rs.length < 11
        · rw [if_pos hc]
          exact ⟨(by' - some').toNat, by omega, _, _, by' - some', rfl, rfl, by omega, by omega, g8, i3.app hi (by omega) (by omega), by rw [List.length_append, List.length_singleton]; omega, (fun _ => by rw [List.length_append, List.length_singleton]; omega), (fun _ => by rw [List.length_append, List.length_singleton]; omega), by rw [List.length_append, List.length_singleton]; omega⟩
        · rw [if_neg hc]
          exact ⟨0, by omega, _, _, 0, rfl, rfl, by omega, by omega, g8, i3.app hi (by omega) (by omega), by rw [List.length_append, List.length_singleton]; omega, (fun h => by omega), (fun _ => by rw [List.length_append, List.length_singleton]; omega), by rw [List.length_append, List.length_singleton]; omega⟩
      · walk_at "rs"
        have c0 : by' = 0 := by omega
        have e3' := e3 c0
        refine ⟨fun σ' H' => ∃ (xs : List V) (rs : List (Nat × Int)) (t4 t5 t6 t7 : Option V), σ' = [some (.ref d), some (.int n), some (.int m), some (.ref f), t4, t5, t6, t7] ∧ FL H d f xs rs H' ∧ RsIn m rs ∧ rs.length ≤ 11 + 2 * (i + 1) ∧ i + 1 ≤ rs.length, ?_, ?_⟩
        · walk_at "rs"
          refine ⟨d, _, rfl, g3.1, by decide, five, fun k x y z k0 k1 hx hy hz => ?_⟩
          have g4 := g3.dice nfd hx hy hz
          generalize upd H3 d (dice3 x y z) = H4 at g4 ⊢
          walk_at "rs"
          refine ite2 (fun c2 => ?_) (fun c2 => ⟨xs, rs, g4, i3, by omega, by omega⟩)
          refine ⟨.inl ⟨rfl, _, .of g4.2.1⟩, by decide, fun u hu => ?_⟩
          have g7 := g4.ex (ex_upd (o := .tup [.int i, .int 0]) hu)
          have u7 : pairR (upd H4 u (.tup [.int i, .int 0])) (.ref u) (i, 0) := ⟨u, rfl, upd_same⟩
          generalize upd H4 u (.tup [.int i, .int 0]) = H7 at g7 u7 ⊢
          have hxl : xs.length = rs.length := Paired.len' g7.2.2.1
          refine ⟨f, xs, _, rfl, rfl, g7.2.1, by rw [sizeLine_eq]; omega, ?_⟩
          have g8 := g7.push nfd hf u7
          refine ⟨_, _, g8, i3.app hi (by omega) (by omega), by rw [List.length_append, List.length_singleton]; omega, by rw [List.length_append, List.length_singleton]; omega⟩
        · rintro σ' H' h
          walk_at "rs"
          obtain ⟨xs, rs, t4, t5, t6, t7, h⟩ := h
          exact ⟨⟨t4, t5, t6, t7, h.1⟩, xs, rs, h.2⟩
    · rintro σ H1 ⟨xs, rs, t4, t5, t6, t7, rfl, g1, i1, c1, c2⟩
      walk_at "rs"
      have hxl : xs.length = rs.length := Paired.len' g1.2.2.1
      refine ⟨d, f, xs, rs, rfl, g1.1, g1.2.1, nfd.symm, g1.2.2.1, by omega, fun g H2 ys ms e2 d2 hg0 hg m2 hml hmr => ?_⟩
      have ndg : d ≠ g := g1.1.ne hg0
      have hg00 : H g = none := g1.2.2.2.back g1.1 hg0
      have g2 : FL H d g ys ms H2 := ⟨d2, hg, m2, g1.2.2.2.trans e2⟩
      have i2 : RsIn m ms := fun p hp => i1 p (hmr p hp)
      have hyl : ys.length = ms.length := Paired.len' m2
      walk_at "rs"
      refine ⟨ys, .inl (.of hg), d, _, rfl, d2, by omega, by omega, fun k x y z k0 k1 hx hy hz => ?_⟩
      obtain ⟨k, rfl⟩ : ∃ k' : Nat, k = k' := ⟨k.toNat, by omega⟩
      have g3 := g2.dice ndg hx hy hz
      generalize upd H2 d (dice3 x y z) = H3 at g3 ⊢
      walk_at "rs"
      refine ⟨fun σ' H' => ∃ (ys : List V) (ms : List (Nat × Int)), σ' = [some (.ref d), some (.int n), some (.int m), some (.ref g), t4, t5, t6, some (.int k)] ∧ FL H d g ys ms H' ∧ RsIn m ms ∧ ms.length = rs.length, ?_, ?_⟩
      · walk_at "rs"
        refine ⟨d, _, rfl, g3.1, by decide, two, fun k' x y z k0 k1 hx hy hz => ?_⟩
        have g4 := g3.dice ndg hx hy hz
        generalize upd H3 d (dice3 x y z) = H4 at g4 ⊢
        walk_at "rs"
        refine ite2 (fun c2 => ?_) (fun c2 => ⟨ys, ms, g4, i2, hml⟩)
        obtain ⟨⟨b, y'⟩, hp, u, hv, hu⟩ := Paired.at' g4.2.2.1 (List.getElem?_eq_getElem (show k < ys.length by omega))
        obtain ⟨w1, w2, w3⟩ := i2 _ (List.mem_of_getElem? hp)
        have ha : atI ys (k : Int) = some (.ref u) := by rw [atI_nat' (show k < ys.length by omega), hv]
        refine ixM g4.2.1 ha (ixT (.of hu) (v := .int b) rfl (ixM g4.2.1 ha (ixT (.of hu) (v := .int y') rfl ?_)))
        refine ⟨by decide, fun l hl => ?_⟩
        have g5 := g4.ex (ex_upd (o := .lst [.int 1, .int (-1), .int 2, .int 30]) hl)
        have ndl : d ≠ l := g4.1.ne hl
        have l5 : (upd H4 l (.lst [.int 1, .int (-1), .int 2, .int 30])) l = some (.lst [.int 1, .int (-1), .int 2, .int 30]) := upd_same
        generalize upd H4 l (.lst [.int 1, .int (-1), .int 2, .int 30]) = H5 at g5 l5 ⊢
        refine ⟨d, l, _, rfl, g5.1, ndl, .of l5, by simp, by simp, fun v x y z hv hx hy hz => ?_⟩
        obtain ⟨w, rfl⟩ : ∃ s : Int, v = .int s := by
          simp only [List.mem_cons, List.mem_nil_iff, or_false] at hv
          rcases hv with rfl | rfl | rfl | rfl <;> exact ⟨_, rfl⟩
        have g6 := g5.dice ndg hx hy hz
        generalize upd H5 d (dice3 x y z) = H6 at g6 ⊢
        refine ⟨y', rfl, w, rfl, by decide, fun v hv => ?_⟩
        obtain ⟨by2, hb2, z0, z1⟩ : ∃ z : Int, (if (if y' + w < 64 then y' + w else 64) > 0 then if y' + w < 64 then y' + w else 64 else 0) = z ∧ 0 ≤ z ∧ z ≤ 64 := ⟨_, rfl, by split <;> (try split) <;> omega, by split <;> (try split) <;> omega⟩
        rw [hb2]
        have g7 := g6.ex (ex_upd (o := .tup [.int b, .int by2]) hv)
        have v7 : pairR (upd H6 v (.tup [.int b, .int by2])) (.ref v) (b, by2) := ⟨v, rfl, upd_same⟩
        generalize upd H6 v (.tup [.int b, .int by2]) = H7 at g7 v7 ⊢
        exact setL g7.2.1 (Evl.ixN_nat (show k < ys.length by omega)) ⟨_, _, g7.put k ndg hg00 v7, i2.put k w1 z0 z1, by rw [List.length_set]; exact hml⟩
      rintro σ H4 ⟨ys, ms, rfl, g4, i4, hml4⟩
      have hyl : ys.length = ms.length := Paired.len' g4.2.2.1
      walk_at "rs"
      refine ⟨fun σ' H' => ∃ (ys : List V) (ms : List (Nat × Int)), σ' = [some (.ref d), some (.int n), some (.int m), some (.ref g), t4, t5, t6, some (.int k)] ∧ FL H d g ys ms H' ∧ RsIn m ms ∧ ms.length = rs.length, ?_, ?_⟩
      · walk_at "rs"
        refine ⟨d, _, rfl, g4.1, by decide, five, fun k' x y z k0 k1 hx hy hz => ?_⟩
        have g5 := g4.dice ndg hx hy hz
        generalize upd H4 d (dice3 x y z) = H5 at g5 ⊢
        walk_at "rs"
        refine ite2 (fun c2 => ?_) (fun c2 => ⟨ys, ms, g5, i4, hml4⟩)
        refine ⟨d, _, rfl, g5.1, by omega, by omega, fun b' x y z b0 b1 hx hy hz => ?_⟩
        obtain ⟨b', rfl⟩ : ∃ k' : Nat, b' = k' := ⟨b'.toNat, by omega⟩
        have g6 := g5.dice ndg hx hy hz
        generalize upd H5 d (dice3 x y z) = H6 at g6 ⊢
        walk_at "rs"
        obtain ⟨⟨b, y'⟩, hp, u, hv, hu⟩ := Paired.at' g6.2.2.1 (List.getElem?_eq_getElem (show k < ys.length by omega))
        obtain ⟨w1, w2, w3⟩ := i4 _ (List.mem_of_getElem? hp)
        have ha : atI ys (k : Int) = some (.ref u) := by rw [atI_nat' (show k < ys.length by omega), hv]
        refine ixM g6.2.1 ha (ixT (.of hu) (v := .int y') rfl ⟨by decide, fun v hv => ?_⟩)
        have g7 := g6.ex (ex_upd (o := .tup [.int b', .int y']) hv)
        have v7 : pairR (upd H6 v (.tup [.int b', .int y'])) (.ref v) (b', y') := ⟨v, rfl, upd_same⟩
        generalize upd H6 v (.tup [.int b', .int y']) = H7 at g7 v7 ⊢
        exact setL g7.2.1 (Evl.ixN_nat (show k < ys.length by omega)) ⟨_, _, g7.put k ndg hg00 v7, i4.put k (show b' < m by omega) w2 w3, by rw [List.length_set]; exact hml4⟩
      rintro σ H5 ⟨ys, ms, rfl, g5, i5, hml5⟩
      have hyl : ys.length = ms.length := Paired.len' g5.2.2.1
      walk_at "rs"
      refine ⟨d, _, rfl, g5.1, by decide, by omega, fun k' x y z k0 k1 hx hy hz => ?_⟩
      have g6 := g5.dice ndg hx hy hz
      generalize upd H5 d (dice3 x y z) = H6 at g6 ⊢
      walk_at "rs"
      refine ite2 (fun c => ?_) (fun c => ⟨ys, .inl ⟨.of g6.2.1, fun r hr => q r _ ys ms (g6.2.2.2.trans (ExD.of (ex_upd hr))) (g6.1.new hr) upd_same (g6.2.2.1.ex (ex_upd hr)) i5 (by omega)⟩⟩)
      refine ⟨g, ys, rfl, .of g6.2.1, fun l hl => ?_⟩
      rw [show (some (1 : Int)) = some ((1 : Nat) : Int) from rfl, cut_from]
      have x7 := ex_upd (o := .lst (ys.drop 1)) hl
      have l7 : (upd H6 l (.lst (ys.drop 1))) l = some (.lst (ys.drop 1)) := upd_same
      generalize upd H6 l (.lst (ys.drop 1)) = H7 at x7 l7 ⊢
      have g7 := g6.ex x7
      refine ⟨l, rfl, _, .inl ⟨.of l7, fun r hr => q r _ (ys.drop 1) (ms.drop 1) (g7.2.2.2.trans (ExD.of (ex_upd hr))) (g7.1.new hr) upd_same (RsAt.ex (ex_upd hr) (Paired.drop' 1 g7.2.2.1)) (fun p hp => i5 p (List.mem_of_mem_drop hp)) (by rw [List.length_drop]; omega)⟩⟩
def sp_law_moved (K : PySem.W.Frag) : Sp := fun vs H Q _ => ∃ (n : Nat) (left : Bool) (w p : Int), vs = [.int n, sdV left, .int w, .int p] ∧ n ≤ 64 ∧ 0 ≤ w ∧ w < 2 ^ n ∧ 0 ≤ p ∧ Q (.int (mv n left w p)) H
set_option maxHeartbeats 4000000 in
theorem ok_law_moved (T : Txt K mg) : FnOk P w K mg base CX0 2 T.f_law_moved T.d_law_moved P_law_moved (sp_law_moved K) := by
  have G_law_two_to := ok_law_two_to (P := P) (w := w) (base := base) T
  refine T.F_law_moved.ok sc_law_moved (fun vs H Q E h => ?_) (fun cdv A outer s H vs Q E hr h => ?_)
  · obtain ⟨n, left, w, p, rfl, _⟩ := h; rfl
  · obtain ⟨n, left, w, p, rfl, h1, h2, h3, h4, q⟩ := h
    refine ⟨_, (pss_cons (ps_set (i := 4) sc_law_moved.nd rfl (Or.inl rfl) (pe_call G_law_two_to (hr.mono (by decide)) (by rfl) T.m_law_two_to T.F_law_two_to.kp T.b_law_two_to .nil pass0 (pa_cons (pe_callB (call_min2 rfl) (by rfl) T.n_min (by decide +kernel) (pa_cons (pv 3) (pa_cons (pv 0) pa_nil))) pa_nil)))
      (pss_one (ps_ret (pe_ifExp (pt_cmpR op_eq (pv 1) pe_str (nomark _)) (pe_op op_mod (pe_op op_mulA (pv 2) (pv 4)) (pe_call G_law_two_to (hr.mono (by decide)) (by rfl) T.m_law_two_to T.F_law_two_to.kp T.b_law_two_to .nil pass0 (pa_cons (pv 0) pa_nil))) (pe_op op_fdivW (pv 2) (pv 4)))))), ?_⟩
    walk_at "rs"
    obtain ⟨p, rfl⟩ : ∃ k : Nat, p = k := ⟨p.toNat, by omega⟩
    have hw := pow64 h1
    have q' : Q (.int (mv n left w (mn p n))) H := by rw [mv_least h2 h3]; exact q
    obtain ⟨k, hk, hk2⟩ : ∃ k : Nat, mn p n = (k : Int) ∧ k ≤ n := by
      unfold mn
      split
      · exact ⟨n, rfl, Nat.le_refl _⟩
      · exact ⟨p, rfl, by omega⟩
    unfold mn at hk
    unfold mn at q'
    rw [hk] at q' ⊢
    refine ⟨k, rfl, by omega, ?_⟩
    unfold mv at q'
    rw [Int.toNat_natCast] at q'
    have hz := pow64 (show k ≤ 64 by omega)
    have hp := pow_pos' k
    cases left with
    | true =>
      simp only [sdV, if_true] at q' ⊢
      walk_at "rs"
      exact ⟨mulL (by omega), n, rfl, by omega, _, rfl, pow_pos' n, q'⟩
    | false =>
      simp only [sdV, Bool.false_eq_true, if_false] at q' ⊢
      walk_at "rs"
      exact ⟨divw 65 hp (by omega), q'⟩
def sp_law_by (K : PySem.W.Frag) : Sp := fun vs H Q _ => ∃ (r : Addr) (xs : List V) (rs : List (Nat × Int)) (m : Nat) (a : Int), vs = [.ref r, .int a] ∧ H r = some (.tup xs) ∧ RsAt H xs rs ∧ RsIn m rs ∧ m ≤ 64 ∧ rs.length ≤ 24 ∧ ∀ H', Ex H H' → Q (.int (byOf rs a)) H'
set_option maxHeartbeats 4000000 in
theorem ok_law_by (T : Txt K mg) : FnOk P w K mg base CX0 2 T.f_law_by T.d_law_by P_law_by (sp_law_by K) := by
  have G_law_two_to := ok_law_two_to (P := P) (w := w) (base := base) T
  refine T.F_law_by.ok sc_law_by (fun vs H Q E h => ?_) (fun cdv A outer s H vs Q E hr h => ?_)
  · obtain ⟨r, xs, rs, m, a, rfl, _⟩ := h; rfl
  · obtain ⟨r, xs, rs, m, a, rfl, hr1, hr2, hr3, hm, h4, q⟩ := h
    refine ⟨_, (pss_one (ps_ret (pe_callB (cr_sum rfl) (by rfl) T.n_sum (by decide +kernel) (pa_cons (pe_lc (own := [("bit", 2), ("by", 3)]) (g := gTup K 2 (gCons (gName 2) (gCons (gName 3) gNil))) (by rfl) sc_law_by.nd (pi_tup (pv 0)) (blkOk_by (own := [("bit", 2), ("by", 3)]) (N := N_law_by) (sc := defScope s_law_by) (by decide +kernel)) (fun _ _ _ _ _ => (pg_tup (n := 2) rfl (pgs_cons (pg_name (i := 2) sc_law_by.nd rfl (by first | exact Or.inl rfl | exact Or.inr rfl)) (pgs_cons (pg_name (i := 3) sc_law_by.nd rfl (by first | exact Or.inl rfl | exact Or.inr rfl)) pgs_nil)))) (fun _ _ _ _ _ => pts_one (pt_cmpR op_eq (pe_op op_mod (pe_op op_fdivW (pv 1) (pe_call G_law_two_to (hr.mono (by decide)) (by rfl) T.m_law_two_to T.F_law_two_to.kp T.b_law_two_to .nil pass0 (pa_cons (pv 2) pa_nil))) pe_int) pe_int (nomark _))) (fun _ _ _ _ _ => (pv 3))) pa_nil)))), ?_⟩
    walk_at "rs"
    refine ⟨⟨_, .of hr1⟩, fun D hD => ?_⟩
    have hlen : xs.length = rs.length := Paired.len' hr2
    refine lc_go (walk_tup (xs := xs)) (fun i => decide (a / 2 ^ (rs.getD i (0, 0)).1 % 2 = 1)) (fun i => .int (rs.getD i (0, 0)).2) (by omega) hD (fun H' e => .of (e _ _ hr1)) ?_ ?_
    · rintro k x H' H2' hk e ⟨rfl, hx⟩ Qe Qn qe qn
      obtain ⟨⟨b, y⟩, hp, u, rfl, hu⟩ := Paired.at' hr2 hx
      have hg : rs.getD k (0, 0) = (b, y) := getD_of hp
      obtain ⟨hb, _, _⟩ := hr3 _ (List.mem_of_getElem? hp)
      have u2 := e _ _ hu
      walk_at "rs"
      refine ⟨_, .of u2, rfl, ?_⟩
      walk_at "rs"
      refine ⟨b, rfl, by omega, _, rfl, divw 65 (pow_pos' b) (by have := pow64 (show b ≤ 64 by omega); have := pow_pos' b; omega), by decide, ?_⟩
      have qe' : ∀ H5, Ex H2' H5 → a / 2 ^ b % 2 = 1 → Qe (.int y) H5 := fun H5 e5 hc => by
        have := qe H5 e5 (by simp only [hg]; simpa using hc)
        simpa only [hg] using this
      have qn' : ∀ H5, Ex H2' H5 → ¬ a / 2 ^ b % 2 = 1 → Qn H5 := fun H5 e5 hc => qn H5 e5 (by simp only [hg]; simpa using hc)
      by_cases hc : a / 2 ^ b % 2 = 1
      · rw [if_pos hc]; exact qe' H2' (Ex.refl _) hc
      · rw [if_neg hc]; exact qn' H2' (Ex.refl _) hc
    intro H2 x2 l2
    rw [hlen, kept_list rs (0, 0) (fun p => decide (a / 2 ^ p.1 % 2 = 1)) (fun p => .int p.2)] at l2
    walk_at "rs"
    refine ⟨D, (rs.filter fun p => decide (a / 2 ^ p.1 % 2 = 1)).map (·.2), rfl, .of (by rw [l2, List.map_map]; rfl), ?_⟩
    exact q _ x2
def sp_law_is_paper (K : PySem.W.Frag) : Sp := fun vs H Q _ => ∃ (n : Nat) (left : Bool) (m : Nat) (r : Addr) (xs : List V) (rs : List (Nat × Int)) (v : V) (o : Option (List V)), vs = [.int n, sdV left, .int m, .ref r, v] ∧ 1 ≤ n ∧ n ≤ 32 ∧ 1 ≤ m ∧ m ≤ 6 ∧ H r = some (.tup xs) ∧ RsAt H xs rs ∧ RsIn m rs ∧ rs.length ≤ 24 ∧ DescAt H v o ∧ ∀ H', Ex H H' → Q (.bl (papB n left m rs o)) H'
set_option maxHeartbeats 4000000 in
theorem ok_law_is_paper (T : Txt K mg) : FnOk P w K mg base CX0 3 T.f_law_is_paper T.d_law_is_paper P_law_is_paper (sp_law_is_paper K) := by
  have G_law_moved := ok_law_moved (P := P) (w := w) (base := base) T
  have G_law_by := ok_law_by (P := P) (w := w) (base := base) T
  have G_law_two_to := ok_law_two_to (P := P) (w := w) (base := base) T
  refine T.F_law_is_paper.ok sc_law_is_paper (fun vs H Q E h => ?_) (fun cdv A outer s H vs Q E hr h => ?_)
  · obtain ⟨n, left, m, r, xs, rs, v, o, rfl, _⟩ := h; rfl
  · obtain ⟨n, left, m, r, xs, rs, v, o, rfl, h1, h2, h3, h4, hr1, hr2, hr3, h5, hv, q⟩ := h
    refine ⟨_, (pss_cons (ps_if (PW.pt (pw_or (pt_not (pt_val (pe_callB call_isi (by rfl) T.n_isinstance (by decide +kernel) (pa_cons (pv 4) (pa_cons (pe_bltn (v := .ty "tuple") (by rfl) T.n_tuple (by decide +kernel) rfl) pa_nil))))) (pw_or1 (pt_cmpR op_ne (pe_callB call_len_seq (by rfl) T.n_len (by decide +kernel) (pa_cons (pv 4) pa_nil)) pe_int (nomark _))))) (pss_one (ps_ret pe_bl)) pss_nil)
      (pss_cons (ps_if (pt_cmpR (op_neD hr.units) (pe_lc (own := [("one", 5)]) (g := gName 5) (by rfl) sc_law_is_paper.nd (pi_tup (pv 4)) (blkOk_by (own := [("one", 5)]) (N := N_law_is_paper) (sc := defScope s_law_is_paper) (by decide +kernel)) (fun _ _ _ _ _ => (pg_name (i := 5) sc_law_is_paper.nd rfl (by first | exact Or.inl rfl | exact Or.inr rfl))) (fun _ _ _ _ _ => pts_one (PW.pt (pw_or (pt_val (pe_callB (k_call_isi (K := K) rfl) (by rfl) T.n_isinstance (by decide +kernel) (pa_cons (pv 5) (pa_cons (pe_bltn (v := .ty "bool") (by rfl) T.n_bool (by decide +kernel) rfl) pa_nil)))) (pw_or1 (pt_not (pt_val (pe_callB (k_call_isi (K := K) rfl) (by rfl) T.n_isinstance (by decide +kernel) (pa_cons (pv 5) (pa_cons (pe_bltn (v := .ty "int") (by rfl) T.n_int (by decide +kernel) rfl) pa_nil))))))))) (fun _ _ _ _ _ => pe_int)) (pe_lst pa_nil) (nomark _)) (pss_one (ps_ret pe_bl)) pss_nil)
      (pss_cons (ps_asg (pv 4) (pg_tup (n := 2) rfl (pgs_cons (pg_name (i := 6) sc_law_is_paper.nd rfl (Or.inl rfl)) (pgs_cons (pg_name (i := 7) sc_law_is_paper.nd rfl (Or.inl rfl)) pgs_nil))))
      (pss_cons (ps_if (PW.pt (pw_or (pt_not (pt_chain op_le op_lt pe_int (pv 6) (pe_call G_law_two_to (hr.mono (by decide)) (by rfl) T.m_law_two_to T.F_law_two_to.kp T.b_law_two_to .nil pass0 (pa_cons (pv 0) pa_nil)))) (pw_or1 (pt_not (pt_chain op_le op_lt pe_int (pv 7) (pe_call G_law_two_to (hr.mono (by decide)) (by rfl) T.m_law_two_to T.F_law_two_to.kp T.b_law_two_to .nil pass0 (pa_cons (pv 2) pa_nil))))))) (pss_one (ps_ret pe_bl)) pss_nil)
      (pss_one (ps_ret (pe_cmpR op_ne (pe_call G_law_moved (hr.mono (by decide)) (by rfl) T.m_law_moved T.F_law_moved.kp T.b_law_moved .nil pass0 (pa_cons (pv 0) (pa_cons (pv 1) (pa_cons (pv 6) (pa_cons (pe_call G_law_by (hr.mono (by decide)) (by rfl) T.m_law_by T.F_law_by.kp T.b_law_by .nil pass0 (pa_cons (pv 3) (pa_cons (pv 7) pa_nil))) pa_nil))))) (pe_call G_law_moved (hr.mono (by decide)) (by rfl) T.m_law_moved T.F_law_moved.kp T.b_law_moved .nil pass0 (pa_cons (pv 0) (pa_cons (pv 1) (pa_cons (pv 6) (pa_cons (pv 7) pa_nil))))) (nomark _)))))))), ?_⟩
    walk_at "rs"
    cases o with
    | none =>
      have q0 : Q (.bl false) H := q H (Ex.refl _)
      rcases hv with rfl | ⟨a, x, y, rfl, ha⟩
      · exact isi_to (.base .non) (b := false) (by decide +kernel) (by walk_at "rs"; exact q0)
      · exact isi_to (.base (.lst ha)) (b := false) (by decide +kernel) (by walk_at "rs"; exact q0)
    | some ys =>
      obtain ⟨u, rfl, hu, hk⟩ := hv
      refine isi_to (.base (.tup hu)) (b := true) (by decide +kernel) ⟨_, rfl, ?_⟩
      walk_at "rs"
      refine ⟨ys, .inr (.of hu), ?_⟩
      by_cases hl : ys.length = 2
      · obtain ⟨y1, y2, rfl⟩ : ∃ y1 y2, ys = [y1, y2] := by
          match ys, hl with
          | [y1, y2], _ => exact ⟨_, _, rfl⟩
        rw [if_pos (show (([y1, y2] : List V).length : Int) = 2 from rfl)]
        walk_at "rs"
        refine ⟨⟨_, .of hu⟩, fun D hD => ?_⟩
        refine lc_go (walk_tup (xs := [y1, y2])) (fun i => !isIntV (([y1, y2] : List V).getD i .non)) (fun _ => .int 1) (by simp) hD (fun H' e => .of (e _ _ hu)) ?_ ?_
        · rintro k x H' H2' hk' e ⟨rfl, hx⟩ Qe Qn qe qn
          have hm := List.mem_of_getElem? hx
          have hgd : ([y1, y2] : List V).getD k .non = x := getD_of hx
          rw [hgd] at qe qn
          walk_at "rs"
          rcases hk x hm with ⟨i, rfl⟩ | ⟨b, rfl⟩
          · refine isi_to (.base (.int i)) (b := false) (by decide +kernel) ⟨_, rfl, iteF (isi_to (.base (.int i)) (b := true) (by decide +kernel) ⟨_, rfl, ?_⟩)⟩
            walk_at "rs"
            exact qn _ (Ex.refl _) rfl
          · exact isi_to (.base (.bl b)) (b := true) (by decide +kernel) ⟨_, rfl, iteT (qe _ (Ex.refl _) rfl)⟩
        intro H2 x2 l2
        walk_at "rs"
        have kt : kept 2 (fun i => !isIntV (([y1, y2] : List V).getD i .non)) (fun _ => .int 1) = (List.replicate ((if isIntV y1 = true then 0 else 1) + (if isIntV y2 = true then 0 else 1)) (1 : Int)).map V.int := by
          cases h1 : isIntV y1 <;> cases h2 : isIntV y2 <;> simp [kept, List.range_succ, h1, h2]
        have l2' : H2 D = some (.lst (kept 2 (fun i => !isIntV (([y1, y2] : List V).getD i .non)) (fun _ => .int 1))) := l2
        rw [kt] at l2'
        refine ⟨by decide, fun p hp => ?_⟩
        have x3 := x2.trans (ex_upd (o := .lst []) hp)
        refine neD (d := lstD (List.replicate ((if isIntV y1 = true then 0 else 1) + (if isIntV y2 = true then 0 else 1)) (1 : Int))) (e := lstD []) (dp_lst (.of (ex_upd hp _ _ l2'))) (dp_lst (.of upd_same)) (sh_lst _) (sh_lst _) (eqv_lstD _ _) ?_
        generalize upd H2 p (.lst []) = H3 at x3 ⊢
        have u3 := x3 _ _ hu
        have nope : ¬ (isIntV y1 = true ∧ isIntV y2 = true) → papB n left m rs (some [y1, y2]) = false := fun hn => by
          rcases hk y1 (by simp) with ⟨i, rfl⟩ | ⟨b, rfl⟩
          · rcases hk y2 (by simp) with ⟨j, rfl⟩ | ⟨b, rfl⟩
            · exact absurd ⟨rfl, rfl⟩ hn
            · rfl
          · rfl
        by_cases hii : isIntV y1 = true ∧ isIntV y2 = true
        · obtain ⟨g1, g2⟩ := hii
          rw [if_pos g1, if_pos g2]
          obtain ⟨w, rfl⟩ : ∃ w : Int, y1 = .int w := by cases y1 <;> first | exact ⟨_, rfl⟩ | cases g1
          obtain ⟨a, rfl⟩ : ∃ a : Int, y2 = .int a := by cases y2 <;> first | exact ⟨_, rfl⟩ | cases g2
          refine ⟨false, rfl, iteF ?_⟩
          walk_at "rs"
          refine ⟨_, .of u3, rfl, ?_⟩
          walk_at "rs"
          have hq := pow_pos' n
          have hw := pow64 (show n ≤ 64 by omega)
          have hm : (2 : Int) ^ m ≤ 2 ^ 6 := pow_le h4
          have no : ¬ (0 ≤ w ∧ w < 2 ^ n ∧ 0 ≤ a ∧ a < 2 ^ m) → Q (.bl false) H3 := fun hc => by
            have e : papB n left m rs (some [.int w, .int a]) = false := by
              show (decide _ && _) = false
              rw [decide_eq_false hc]; rfl
            rw [← e]; exact q _ x3
          refine ite2 (fun c1 => ⟨n, rfl, by omega, _, rfl, ite2 (fun c2 => ite2 (fun c3 => ⟨m, rfl, by omega, _, rfl, ite2 (fun c4 => ?_) (fun c4 => no (fun h => c4 h.2.2.2))⟩) (fun c3 => no (fun h => c3 h.2.2.1))) (fun c2 => no (fun h => c2 h.2.1))⟩) (fun c1 => no (fun h => c1 h.1))
          refine ⟨r, xs, rs, m, a, rfl, x3 _ _ hr1, hr2.ex x3, hr3, by omega, h5, fun H4 x4 => ?_⟩
          have hb := byOf_nn hr3 a
          refine ⟨n, left, w, _, rfl, by omega, c1, c2, hb.1, ?_⟩
          refine ⟨n, left, w, a, rfl, by omega, c1, c2, c3, ?_⟩
          have e : papB n left m rs (some [.int w, .int a]) = !decide (V.int (mv n left w (byOf rs a)) = V.int (mv n left w a)) := by
            show (decide _ && decide _) = _
            rw [decide_eq_true ⟨c1, c2, c3, c4⟩, Bool.true_and]
            by_cases hc : mv n left w (byOf rs a) = mv n left w a
            · rw [decide_eq_false (by simpa using hc), decide_eq_true (by rw [hc])]; rfl
            · rw [decide_eq_true hc, decide_eq_false (by simpa using hc)]; rfl
          have q2 := q _ (x3.trans x4)
          rw [e] at q2
          exact ⟨rfl, q2⟩
        · refine ⟨true, ?_, iteT ?_⟩
          · revert hii
            cases isIntV y1 <;> cases isIntV y2 <;> simp
          · rw [← nope hii]; exact q _ x3
      · have e : papB n left m rs (some ys) = false := by
          unfold papB
          split
          · rename_i h; cases h; exact absurd rfl hl
          · rfl
        rw [if_neg (by omega)]
        rw [← e]; exact q _ (Ex.refl _)
def sp_law_right (K : PySem.W.Frag) : Sp := fun vs H Q _ => ∃ d : Addr, vs = [.ref d] ∧ DiceAt H d ∧ ∀ H', ExD d H H' → DiceAt H' d → Q (.bl true) H'
set_option maxHeartbeats 4000000 in
theorem ok_law_right (T : Txt K mg) : FnOk P w K mg base CX0 7 T.f_law_right T.d_law_right P_law_right (sp_law_right K) := by
  have G_law_rounds_drawn := ok_law_rounds_drawn (P := P) (w := w) (base := base) T
  have G_law_one_of := ok_law_one_of (P := P) (w := w) (base := base) T
  have G_law_roll := ok_law_roll (P := P) (w := w) (base := base) T
  have G_rounds_paper := ok_rounds_paper (P := P) (w := w) (base := base) T
  have G_law_two_to := ok_law_two_to (P := P) (w := w) (base := base) T
  have G_moved_by := ok_moved_by (P := P) (w := w) (base := base) T
  have G_law_moved := ok_law_moved (P := P) (w := w) (base := base) T
  have G_law_is_paper := ok_law_is_paper (P := P) (w := w) (base := base) T
  have G_is_rounds_paper := ok_is_rounds_paper (P := P) (w := w) (base := base) T
  have G_law_by := ok_law_by (P := P) (w := w) (base := base) T
  refine T.F_law_right.ok sc_law_right (fun vs H Q E h => ?_) (fun cdv A outer s H vs Q E hr h => ?_)
  · obtain ⟨d, rfl, _⟩ := h; rfl
  · obtain ⟨d, rfl, hd, q⟩ := h
    refine ⟨_, (pss_cons (ps_asg (pe_tup (pa_cons (pe_op op_add pe_int (pe_call G_law_roll (hr.mono (by decide)) (by rfl) T.m_law_roll T.F_law_roll.kp T.b_law_roll .nil pass0 (pa_cons (pv 0) (pa_cons (pe_call G_law_one_of (hr.mono (by decide)) (by rfl) T.m_law_one_of T.F_law_one_of.kp T.b_law_one_of .nil pass0 (pa_cons (pv 0) (pa_cons (pe_lst (pa_cons pe_int (pa_cons pe_int pa_nil))) pa_nil))) pa_nil)))) (pa_cons (pe_call G_law_one_of (hr.mono (by decide)) (by rfl) T.m_law_one_of T.F_law_one_of.kp T.b_law_one_of .nil pass0 (pa_cons (pv 0) (pa_cons (pe_lst (pa_cons pe_str (pa_cons pe_str pa_nil))) pa_nil))) pa_nil))) (pg_tup (n := 2) rfl (pgs_cons (pg_name (i := 1) sc_law_right.nd rfl (Or.inr rfl)) (pgs_cons (pg_name (i := 2) sc_law_right.nd rfl (Or.inl rfl)) pgs_nil))))
      (pss_cons (ps_set (i := 3) sc_law_right.nd rfl (Or.inl rfl) (pe_op op_add pe_int (pe_call G_law_roll (hr.mono (by decide)) (by rfl) T.m_law_roll T.F_law_roll.kp T.b_law_roll .nil pass0 (pa_cons (pv 0) (pa_cons pe_int pa_nil)))))
      (pss_cons (ps_set (i := 4) sc_law_right.nd rfl (Or.inr rfl) (pe_call G_law_rounds_drawn (hr.mono (by decide)) (by rfl) T.m_law_rounds_drawn T.F_law_rounds_drawn.kp T.b_law_rounds_drawn .nil pass0 (pa_cons (pv 0) (pa_cons (pv 1) (pa_cons (pv 3) pa_nil)))))
      (pss_cons (ps_par (i := 5) (j := 6) (by rfl) sc_law_right.nd rfl rfl (by decide) rfl rfl (pa_cons (pe_call G_rounds_paper (hr.mono (by decide)) (by rfl) T.m_rounds_paper T.F_rounds_paper.kp T.b_rounds_paper .nil pass0 (pa_cons (pv 1) (pa_cons (pv 2) (pa_cons (pv 3) (pa_cons (pv 4) pa_nil))))) (pa_cons (pe_lst pa_nil) pa_nil)) (by rfl))
      (pss_cons (ps_for PassesOwn.never rfl (pi_range1 (by rfl) T.n_range (pa_cons (pv 3) pa_nil)) (pg_name (i := 7) sc_law_right.nd rfl (Or.inl rfl)) (pss_one (ps_if (pt_cmpR op_ne (pe_callB (call_min2 rfl) (by rfl) T.n_min (by decide +kernel) (pa_cons (pv 1) (pa_cons (pe_call G_law_by (hr.mono (by decide)) (by rfl) T.m_law_by T.F_law_by.kp T.b_law_by .nil pass0 (pa_cons (pv 4) (pa_cons (pe_call G_law_two_to (hr.mono (by decide)) (by rfl) T.m_law_two_to T.F_law_two_to.kp T.b_law_two_to .nil pass0 (pa_cons (pv 7) pa_nil)) pa_nil))) pa_nil))) (pe_callB (call_min2 rfl) (by rfl) T.n_min (by decide +kernel) (pa_cons (pv 1) (pa_cons (pe_call G_law_two_to (hr.mono (by decide)) (by rfl) T.m_law_two_to T.F_law_two_to.kp T.b_law_two_to .nil pass0 (pa_cons (pv 7) pa_nil)) pa_nil))) (nomark _)) (pss_one (ps_expr (pe_bm PySem.F.plainAttrs_list PySem.F.slot_list_append PySem.F.type_list_append mt_append (pv 6) (pa_cons (pv 7) pa_nil)))) pss_nil)))
      (pss_cons (ps_setLc (i := 8) (own := [("at", 9)]) (g := gName 9) (by rfl) sc_law_right.nd rfl rfl (sw_true rfl rfl rfl (by decide +kernel)) (pi_range1 (by rfl) T.n_range (pa_cons (pe_call G_law_two_to (hr.mono (by decide)) (by rfl) T.m_law_two_to T.F_law_two_to.kp T.b_law_two_to .nil pass0 (pa_cons (pv 3) pa_nil)) pa_nil)) (blkOk_by (own := [("at", 9)]) (N := N_law_right) (sc := defScope s_law_right) (by decide +kernel)) (fun _ _ _ _ _ => (pg_name (i := 9) sc_law_right.nd rfl (by first | exact Or.inl rfl | exact Or.inr rfl))) (fun _ _ _ _ _ => pts_one (pt_cmpR op_ne (pe_callB (call_min2 rfl) (by rfl) T.n_min (by decide +kernel) (pa_cons (pv 1) (pa_cons (pe_call G_law_by (hr.mono (by decide)) (by rfl) T.m_law_by T.F_law_by.kp T.b_law_by .nil pass0 (pa_cons (pv 4) (pa_cons (pv 9) pa_nil))) pa_nil))) (pe_callB (call_min2 rfl) (by rfl) T.n_min (by decide +kernel) (pa_cons (pv 1) (pa_cons (pv 9) pa_nil))) (nomark _))) (fun _ _ _ _ _ => (pv 9)))
      (pss_cons (ps_if (PW.pt (pw_or (pt_cmpR op_ne (pe_cmpR op_isN (pv 5) pe_non (nomark _)) (pe_cmpR (op_eqD hr.units) (pv 6) (pe_lst pa_nil) (nomark _)) (nomark _)) (pw_or1 (pt_cmpR op_ne (pe_cmpR op_isN (pv 5) pe_non (nomark _)) (pe_cmpR (op_eqD hr.units) (pv 8) (pe_lst pa_nil) (nomark _)) (nomark _))))) (pss_one (ps_ret pe_bl)) pss_nil)
      (pss_cons (ps_join (ps_if (PW.pt (pw_and (pt_cmpR op_notN (pv 5) pe_non (nomark _)) (pw_and1 (pt_not (pt_val (pe_call G_law_is_paper (hr.mono (by decide)) (by rfl) T.m_law_is_paper T.F_law_is_paper.kp T.b_law_is_paper .nil pass0 (pa_cons (pv 1) (pa_cons (pv 2) (pa_cons (pv 3) (pa_cons (pv 4) (pa_cons (pv 5) pa_nil))))))))))) (pss_one (ps_ret pe_bl)) pss_nil))
      (pss_cons (ps_par (i := 10) (j := 11) (by rfl) sc_law_right.nd rfl rfl (by decide) rfl rfl (pa_cons (pe_call G_law_two_to (hr.mono (by decide)) (by rfl) T.m_law_two_to T.F_law_two_to.kp T.b_law_two_to .nil pass0 (pa_cons (pv 1) pa_nil)) (pa_cons (pe_call G_law_two_to (hr.mono (by decide)) (by rfl) T.m_law_two_to T.F_law_two_to.kp T.b_law_two_to .nil pass0 (pa_cons (pv 3) pa_nil)) pa_nil)) (by rfl))
      (pss_cons (ps_set (i := 12) sc_law_right.nd rfl (Or.inl rfl) (pe_lst (pa_cons (pv 5) (pa_cons pe_non (pa_cons (pe_tup pa_nil) (pa_cons (pe_tup (pa_cons (pv 10) (pa_cons pe_int pa_nil))) (pa_cons (pe_tup (pa_cons pe_int (pa_cons (pv 11) pa_nil))) (pa_cons (pe_tup (pa_cons (pe_un un_neg pe_int) (pa_cons pe_int pa_nil))) (pa_cons (pe_tup (pa_cons (pe_op op_sub (pv 10) pe_int) (pa_cons pe_bl pa_nil))) (pa_cons (pe_lst (pa_cons (pe_op op_sub (pv 10) pe_int) (pa_cons pe_int pa_nil))) (pa_cons (pe_tup (pa_cons (pe_op op_sub (pv 10) pe_int) pa_nil)) (pa_cons (pe_tup (pa_cons pe_int (pa_cons (pe_un un_neg pe_int) pa_nil))) pa_nil))))))))))))
      (pss_cons (ps_for PassesOwn.never rfl (pi_range1 (by rfl) T.n_range (pa_cons pe_int pa_nil)) (pg_name (i := 13) sc_law_right.nd rfl (Or.inl rfl)) (pss_one (ps_expr (pe_bm PySem.F.plainAttrs_list PySem.F.slot_list_append PySem.F.type_list_append mt_append (pv 12) (pa_cons (pe_tup (pa_cons (pe_call G_law_one_of (hr.mono (by decide)) (by rfl) T.m_law_one_of T.F_law_one_of.kp T.b_law_one_of .nil pass0 (pa_cons (pv 0) (pa_cons (pe_lst (pa_cons (pe_op op_sub (pv 10) pe_int) (pa_cons (pe_call G_law_roll (hr.mono (by decide)) (by rfl) T.m_law_roll T.F_law_roll.kp T.b_law_roll .nil pass0 (pa_cons (pv 0) (pa_cons (pv 10) pa_nil))) pa_nil))) pa_nil))) (pa_cons (pe_call G_law_roll (hr.mono (by decide)) (by rfl) T.m_law_roll T.F_law_roll.kp T.b_law_roll .nil pass0 (pa_cons (pv 0) (pa_cons (pv 11) pa_nil))) pa_nil))) pa_nil)))))
      (pss_cons (ps_for PassesOwn.never rfl (pi_list (pv 12)) (pg_name (i := 14) sc_law_right.nd rfl (Or.inl rfl)) (pss_one (ps_if (pt_cmpR op_ne (pe_call G_is_rounds_paper (hr.mono (by decide)) (by rfl) T.m_is_rounds_paper T.F_is_rounds_paper.kp T.b_is_rounds_paper .nil pass0 (pa_cons (pv 1) (pa_cons (pv 2) (pa_cons (pv 3) (pa_cons (pv 4) (pa_cons (pv 14) pa_nil)))))) (pe_call G_law_is_paper (hr.mono (by decide)) (by rfl) T.m_law_is_paper T.F_law_is_paper.kp T.b_law_is_paper .nil pass0 (pa_cons (pv 1) (pa_cons (pv 2) (pa_cons (pv 3) (pa_cons (pv 4) (pa_cons (pv 14) pa_nil)))))) (nomark _)) (pss_one (ps_ret pe_bl)) pss_nil)))
      (pss_cons (ps_asg (pe_ix ix_list (pv 12) (pe_un un_neg pe_int) (fun _ _ => rfl)) (pg_tup (n := 2) rfl (pgs_cons (pg_name (i := 15) sc_law_right.nd rfl (Or.inl rfl)) (pgs_cons (pg_name (i := 16) sc_law_right.nd rfl (Or.inl rfl)) pgs_nil))))
      (pss_one (ps_ret (pe_cmpR op_eq (pe_call G_moved_by (hr.mono (by decide)) (by rfl) T.m_moved_by T.F_moved_by.kp T.b_moved_by .nil pass0 (pa_cons (pv 1) (pa_cons (pv 2) (pa_cons (pv 3) (pa_cons (pv 4) (pa_cons (pv 15) (pa_cons (pv 16) pa_nil))))))) (pe_call G_law_moved (hr.mono (by decide)) (by rfl) T.m_law_moved T.F_law_moved.kp T.b_law_moved .nil pass0 (pa_cons (pv 1) (pa_cons (pv 2) (pa_cons (pv 15) (pa_cons (pe_call G_law_by (hr.mono (by decide)) (by rfl) T.m_law_by T.F_law_by.kp T.b_law_by .nil pass0 (pa_cons (pv 4) (pa_cons (pv 16) pa_nil))) pa_nil))))) (nomark _))))))))))))))))), ?_⟩
    have big : (64 : Int) < 2 ^ 4000 := by decide +kernel
    have big2 : (2 : Int) ^ 32 < 2 ^ 4000 := by decide +kernel
    walk_at "rs"
    refine ⟨by decide, fun l hl => ?_⟩
    have e1 : ExD d H (upd H l (.lst [.int 8, .int 32])) := ExD.of (ex_upd hl)
    have d1 : DiceAt (upd H l (.lst [.int 8, .int 32])) d := hd.new hl
    have l1 : (upd H l (.lst [.int 8, .int 32])) l = some (.lst [.int 8, .int 32]) := upd_same
    have ndl := hd.ne hl
    generalize upd H l (.lst [.int 8, .int 32]) = H1 at e1 d1 l1 ⊢
    walk_at "rs"
    refine ⟨d, l, _, rfl, d1, ndl, .of l1, by simp, by simp, fun w x y z hw hx hy hz => ?_⟩
    obtain ⟨w, rfl, w0, w1⟩ : ∃ s : Int, w = .int s ∧ 1 ≤ s ∧ s ≤ 32 := by
      simp only [List.mem_cons, List.mem_nil_iff, or_false] at hw
      rcases hw with rfl | rfl <;> exact ⟨_, rfl, by omega, by omega⟩
    have d2 : DiceAt (upd H1 d (dice3 x y z)) d := dice_upd hx hy hz
    have e2 : ExD d H (upd H1 d (dice3 x y z)) := e1.trans exd_upd
    generalize upd H1 d (dice3 x y z) = H2 at d2 e2 ⊢
    refine ⟨d, _, rfl, d2, by omega, by omega, fun n0 x y z n00 n01 hx hy hz => ?_⟩
    obtain ⟨n, hn, hn1, hn2⟩ : ∃ n : Nat, (1 + n0 : Int) = n ∧ 1 ≤ n ∧ n ≤ 32 := ⟨(1 + n0).toNat, by omega, by omega, by omega⟩
    have d3 : DiceAt (upd H2 d (dice3 x y z)) d := dice_upd hx hy hz
    have e3 : ExD d H (upd H2 d (dice3 x y z)) := e2.trans exd_upd
    generalize upd H2 d (dice3 x y z) = H3 at d3 e3 ⊢
    refine ⟨n0, rfl, by decide, fun l hl => ?_⟩
    rw [hn]
    have d4 : DiceAt (upd H3 l (.lst [.str (Str.ofString "left"), .str (Str.ofString "right")])) d := d3.new hl
    have e4 := e3.trans (ExD.of (ex_upd (o := .lst [.str (Str.ofString "left"), .str (Str.ofString "right")]) hl))
    have l4 : (upd H3 l (.lst [.str (Str.ofString "left"), .str (Str.ofString "right")])) l = some (.lst [.str (Str.ofString "left"), .str (Str.ofString "right")]) := upd_same
    have ndl4 := d3.ne hl
    generalize upd H3 l (.lst [.str (Str.ofString "left"), .str (Str.ofString "right")]) = H4 at d4 e4 l4 ⊢
    refine ⟨d, l, _, rfl, d4, ndl4, .of l4, by simp, by simp, fun sd x y z hsd hx hy hz => ?_⟩
    obtain ⟨left, rfl⟩ : ∃ left : Bool, sd = sdV left := by
      simp only [List.mem_cons, List.mem_nil_iff, or_false] at hsd
      rcases hsd with rfl | rfl
      · exact ⟨true, rfl⟩
      · exact ⟨false, rfl⟩
    have d5 : DiceAt (upd H4 d (dice3 x y z)) d := dice_upd hx hy hz
    have e5 : ExD d H (upd H4 d (dice3 x y z)) := e4.trans exd_upd
    generalize upd H4 d (dice3 x y z) = H5 at d5 e5 ⊢
    refine ⟨by decide, fun p hp => ⟨_, .of upd_same, rfl, _, _, rfl, _, _, rfl, rfl, ?_⟩⟩
    have d6 := d5.new (o := .tup [.int n, sdV left]) hp
    have e6 := e5.trans (ExD.of (ex_upd (o := .tup [.int n, sdV left]) hp))
    generalize upd H5 p (.tup [.int n, sdV left]) = H6 at d6 e6 ⊢
    walk_at "rs"
    refine ⟨d, _, rfl, d6, by decide, by omega, fun m0 x y z m00 m01 hx hy hz => ?_⟩
    obtain ⟨m, hm, hm1, hm2⟩ : ∃ n : Nat, (1 + m0 : Int) = n ∧ 1 ≤ n ∧ n ≤ 6 := ⟨(1 + m0).toNat, by omega, by omega, by omega⟩
    have d7 : DiceAt (upd H6 d (dice3 x y z)) d := dice_upd hx hy hz
    have e7 : ExD d H (upd H6 d (dice3 x y z)) := e6.trans exd_upd
    generalize upd H6 d (dice3 x y z) = H7 at d7 e7 ⊢
    walk_at "rs"
    rw [hm]
    walk_at "rs"
    refine ⟨d, n, m, rfl, d7, hn1, hn2, hm1, hm2, fun r H8 xs rs e8 d8 hr8 hrs8 hin hlen => ?_⟩
    have g8 : RT H d r xs rs H8 := ⟨d8, hr8, hrs8, e7.trans e8⟩
    walk_at "rs"
    refine ⟨n, left, m, r, xs, rs, rfl, hn1, hn2, hm1, hm2, hr8, hrs8, hin, hlen, fun H9 told od x9 ht9 => ?_⟩
    have g9 := g8.ex x9
    have hm6 : (2 : Int) ^ m ≤ 2 ^ 6 := pow_le hm2
    have hqm := pow_pos' m
    walk_at "rs"
    obtain ⟨hdesc, hnon, hod, hne⟩ := ht9
    have pb : told ≠ .non → papB n left m rs od = true := fun hn => by
      rcases hod with rfl | ⟨b, hb, hbad, rfl⟩
      · exact absurd rfl (hne hn)
      · have p1 := pow_pos' b
        have p2 : (2 : Int) ^ (b + 1) ≤ 2 ^ m := pow_le (by omega)
        rw [Int.pow_succ] at p2
        have hw : 0 ≤ farW n left ∧ farW n left < 2 ^ n := by
          unfold farW
          have := pow_pos' (n - 1)
          have e : (2 : Int) ^ n = 2 ^ (n - 1) * 2 := by rw [← Int.pow_succ]; congr 1; omega
          cases left with
          | true => rw [if_pos rfl]; omega
          | false => rw [if_neg (by decide)]; omega
        show (decide _ && decide _) = true
        rw [decide_eq_true ⟨hw.1, hw.2, by omega, by omega⟩, decide_eq_true (far_tells hn1 (byOf_nn hin _).1 (by omega) hbad)]; rfl
    have bd : ∀ ys, od = some ys → ∀ i : Int, V.int i ∈ ys → -(10 ^ 60) < i ∧ i < 10 ^ 60 := fun ys hy i hi => by
      rcases hod with rfl | ⟨b, hb, hbad, rfl⟩
      · cases hy
      · cases hy
        have p1 := pow_pos' b
        have p2 : (2 : Int) ^ b ≤ 2 ^ 6 := pow_le (by omega)
        have p3 : (2 : Int) ^ (n - 1) ≤ 2 ^ 32 := pow_le (by omega)
        have p4 := pow_pos' (n - 1)
        simp only [List.mem_cons, List.mem_nil_iff, or_false, V.int.injEq] at hi
        rcases hi with rfl | rfl
        · unfold farW; split <;> omega
        · omega
    refine ⟨by decide, fun p hp => ?_⟩
    walk_at "rs"
    refine ⟨by omega, by omega, lpR m (fun i σ H' => Ex H9 H' ∧ ∃ (ws : List Int) (t7 : Option V), σ = [some (.ref d), some (.int n), some (sdV left), some (.int m), some (.ref r), some told, some (.ref p), t7, none, none, none, none, none, none, none, none, none] ∧ H' p = some (.lst (ws.map V.int)) ∧ (ws = [] ↔ ∀ b, b < i → mn n (byOf rs (2 ^ b)) = mn n (2 ^ b)) ∧ ws.length ≤ i) ⟨ex_upd hp, [], none, rfl, upd_same, ⟨fun _ b hb => absurd hb (Nat.not_lt_zero _), fun _ => rfl⟩, Nat.le_refl _⟩ ?_ ?_⟩
    · rintro i σ H' hi ⟨x10, ws, t7, rfl, hw, hiff, hwl⟩
      have g10 := g9.ex x10
      walk_at "rs"
      refine ⟨i, rfl, by omega, ?_⟩
      walk_at "rs"
      refine ⟨r, xs, rs, m, 2 ^ i, rfl, g10.2.1, g10.2.2.1, hin, by omega, hlen, fun H11 x11 => ?_⟩
      walk_at "rs"
      have x12 := x10.trans x11
      have hw2 := x11 _ _ hw
      have eb : ∀ z : Int, (if z < (n : Int) then z else (n : Int)) = mn n z := fun _ => rfl
      simp only [eb]
      refine ⟨i, rfl, by omega, _, rfl, ?_⟩
      by_cases hc : mn n (byOf rs (2 ^ i)) = mn n (2 ^ i)
      · rw [if_pos hc]
        refine ⟨x12, ws, hw2, ⟨fun h b hb => ?_, fun h => hiff.mpr fun b hb => h b (by omega)⟩, by omega⟩
        by_cases hbi : b = i
        · rw [hbi]; exact hc
        · exact hiff.mp h b (by omega)
      · rw [if_neg hc]
        refine ⟨.inl ⟨rfl, _, .of hw2⟩, p, _, _, rfl, rfl, hw2, by rw [List.length_map, sizeLine_eq]; omega, x12.mut hp, ws ++ [(i : Int)], ?_, ⟨fun h => ?_, fun h => absurd (h i (by omega)) hc⟩, by rw [List.length_append, List.length_singleton]; omega⟩
        · rw [upd_same, List.map_append]; rfl
        · simp at h
    rintro σ H10 ⟨x10, ws, t7, rfl, hw, hiff, hwl⟩
    have g10 := g9.ex x10
    walk_at "rs"
    refine ⟨m, rfl, by omega, ?_⟩
    walk_at "rs"
    refine ⟨by omega, by omega, fun D hD => ?_⟩
    refine lc_go (n := (2 ^ m : Int).toNat) walk_range (fun a => decide (mn n (byOf rs a) ≠ mn n a)) (fun a => .int a) (by omega) hD (fun _ _ => trivial) ?_ ?_
    · rintro k x H' H2' hk e ⟨rfl, rfl⟩ Qe Qn qe qn
      have g11 := g10.ex e
      walk_at "rs"
      refine ⟨r, xs, rs, m, _, rfl, g11.2.1, g11.2.2.1, hin, by omega, hlen, fun H5 x5 => ?_⟩
      have eb : ∀ z : Int, (if z < (n : Int) then z else (n : Int)) = mn n z := fun _ => rfl
      refine ⟨_, rfl, ?_⟩
      rw [Int.zero_add, eb, eb]
      by_cases hc : mn n (byOf rs k) = mn n k
      · rw [if_pos hc]; exact qn _ x5 (by simp [hc])
      · rw [if_neg hc]; exact qe _ x5 (by simp [hc])
    intro H11 x11 l11
    have x12 := x10.trans x11
    have g11 := g10.ex x11
    have hw11 := x11 _ _ hw
    generalize hev : kept (2 ^ m : Int).toNat (fun a => decide (mn n (byOf rs a) ≠ mn n a)) (fun a => V.int a) = ev at l11
    have hev2 : ∃ es : List Int, ev = es.map V.int ∧ (es = [] ↔ told = .non) := by
      refine ⟨((List.range (2 ^ m : Int).toNat).filter (fun (a : Nat) => decide (mn n (byOf rs a) ≠ mn n a))).map (fun (a : Nat) => (a : Int)), by rw [← hev, List.map_map]; rfl, ?_⟩
      rw [List.map_eq_nil_iff, List.filter_eq_nil_iff, hnon]
      constructor
      · intro h b hb
        have p1 := pow_pos' b
        have p2 : (2 : Int) ^ (b + 1) ≤ 2 ^ m := pow_le (by omega)
        rw [Int.pow_succ] at p2
        have := h ((2 : Int) ^ b).toNat (List.mem_range.mpr (by omega))
        rw [Int.toNat_of_nonneg (by omega)] at this
        simpa using this
      · intro h a ha
        have := List.mem_range.mp ha
        have := good_all (by omega) hin h (a := (a : Int)) (by omega) (by omega)
        simpa using this
    obtain ⟨es, rfl, hes⟩ := hev2
    walk_at "rs"
    refine ⟨by decide, fun p2 hp2 => ?_⟩
    have x13 := x12.trans (ex_upd (o := .lst []) hp2)
    refine eqD (d := lstD ws) (e := lstD []) (dp_lst (.of (ex_upd hp2 _ _ hw11))) (dp_lst (.of upd_same)) (sh_lst _) (sh_lst _) (b := decide (told = .non)) (by rw [eqv_lstD]; exact decide_eq_decide.mpr (hiff.trans hnon.symm)) ?_
    have l13 := ex_upd (o := .lst []) hp2 _ _ l11
    generalize upd H11 p2 (.lst []) = H13 at x13 l13 ⊢
    walk_at "rs"
    refine ⟨by decide, fun p3 hp3 => ?_⟩
    refine eqD (d := lstD es) (e := lstD []) (dp_lst (.of (ex_upd hp3 _ _ l13))) (dp_lst (.of upd_same)) (sh_lst _) (sh_lst _) (b := decide (told = .non)) (by rw [eqv_lstD]; exact decide_eq_decide.mpr hes) ?_
    have x14 := x13.trans (ex_upd (o := .lst []) hp3)
    generalize upd H13 p3 (.lst []) = H14 at x14 ⊢
    refine ⟨rfl, ?_⟩
    rw [if_pos rfl]
    walk_at "rs"
    have g14 := g9.ex x14
    have h14 := hdesc.ex x14
    refine ⟨fun σ' H' => σ' = [some (.ref d), some (.int n), some (sdV left), some (.int m), some (.ref r), some told, some (.ref p), t7, some (.ref D), none, none, none, none, none, none, none, none] ∧ Ex H9 H', ?_, ?_⟩
    · walk_at "rs"
      by_cases hc : told = .non
      · rw [if_pos hc]; exact x14
      · rw [if_neg hc]
        refine ⟨n, left, m, r, xs, rs, told, od, rfl, hn1, hn2, hm1, hm2, g14.2.1, g14.2.2.1, hin, hlen, h14, fun H5 x5 => ?_⟩
        rw [pb hc]
        refine ⟨true, rfl, ?_⟩
        walk_at "rs"
        exact x14.trans x5
    rintro σ H15 ⟨rfl, x15⟩
    have g15 := g9.ex x15
    have h15 := hdesc.ex x15
    walk_at "rs"
    refine ⟨n, rfl, by omega, m, rfl, by omega, ?_⟩
    walk_at "rs"
    refine ⟨by decide, fun q0 hq0 => ?_⟩
    have y0 := ex_upd (o := .tup []) hq0
    have u0 : (upd H15 q0 (.tup [])) q0 = some (.tup []) := upd_same
    generalize upd H15 q0 (.tup []) = K0 at y0 u0 ⊢
    refine ⟨by decide, fun q1 hq1 => ?_⟩
    have y1 := ex_upd (o := .tup [.int (2 ^ n), .int 1]) hq1
    have u1 : (upd K0 q1 (.tup [.int (2 ^ n), .int 1])) q1 = some (.tup [.int (2 ^ n), .int 1]) := upd_same
    generalize upd K0 q1 (.tup [.int (2 ^ n), .int 1]) = K1 at y1 u1 ⊢
    refine ⟨by decide, fun q2 hq2 => ?_⟩
    have y2 := ex_upd (o := .tup [.int 1, .int (2 ^ m)]) hq2
    have u2 : (upd K1 q2 (.tup [.int 1, .int (2 ^ m)])) q2 = some (.tup [.int 1, .int (2 ^ m)]) := upd_same
    generalize upd K1 q2 (.tup [.int 1, .int (2 ^ m)]) = K2 at y2 u2 ⊢
    refine ⟨by decide, fun q3 hq3 => ?_⟩
    have y3 := ex_upd (o := .tup [.int (-1), .int 1]) hq3
    have u3 : (upd K2 q3 (.tup [.int (-1), .int 1])) q3 = some (.tup [.int (-1), .int 1]) := upd_same
    generalize upd K2 q3 (.tup [.int (-1), .int 1]) = K3 at y3 u3 ⊢
    refine ⟨by decide, fun q4 hq4 => ?_⟩
    have y4 := ex_upd (o := .tup [.int (2 ^ n - 1), .bl true]) hq4
    have u4 : (upd K3 q4 (.tup [.int (2 ^ n - 1), .bl true])) q4 = some (.tup [.int (2 ^ n - 1), .bl true]) := upd_same
    generalize upd K3 q4 (.tup [.int (2 ^ n - 1), .bl true]) = K4 at y4 u4 ⊢
    refine ⟨by decide, fun q5 hq5 => ?_⟩
    have y5 := ex_upd (o := .lst [.int (2 ^ n - 1), .int 1]) hq5
    have u5 : (upd K4 q5 (.lst [.int (2 ^ n - 1), .int 1])) q5 = some (.lst [.int (2 ^ n - 1), .int 1]) := upd_same
    generalize upd K4 q5 (.lst [.int (2 ^ n - 1), .int 1]) = K5 at y5 u5 ⊢
    refine ⟨by decide, fun q6 hq6 => ?_⟩
    have y6 := ex_upd (o := .tup [.int (2 ^ n - 1)]) hq6
    have u6 : (upd K5 q6 (.tup [.int (2 ^ n - 1)])) q6 = some (.tup [.int (2 ^ n - 1)]) := upd_same
    generalize upd K5 q6 (.tup [.int (2 ^ n - 1)]) = K6 at y6 u6 ⊢
    refine ⟨by decide, fun q7 hq7 => ?_⟩
    have y7 := ex_upd (o := .tup [.int 0, .int (-1)]) hq7
    have u7 : (upd K6 q7 (.tup [.int 0, .int (-1)])) q7 = some (.tup [.int 0, .int (-1)]) := upd_same
    generalize upd K6 q7 (.tup [.int 0, .int (-1)]) = K7 at y7 u7 ⊢
    have z7 := y7
    have z6 := y6.trans z7
    have z5 := y5.trans z6
    have z4 := y4.trans z5
    have z3 := y3.trans z4
    have z2 := y2.trans z3
    have z1 := y1.trans z2
    have z0 := y0.trans z1
    refine ⟨by decide, fun L hL => ?_⟩
    have hL15 : H15 L = none := z0.fresh hL
    have ndL : d ≠ L := g15.1.ne hL15
    generalize hvs : ([told, .non, .ref q0, .ref q1, .ref q2, .ref q3, .ref q4, .ref q5, .ref q6, .ref q7] : List V) = vs0
    have v1 : VL H15 d L vs0 [od, none, some [], some [.int (2 ^ n), .int 1], some [.int 1, .int (2 ^ m)], some [.int (-1), .int 1], some [.int (2 ^ n - 1), .bl true], none, some [.int (2 ^ n - 1)], some [.int 0, .int (-1)]] (upd K7 L (.lst vs0)) := by
      have w := ex_upd (o := .lst vs0) hL
      refine ⟨(g15.1.ex z0).ex w, upd_same, ?_, ?_, ExD.of (z0.trans w)⟩
      · subst hvs
        refine .cons ((h15.ex z0).ex w) (.cons (.inl rfl) (.cons ⟨q0, rfl, w _ _ (z1 _ _ u0), by simp⟩ (.cons ⟨q1, rfl, w _ _ (z2 _ _ u1), by simp⟩ (.cons ⟨q2, rfl, w _ _ (z3 _ _ u2), by simp⟩ (.cons ⟨q3, rfl, w _ _ (z4 _ _ u3), by simp⟩ (.cons ⟨q4, rfl, w _ _ (z5 _ _ u4), by simp⟩ (.cons (.inr ⟨q5, _, _, rfl, w _ _ (z6 _ _ u5)⟩) (.cons ⟨q6, rfl, w _ _ (z7 _ _ u6), by simp⟩ (.cons ⟨q7, rfl, w _ _ u7, by simp⟩ .nil)))))))))
      · have hp32 : (2 : Int) ^ n ≤ 2 ^ 32 := pow_le hn2
        have hp0 := pow_pos' n
        intro o ho
        simp only [List.mem_cons, List.mem_nil_iff, or_false] at ho
        rcases ho with rfl | rfl | rfl | rfl | rfl | rfl | rfl | rfl | rfl | rfl
        · exact bd
        all_goals intro ys hy i hi; cases hy
        all_goals (simp only [List.mem_cons, List.mem_nil_iff, or_false, V.int.injEq, reduceCtorEq] at hi; try omega)
    generalize upd K7 L (.lst vs0) = H16 at v1 ⊢
    generalize hds : ([od, none, some [], some [.int (2 ^ n), .int 1], some [.int 1, .int (2 ^ m)], some [.int (-1), .int 1], some [.int (2 ^ n - 1), .bl true], none, some [.int (2 ^ n - 1)], some [.int 0, .int (-1)]] : List (Option (List V))) = ds0 at v1
    have hvl : vs0.length = 10 := by rw [← hvs]; rfl
    walk_at "rs"
    have hpn32 : (2 : Int) ^ n ≤ 2 ^ 32 := pow_le hn2
    have hpn0 := pow_pos' n
    have hw64 := pow64 (show n ≤ 64 by omega)
    refine ⟨by decide, by decide, lpR 6 (fun k σ H' => ∃ (vs : List V) (ds : List (Option (List V))) (t13 : Option V), σ = [some (.ref d), some (.int n), some (sdV left), some (.int m), some (.ref r), some told, some (.ref p), t7, some (.ref D), none, some (.int (2 ^ n)), some (.int (2 ^ m)), some (.ref L), t13, none, none, none] ∧ VL H15 d L vs ds H' ∧ 10 ≤ vs.length ∧ vs.length ≤ 10 + k ∧
      (0 < k → LastP n m vs H')) ⟨vs0, ds0, none, rfl, v1, by omega, by omega, fun h => absurd h (by decide)⟩ ?_ ?_⟩
    · rintro k σ H' hk ⟨vs, ds, t13, rfl, v2, c1, c2, _⟩
      walk_at "rs"
      refine ⟨.inl ⟨rfl, _, .of v2.2.1⟩, d, _, rfl, v2.1, hpn0, by omega, fun b x y z b0 b1 hx hy hz => ?_⟩
      have v3 := v2.dice ndL hx hy hz
      generalize upd H' d (dice3 x y z) = G3 at v3 ⊢
      refine ⟨by decide, fun l hl => ?_⟩
      have v4 := v3.ex (ex_upd (o := .lst [.int (2 ^ n - 1), .int b]) hl)
      have l4 : (upd G3 l (.lst [.int (2 ^ n - 1), .int b])) l = some (.lst [.int (2 ^ n - 1), .int b]) := upd_same
      have ndl := v3.1.ne hl
      generalize upd G3 l (.lst [.int (2 ^ n - 1), .int b]) = G4 at v4 l4 ⊢
      refine ⟨d, l, _, rfl, v4.1, ndl, .of l4, by simp, by simp, fun w x y z hw hx hy hz => ?_⟩
      obtain ⟨w, rfl, w0, w1⟩ : ∃ s : Int, w = .int s ∧ 0 ≤ s ∧ s < 2 ^ n := by
        simp only [List.mem_cons, List.mem_nil_iff, or_false] at hw
        rcases hw with rfl | rfl <;> exact ⟨_, rfl, by omega, by omega⟩
      have v5 := v4.dice ndL hx hy hz
      generalize upd G4 d (dice3 x y z) = G5 at v5 ⊢
      refine ⟨d, _, rfl, v5.1, hqm, by omega, fun a x y z a0 a1 hx hy hz => ?_⟩
      have v6 := v5.dice ndL hx hy hz
      generalize upd G5 d (dice3 x y z) = G6 at v6 ⊢
      refine ⟨by decide, fun u hu => ?_⟩
      have v7 := v6.ex (ex_upd (o := .tup [.int w, .int a]) hu)
      have u7 : (upd G6 u (.tup [.int w, .int a])) u = some (.tup [.int w, .int a]) := upd_same
      generalize upd G6 u (.tup [.int w, .int a]) = G7 at v7 u7 ⊢
      refine ⟨L, vs, _, rfl, rfl, v7.2.1, by rw [sizeLine_eq]; omega, vs ++ [.ref u], ⟨ds ++ [some [.int w, .int a]], v7.push ndL hL15 (by omega) (o := some [.int w, .int a]) ⟨u, rfl, u7, by simp⟩ (fun ys hy i hi => ?_)⟩, by rw [List.length_append, List.length_singleton]; omega, by rw [List.length_append, List.length_singleton]; omega, fun _ => ⟨vs, u, w, a, rfl, ?_, w0, w1, a0, a1⟩⟩
      · cases hy
        simp only [List.mem_cons, List.mem_nil_iff, or_false, V.int.injEq] at hi
        omega
      · rw [upd_ne (fun e => by rw [e, v7.2.1] at u7; cases u7)]; exact u7
    rintro σ G8 ⟨vs, ds, t13, rfl, v8, c1, c2, hlast⟩
    obtain ⟨vs', u, w, a, hvs', hu8, w0, w1, a0, a1⟩ := hlast (by decide)
    walk_at "rs"
    have g80 := g15.exd v8.2.2.2.2 v8.1
    refine ⟨⟨_, .of v8.2.1⟩, lpL (xs := vs) (fun k σ H' => Ex G8 H' ∧ ∃ t14 : Option V, σ = [some (.ref d), some (.int n), some (sdV left), some (.int m), some (.ref r), some told, some (.ref p), t7, some (.ref D), none, some (.int (2 ^ n)), some (.int (2 ^ m)), some (.ref L), t13, t14, none, none]) ⟨Ex.refl _, none, rfl⟩ (fun k σ' H' _ h => Or.inl (Or.inl (h.1 _ _ v8.2.1))) ?_ ?_⟩
    · rintro k v σ H' hv ⟨x9', t14, rfl⟩
      obtain ⟨o, ho, hvo⟩ := Paired.at' v8.2.2.1 hv
      have g9' := g80.ex x9'
      walk_at "rs"
      refine ⟨n, left, m, r, xs, rs, v, o, rfl, hn1, hn2, hm1, hm2, g9'.2.1, g9'.2.2.1, hin, hlen, hvo.ex x9', v8.2.2.2.1 o (List.mem_of_getElem? ho), fun H5 x5 => ?_⟩
      have g5 := g9'.ex x5
      refine ⟨n, left, m, r, xs, rs, v, o, rfl, hn1, hn2, hm1, hm2, g5.2.1, g5.2.2.1, hin, hlen, (hvo.ex x9').ex x5, fun H6 x6 => ?_⟩
      refine ⟨rfl, ?_⟩
      rw [if_pos rfl]
      walk_at "rs"
      exact (x9'.trans x5).trans x6
    rintro σ G9 ⟨x9', t14, rfl⟩
    have g9' := g80.ex x9'
    walk_at "rs"
    have hlv : atI vs (-1) = some (.ref u) := by rw [hvs']; exact atI_last _ _
    refine ixM (x9' _ _ v8.2.1) hlv ⟨u, rfl, _, .of (x9' _ _ hu8), rfl, _, _, rfl, _, _, rfl, rfl, ?_⟩
    refine ⟨n, left, m, r, xs, rs, w, a, rfl, hn1, hn2, hm1, hm2, g9'.2.1, g9'.2.2.1, hin, hlen, w0, w1, a0, a1, fun H5 x5 => ?_⟩
    have g5 := g9'.ex x5
    refine ⟨r, xs, rs, m, a, rfl, g5.2.1, g5.2.2.1, hin, by omega, hlen, fun H6 x6 => ?_⟩
    have g6 := g5.ex x6
    refine ⟨n, left, w, _, rfl, by omega, w0, w1, (byOf_nn hin a).1, rfl, ?_⟩
    rw [decide_eq_true rfl]
    exact q _ g6.2.2.2 g6.1
def sp_law (K : PySem.W.Frag) : Sp := fun vs H Q _ => ∃ (a : Addr) (ns : List Int), vs = [.ref a] ∧ SqL K H a (ns.map V.int) ∧ ns.length ≤ 63 ∧ ∀ H', Q (.bl true) H'
set_option maxHeartbeats 4000000 in
theorem ok_law (T : Txt K mg) : FnOk P w K mg base CX0 8 T.f_law T.d_law P_law (sp_law K) := by
  have G_law_dice := ok_law_dice (P := P) (w := w) (base := base) T
  have G_plain_rounds := ok_plain_rounds (P := P) (w := w) (base := base) T
  have G_rounds_paper := ok_rounds_paper (P := P) (w := w) (base := base) T
  have G_law_right := ok_law_right (P := P) (w := w) (base := base) T
  refine T.F_law.ok sc_law (fun vs H Q E h => ?_) (fun cdv A outer s H vs Q E hr h => ?_)
  · obtain ⟨a, ns, rfl, _⟩ := h; rfl
  · obtain ⟨a, ns, rfl, hS, hn, q⟩ := h
    refine ⟨_, (pss_cons (ps_for PassesOwn.never rfl (pi_range1 (by rfl) T.n_range (pa_cons (pe_callB (call_max2 rfl) (by rfl) T.n_max (by decide +kernel) (pa_cons pe_int (pa_cons (pe_callB (call_min2 rfl) (by rfl) T.n_min (by decide +kernel) (pa_cons pe_int (pa_cons (pe_callB call_len_seq (by rfl) T.n_len (by decide +kernel) (pa_cons (pv 0) pa_nil)) pa_nil))) pa_nil))) pa_nil)) (pg_name (i := 1) sc_law.nd rfl (Or.inl rfl)) (pss_cons (ps_set (i := 2) sc_law.nd rfl (Or.inl rfl) (pe_call G_law_dice (hr.mono (by decide)) (by rfl) T.m_law_dice T.F_law_dice.kp T.b_law_dice .nil pass0 (pa_cons (pv 0) (pa_cons (pv 1) pa_nil))))
      (pss_one (ps_for PassesOwn.never rfl (pi_range1 (by rfl) T.n_range (pa_cons pe_int pa_nil)) (pg_name (i := 3) sc_law.nd rfl (Or.inl rfl)) (pss_one (ps_if (pt_not (pt_val (pe_call G_law_right (hr.mono (by decide)) (by rfl) T.m_law_right T.F_law_right.kp T.b_law_right .nil pass0 (pa_cons (pv 2) pa_nil)))) (pss_one (ps_ret pe_bl)) pss_nil))))))
      (pss_cons (ps_if (pt_cmpR (op_neD hr.units) (pe_lc (own := [("many", 4)]) (g := gName 4) (tt := tYes) (by rfl) sc_law.nd (pi_tup (pe_tup (pa_cons pe_int (pa_cons pe_int pa_nil)))) (blkOk_by (own := [("many", 4)]) (N := N_law) (sc := defScope s_law) (by decide +kernel)) (fun _ _ _ _ _ => (pg_name (i := 4) sc_law.nd rfl (by first | exact Or.inl rfl | exact Or.inr rfl))) (fun _ _ _ _ _ => pts_nil) (fun _ _ _ _ _ => (pe_call G_plain_rounds (hr.mono (by decide)) (by rfl) T.m_plain_rounds T.F_plain_rounds.kp T.b_plain_rounds .nil pass0 (pa_cons (pv 4) pa_nil)))) (pe_lst (pa_cons (pe_tup (pa_cons (pe_tup (pa_cons pe_int (pa_cons pe_int pa_nil))) pa_nil)) (pa_cons (pe_tup (pa_cons (pe_tup (pa_cons pe_int (pa_cons pe_int pa_nil))) (pa_cons (pe_tup (pa_cons pe_int (pa_cons pe_int pa_nil))) (pa_cons (pe_tup (pa_cons pe_int (pa_cons pe_int pa_nil))) pa_nil)))) pa_nil))) (nomark _)) (pss_one (ps_ret pe_bl)) pss_nil)
      (pss_cons (ps_set (i := 5) sc_law.nd rfl (Or.inl rfl) (pe_tup (pa_cons (pe_tup (pa_cons pe_int (pa_cons pe_int pa_nil))) (pa_cons (pe_tup (pa_cons pe_int (pa_cons pe_int pa_nil))) (pa_cons (pe_tup (pa_cons pe_int (pa_cons pe_int pa_nil))) (pa_cons (pe_tup (pa_cons pe_int (pa_cons pe_int pa_nil))) (pa_cons (pe_tup (pa_cons pe_int (pa_cons pe_int pa_nil))) pa_nil)))))))
      (pss_one (ps_ret (pe_and (pe_cmpR op_notN (pe_call G_rounds_paper (hr.mono (by decide)) (by rfl) T.m_rounds_paper T.F_rounds_paper.kp T.b_rounds_paper .nil pass0 (pa_cons pe_int (pa_cons pe_str (pa_cons pe_int (pa_cons (pv 5) pa_nil))))) pe_non (nomark _)) (pe_one (pe_cmpR op_isN (pe_call G_rounds_paper (hr.mono (by decide)) (by rfl) T.m_rounds_paper T.F_rounds_paper.kp T.b_rounds_paper .nil pass0 (pa_cons pe_int (pa_cons pe_str (pa_cons pe_int (pa_cons (pv 5) pa_nil))))) pe_non (nomark _))))))))), ?_⟩
    walk_at "rd"
    refine ⟨_, .inl hS, ?_⟩
    rw [List.length_map]
    obtain ⟨c, hc, hc4⟩ : ∃ c : Nat, (if (if (ns.length : Int) < 4 then (ns.length : Int) else 4) > 1 then if (ns.length : Int) < 4 then (ns.length : Int) else 4 else 1) = (c : Int) ∧ c ≤ 64 := by
      by_cases h1 : (ns.length : Int) < 4
      · rw [if_pos h1]
        by_cases h2 : (ns.length : Int) > 1
        · exact ⟨ns.length, by rw [if_pos h2], by omega⟩
        · exact ⟨1, by rw [if_neg h2]; rfl, by omega⟩
      · rw [if_neg h1]
        exact ⟨4, by rw [if_pos (by decide)]; rfl, by omega⟩
    rw [hc]
    refine ⟨by omega, by omega, ?_⟩
    rw [Int.toNat_natCast]
    refine lpR c (fun k σ H' => Ex H H' ∧ ∃ t1 t2 t3, σ = [some (.ref a), t1, t2, t3, none, none]) ⟨Ex.refl _, none, none, none, rfl⟩ ?_ ?_
    · rintro k σ H1 hk ⟨e1, t1, t2, t3, rfl⟩
      walk_at "rd"
      refine ⟨a, ns, k, rfl, e1.seq hS, by omega, fun l m d hl hm hd => ?_⟩
      walk_at "rd"
      refine ⟨by decide, by decide, lpR 3 (fun j σ H' => Ex H H' ∧ DiceAt H' d ∧ ∃ t3, σ = [some (.ref a), some (.int k), some (.ref d), t3, none, none]) ⟨e1.trans (ex_upd hd), dice_upd hl hm (by decide), _, rfl⟩ ?_ ?_⟩
      · rintro j σ H2 hj ⟨e2, d2, t3, rfl⟩
        walk_at "rd"
        refine ⟨d, rfl, d2, fun H3 e3 d3 => ?_⟩
        walk_at "rd"
        refine ⟨fun b o hb => e3 b o ?_ (e2 b o hb), d3⟩
        exact ne_of_none (e1 b o hb) hd
      · rintro σ H2 ⟨e2, d2, t3, rfl⟩
        walk_at "rd"
        exact e2
    · rintro σ H1 ⟨e1, t1, t2, t3, rfl⟩
      walk_at "rs"
      refine ⟨by decide, fun t0 ht0 => ?_⟩
      have x2 := ex_upd (o := .tup [.int 1, .int 3]) ht0
      have l2 : (upd H1 t0 (.tup [.int 1, .int 3])) t0 = some (.tup [.int 1, .int 3]) := upd_same
      generalize upd H1 t0 (.tup [.int 1, .int 3]) = H2 at x2 l2 ⊢
      refine ⟨⟨_, .of l2⟩, fun D hD => ?_⟩
      refine lc_rel (walk_tup (xs := [.int 1, .int 3])) (fun H v i => tupR H v ((List.range (if i = 0 then 1 else 3)).map fun b => (b, 2 ^ b))) (fun _ _ _ _ e h => h.ex e) (fun _ _ _ _ _ _ hp h => h.mut hp) (by simp) hD (fun H' e => .of (e _ _ l2)) ?_ ?_
      · rintro k x H' H2' hk e ⟨rfl, hx⟩ Qe qe
        obtain ⟨mm, rfl, hm1, hm2⟩ : ∃ mm : Nat, x = .int mm ∧ (if k = 0 then 1 else 3) = mm ∧ 1 ≤ mm ∧ mm ≤ 6 := by
          have hk2 : k = 0 ∨ k = 1 := by simp at hk; omega
          rcases hk2 with rfl | rfl
          · exact ⟨1, (Option.some.inj hx).symm, rfl, by decide, by decide⟩
          · exact ⟨3, (Option.some.inj hx).symm, rfl, by decide, by decide⟩
        walk_at "rs"
        refine ⟨mm, rfl, hm2.1, hm2.2, fun r H5 xs x5 hr hrs => qe _ _ x5 ?_⟩
        rw [hm1]
        exact ⟨r, xs, rfl, hr, hrs⟩
      intro H3 ys x3 l3 p3
      have e23 : List.range ([V.int 1, V.int 3] : List V).length = [0, 1] := rfl
      rw [e23] at p3
      obtain ⟨v0, v1, rfl, t30, t31⟩ : ∃ v0 v1, ys = [v0, v1] ∧ tupR H3 v0 [(0, 1)] ∧ tupR H3 v1 [(0, 1), (1, 2), (2, 4)] := by
        cases p3 with
        | cons r1 p3 => cases p3 with
          | cons r2 p3 => cases p3 with
            | nil => exact ⟨_, _, rfl, r1, r2⟩
      walk_at "rs"
      refine ⟨by decide, fun a0 ha0 => ?_⟩
      have ya0 := ex_upd (o := .tup [.int 0, .int 1]) ha0
      have ua0 : (upd H3 a0 (.tup [.int 0, .int 1])) a0 = some (.tup [.int 0, .int 1]) := upd_same
      generalize upd H3 a0 (.tup [.int 0, .int 1]) = G0 at ya0 ua0 ⊢
      refine ⟨by decide, fun a1 ha1 => ?_⟩
      have ya1 := ex_upd (o := .tup [.ref a0]) ha1
      have ua1 : (upd G0 a1 (.tup [.ref a0])) a1 = some (.tup [.ref a0]) := upd_same
      generalize upd G0 a1 (.tup [.ref a0]) = G1 at ya1 ua1 ⊢
      refine ⟨by decide, fun a2 ha2 => ?_⟩
      have ya2 := ex_upd (o := .tup [.int 0, .int 1]) ha2
      have ua2 : (upd G1 a2 (.tup [.int 0, .int 1])) a2 = some (.tup [.int 0, .int 1]) := upd_same
      generalize upd G1 a2 (.tup [.int 0, .int 1]) = G2 at ya2 ua2 ⊢
      refine ⟨by decide, fun a3 ha3 => ?_⟩
      have ya3 := ex_upd (o := .tup [.int 1, .int 2]) ha3
      have ua3 : (upd G2 a3 (.tup [.int 1, .int 2])) a3 = some (.tup [.int 1, .int 2]) := upd_same
      generalize upd G2 a3 (.tup [.int 1, .int 2]) = G3 at ya3 ua3 ⊢
      refine ⟨by decide, fun a4 ha4 => ?_⟩
      have ya4 := ex_upd (o := .tup [.int 2, .int 4]) ha4
      have ua4 : (upd G3 a4 (.tup [.int 2, .int 4])) a4 = some (.tup [.int 2, .int 4]) := upd_same
      generalize upd G3 a4 (.tup [.int 2, .int 4]) = G4 at ya4 ua4 ⊢
      refine ⟨by decide, fun a5 ha5 => ?_⟩
      have ya5 := ex_upd (o := .tup [.ref a2, .ref a3, .ref a4]) ha5
      have ua5 : (upd G4 a5 (.tup [.ref a2, .ref a3, .ref a4])) a5 = some (.tup [.ref a2, .ref a3, .ref a4]) := upd_same
      generalize upd G4 a5 (.tup [.ref a2, .ref a3, .ref a4]) = G5 at ya5 ua5 ⊢
      refine ⟨by decide, fun a6 ha6 => ?_⟩
      have ya6 := ex_upd (o := .lst [.ref a1, .ref a5]) ha6
      have ua6 : (upd G5 a6 (.lst [.ref a1, .ref a5])) a6 = some (.lst [.ref a1, .ref a5]) := upd_same
      generalize upd G5 a6 (.lst [.ref a1, .ref a5]) = G6 at ya6 ua6 ⊢
      have za6 := ya6
      have za5 := ya5.trans za6
      have za4 := ya4.trans za5
      have za3 := ya3.trans za4
      have za2 := ya2.trans za3
      have za1 := ya1.trans za2
      have za0 := ya0.trans za1
      have w0 : tupR G6 (.ref a1) [(0, 1)] := ⟨a1, _, rfl, za2 _ _ ua1, .cons ⟨a0, rfl, za1 _ _ ua0⟩ .nil⟩
      have w1 : tupR G6 (.ref a5) [(0, 1), (1, 2), (2, 4)] := ⟨a5, _, rfl, za6 _ _ ua5, .cons ⟨a2, rfl, za3 _ _ ua2⟩ (.cons ⟨a3, rfl, za4 _ _ ua3⟩ (.cons ⟨a4, rfl, za5 _ _ ua4⟩ .nil))⟩
      refine neD (d := .list [prT [(0, 1)], prT [(0, 1), (1, 2), (2, 4)]]) (e := .list [prT [(0, 1)], prT [(0, 1), (1, 2), (2, 4)]]) (.lst (.of (za0 _ _ l3)) (.cons (t30.ex za0).dp (.cons (t31.ex za0).dp .nil))) (.lst (.of ua6) (.cons w0.dp (.cons w1.dp .nil))) (by decide) (by decide) (b := true) (by decide) ?_
      walk_at "rs"
      refine ⟨by decide, fun b0 hb0 => ?_⟩
      have yb0 := ex_upd (o := .tup [.int 3, .int 5]) hb0
      have ub0 : (upd G6 b0 (.tup [.int 3, .int 5])) b0 = some (.tup [.int 3, .int 5]) := upd_same
      generalize upd G6 b0 (.tup [.int 3, .int 5]) = F0 at yb0 ub0 ⊢
      refine ⟨by decide, fun b1 hb1 => ?_⟩
      have yb1 := ex_upd (o := .tup [.int 2, .int 64]) hb1
      have ub1 : (upd F0 b1 (.tup [.int 2, .int 64])) b1 = some (.tup [.int 2, .int 64]) := upd_same
      generalize upd F0 b1 (.tup [.int 2, .int 64]) = F1 at yb1 ub1 ⊢
      refine ⟨by decide, fun b2 hb2 => ?_⟩
      have yb2 := ex_upd (o := .tup [.int 0, .int 1]) hb2
      have ub2 : (upd F1 b2 (.tup [.int 0, .int 1])) b2 = some (.tup [.int 0, .int 1]) := upd_same
      generalize upd F1 b2 (.tup [.int 0, .int 1]) = F2 at yb2 ub2 ⊢
      refine ⟨by decide, fun b3 hb3 => ?_⟩
      have yb3 := ex_upd (o := .tup [.int 1, .int 1]) hb3
      have ub3 : (upd F2 b3 (.tup [.int 1, .int 1])) b3 = some (.tup [.int 1, .int 1]) := upd_same
      generalize upd F2 b3 (.tup [.int 1, .int 1]) = F3 at yb3 ub3 ⊢
      refine ⟨by decide, fun b4 hb4 => ?_⟩
      have yb4 := ex_upd (o := .tup [.int 1, .int 1]) hb4
      have ub4 : (upd F3 b4 (.tup [.int 1, .int 1])) b4 = some (.tup [.int 1, .int 1]) := upd_same
      generalize upd F3 b4 (.tup [.int 1, .int 1]) = F4 at yb4 ub4 ⊢
      refine ⟨by decide, fun b5 hb5 => ?_⟩
      have yb5 := ex_upd (o := .tup [.ref b0, .ref b1, .ref b2, .ref b3, .ref b4]) hb5
      have ub5 : (upd F4 b5 (.tup [.ref b0, .ref b1, .ref b2, .ref b3, .ref b4])) b5 = some (.tup [.ref b0, .ref b1, .ref b2, .ref b3, .ref b4]) := upd_same
      generalize upd F4 b5 (.tup [.ref b0, .ref b1, .ref b2, .ref b3, .ref b4]) = F5 at yb5 ub5 ⊢
      have zb5 := yb5
      have zb4 := yb4.trans zb5
      have zb3 := yb3.trans zb4
      have zb2 := yb2.trans zb3
      have zb1 := yb1.trans zb2
      have zb0 := yb0.trans zb1
      walk_at "rs"
      have wr : RsAt F5 [.ref b0, .ref b1, .ref b2, .ref b3, .ref b4] [(3, 5), (2, 64), (0, 1), (1, 1), (1, 1)] := .cons ⟨b0, rfl, zb1 _ _ ub0⟩ (.cons ⟨b1, rfl, zb2 _ _ ub1⟩ (.cons ⟨b2, rfl, zb3 _ _ ub2⟩ (.cons ⟨b3, rfl, zb4 _ _ ub3⟩ (.cons ⟨b4, rfl, zb5 _ _ ub4⟩ .nil))))
      have hin : RsIn 4 [(3, 5), (2, 64), (0, 1), (1, 1), (1, 1)] := fun p hp => by
        simp only [List.mem_cons, List.mem_nil_iff, or_false] at hp
        rcases hp with rfl | rfl | rfl | rfl | rfl <;> decide
      refine ⟨5, true, 4, b5, _, _, rfl, by decide, by decide, by decide, by decide, ub5, wr, hin, by decide, fun H7 v o x7 ht => ?_⟩
      have hv : v ≠ .non := fun h => absurd (ht.2.1.mp h 2 (by decide)) (by decide +kernel)
      walk_at "rs"
      rw [if_neg hv]
      refine ⟨4, false, 4, b5, _, _, rfl, by decide, by decide, by decide, by decide, x7 _ _ ub5, wr.ex x7, hin, by decide, fun H8 v2 o2 x8 ht2 => ?_⟩
      have hv2 : v2 = .non := ht2.2.1.mpr fun b hb => by
        have hb4 : b = 0 ∨ b = 1 ∨ b = 2 ∨ b = 3 := by omega
        rcases hb4 with rfl | rfl | rfl | rfl <;> decide +kernel
      show Q (.bl (decide (v2 = .non))) H8
      rw [decide_eq_true hv2]
      exact q _
end
theorem all_mk {l : PySem.W.OpenLaw} {w : World} {K : PySem.W.Frag} {h : Heap} {mg : Str → Option Value} {fa : Addr} (X : K.In h) (G : h.Ns mainGlobals mg) (hfa : mg "law" = some (.ref fa))
    {f0 : Addr} {od0 an0 : Option Addr} {sl0 : Array (Option Value)} {oc0 kV0 dc0 pm0 cd0 ct0 : Value}
    {f1 : Addr} {od1 an1 : Option Addr} {sl1 : Array (Option Value)} {oc1 kV1 dc1 pm1 cd1 ct1 : Value}
    {f2 : Addr} {od2 an2 : Option Addr} {sl2 : Array (Option Value)} {oc2 kV2 dc2 pm2 cd2 ct2 : Value}
    {f3 : Addr} {od3 an3 : Option Addr} {sl3 : Array (Option Value)} {oc3 kV3 dc3 pm3 cd3 ct3 : Value}
    {f4 : Addr} {od4 an4 : Option Addr} {sl4 : Array (Option Value)} {oc4 kV4 dc4 pm4 cd4 ct4 : Value}
    {f5 : Addr} {od5 an5 : Option Addr} {sl5 : Array (Option Value)} {oc5 kV5 dc5 pm5 cd5 ct5 : Value}
    {f6 : Addr} {od6 an6 : Option Addr} {sl6 : Array (Option Value)} {oc6 kV6 dc6 pm6 cd6 ct6 : Value}
    {f7 : Addr} {od7 an7 : Option Addr} {sl7 : Array (Option Value)} {oc7 kV7 dc7 pm7 cd7 ct7 : Value}
    {f8 : Addr} {od8 an8 : Option Addr} {sl8 : Array (Option Value)} {oc8 kV8 dc8 pm8 cd8 ct8 : Value}
    {f9 : Addr} {od9 an9 : Option Addr} {sl9 : Array (Option Value)} {oc9 kV9 dc9 pm9 cd9 ct9 : Value}
    {f10 : Addr} {od10 an10 : Option Addr} {sl10 : Array (Option Value)} {oc10 kV10 dc10 pm10 cd10 ct10 : Value}
    {f11 : Addr} {od11 an11 : Option Addr} {sl11 : Array (Option Value)} {oc11 kV11 dc11 pm11 cd11 ct11 : Value}
    {f12 : Addr} {od12 an12 : Option Addr} {sl12 : Array (Option Value)} {oc12 kV12 dc12 pm12 cd12 ct12 : Value}
    {f13 : Addr} {od13 an13 : Option Addr} {sl13 : Array (Option Value)} {oc13 kV13 dc13 pm13 cd13 ct13 : Value}
    {f14 : Addr} {od14 an14 : Option Addr} {sl14 : Array (Option Value)} {oc14 kV14 dc14 pm14 cd14 ct14 : Value}
    {f15 : Addr} {od15 an15 : Option Addr} {sl15 : Array (Option Value)} {oc15 kV15 dc15 pm15 cd15 ct15 : Value}
    {f16 : Addr} {od16 an16 : Option Addr} {sl16 : Array (Option Value)} {oc16 kV16 dc16 pm16 cd16 ct16 : Value}
    {f17 : Addr} {od17 an17 : Option Addr} {sl17 : Array (Option Value)} {oc17 kV17 dc17 pm17 cd17 ct17 : Value}
    {f18 : Addr} {od18 an18 : Option Addr} {sl18 : Array (Option Value)} {oc18 kV18 dc18 pm18 cd18 ct18 : Value}
    {f19 : Addr} {od19 an19 : Option Addr} {sl19 : Array (Option Value)} {oc19 kV19 dc19 pm19 cd19 ct19 : Value}
    {f20 : Addr} {od20 an20 : Option Addr} {sl20 : Array (Option Value)} {oc20 kV20 dc20 pm20 cd20 ct20 : Value}
    {f21 : Addr} {od21 an21 : Option Addr} {sl21 : Array (Option Value)} {oc21 kV21 dc21 pm21 cd21 ct21 : Value}
    {f22 : Addr} {od22 an22 : Option Addr} {sl22 : Array (Option Value)} {oc22 kV22 dc22 pm22 cd22 ct22 : Value}
    {f23 : Addr} {od23 an23 : Option Addr} {sl23 : Array (Option Value)} {oc23 kV23 dc23 pm23 cd23 ct23 : Value}
    {f24 : Addr} {od24 an24 : Option Addr} {sl24 : Array (Option Value)} {oc24 kV24 dc24 pm24 cd24 ct24 : Value}
    {f25 : Addr} {od25 an25 : Option Addr} {sl25 : Array (Option Value)} {oc25 kV25 dc25 pm25 cd25 ct25 : Value}
    {f26 : Addr} {od26 an26 : Option Addr} {sl26 : Array (Option Value)} {oc26 kV26 dc26 pm26 cd26 ct26 : Value}
    {uc_LEAST_TOO_LONG : Value}
    {uc_MAX_SHIFTED : Value}
    {uc_MAX_AMOUNT : Value}
    {uc_MAX_ROUNDS : Value}
    {uc_MAX_BY : Value}
    {uc_SIDES : Addr} {ob_SIDES : Obj} {its_SIDES : Array Value} {nn_SIDES : Nat}
    (a0 : PySem.W.nsIn K mainGlobals "is_integer" = some (some (.ref f0)))
    (l0 : K.lookup f0 = some ⟨oc0, od0, .func (PySem.W.fnOf "is_integer" "is_integer" (defArgs s_is_integer) (defBody s_is_integer) (defScope s_is_integer) .none kV0 dc0 pm0 an0 cd0 ct0), sl0⟩)
    (c0 : PySem.W.codeIn K cd0 "is_integer" = true) (k0 : PySem.W.keepIn K (.ref f0) = true)
    (a1 : PySem.W.nsIn K mainGlobals "is_between" = some (some (.ref f1)))
    (l1 : K.lookup f1 = some ⟨oc1, od1, .func (PySem.W.fnOf "is_between" "is_between" (defArgs s_is_between) (defBody s_is_between) (defScope s_is_between) .none kV1 dc1 pm1 an1 cd1 ct1), sl1⟩)
    (c1 : PySem.W.codeIn K cd1 "is_between" = true) (k1 : PySem.W.keepIn K (.ref f1) = true)
    (a2 : PySem.W.nsIn K mainGlobals "is_index" = some (some (.ref f2)))
    (l2 : K.lookup f2 = some ⟨oc2, od2, .func (PySem.W.fnOf "is_index" "is_index" (defArgs s_is_index) (defBody s_is_index) (defScope s_is_index) .none kV2 dc2 pm2 an2 cd2 ct2), sl2⟩)
    (c2 : PySem.W.codeIn K cd2 "is_index" = true) (k2 : PySem.W.keepIn K (.ref f2) = true)
    (a3 : PySem.W.nsIn K mainGlobals "is_word_of" = some (some (.ref f3)))
    (l3 : K.lookup f3 = some ⟨oc3, od3, .func (PySem.W.fnOf "is_word_of" "is_word_of" (defArgs s_is_word_of) (defBody s_is_word_of) (defScope s_is_word_of) .none kV3 dc3 pm3 an3 cd3 ct3), sl3⟩)
    (c3 : PySem.W.codeIn K cd3 "is_word_of" = true) (k3 : PySem.W.keepIn K (.ref f3) = true)
    (a4 : PySem.W.nsIn K mainGlobals "is_pair" = some (some (.ref f4)))
    (l4 : K.lookup f4 = some ⟨oc4, od4, .func (PySem.W.fnOf "is_pair" "is_pair" (defArgs s_is_pair) (defBody s_is_pair) (defScope s_is_pair) .none kV4 dc4 pm4 an4 cd4 ct4), sl4⟩)
    (c4 : PySem.W.codeIn K cd4 "is_pair" = true) (k4 : PySem.W.keepIn K (.ref f4) = true)
    (a5 : PySem.W.nsIn K mainGlobals "is_tuple_of" = some (some (.ref f5)))
    (l5 : K.lookup f5 = some ⟨oc5, od5, .func (PySem.W.fnOf "is_tuple_of" "is_tuple_of" (defArgs s_is_tuple_of) (defBody s_is_tuple_of) (defScope s_is_tuple_of) .none kV5 dc5 pm5 an5 cd5 ct5), sl5⟩)
    (c5 : PySem.W.codeIn K cd5 "is_tuple_of" = true) (k5 : PySem.W.keepIn K (.ref f5) = true)
    (a6 : PySem.W.nsIn K mainGlobals "check_number" = some (some (.ref f6)))
    (l6 : K.lookup f6 = some ⟨oc6, od6, .func (PySem.W.fnOf "check_number" "check_number" (defArgs s_check_number) (defBody s_check_number) (defScope s_check_number) .none kV6 dc6 pm6 an6 cd6 ct6), sl6⟩)
    (c6 : PySem.W.codeIn K cd6 "check_number" = true) (k6 : PySem.W.keepIn K (.ref f6) = true)
    (a7 : PySem.W.nsIn K mainGlobals "check_word" = some (some (.ref f7)))
    (l7 : K.lookup f7 = some ⟨oc7, od7, .func (PySem.W.fnOf "check_word" "check_word" (defArgs s_check_word) (defBody s_check_word) (defScope s_check_word) .none kV7 dc7 pm7 an7 cd7 ct7), sl7⟩)
    (c7 : PySem.W.codeIn K cd7 "check_word" = true) (k7 : PySem.W.keepIn K (.ref f7) = true)
    (a8 : PySem.W.nsIn K mainGlobals "is_shift_round" = some (some (.ref f8)))
    (l8 : K.lookup f8 = some ⟨oc8, od8, .func (PySem.W.fnOf "is_shift_round" "is_shift_round" (defArgs s_is_shift_round) (defBody s_is_shift_round) (defScope s_is_shift_round) .none kV8 dc8 pm8 an8 cd8 ct8), sl8⟩)
    (c8 : PySem.W.codeIn K cd8 "is_shift_round" = true) (k8 : PySem.W.keepIn K (.ref f8) = true)
    (a9 : PySem.W.nsIn K mainGlobals "check_rounds" = some (some (.ref f9)))
    (l9 : K.lookup f9 = some ⟨oc9, od9, .func (PySem.W.fnOf "check_rounds" "check_rounds" (defArgs s_check_rounds) (defBody s_check_rounds) (defScope s_check_rounds) .none kV9 dc9 pm9 an9 cd9 ct9), sl9⟩)
    (c9 : PySem.W.codeIn K cd9 "check_rounds" = true) (k9 : PySem.W.keepIn K (.ref f9) = true)
    (a10 : PySem.W.nsIn K mainGlobals "plain_rounds" = some (some (.ref f10)))
    (l10 : K.lookup f10 = some ⟨oc10, od10, .func (PySem.W.fnOf "plain_rounds" "plain_rounds" (defArgs s_plain_rounds) (defBody s_plain_rounds) (defScope s_plain_rounds) .none kV10 dc10 pm10 an10 cd10 ct10), sl10⟩)
    (c10 : PySem.W.codeIn K cd10 "plain_rounds" = true) (k10 : PySem.W.keepIn K (.ref f10) = true)
    (a11 : PySem.W.nsIn K mainGlobals "moved" = some (some (.ref f11)))
    (l11 : K.lookup f11 = some ⟨oc11, od11, .func (PySem.W.fnOf "moved" "moved" (defArgs s_moved) (defBody s_moved) (defScope s_moved) .none kV11 dc11 pm11 an11 cd11 ct11), sl11⟩)
    (c11 : PySem.W.codeIn K cd11 "moved" = true) (k11 : PySem.W.keepIn K (.ref f11) = true)
    (a12 : PySem.W.nsIn K mainGlobals "moved_in_rounds" = some (some (.ref f12)))
    (l12 : K.lookup f12 = some ⟨oc12, od12, .func (PySem.W.fnOf "moved_in_rounds" "moved_in_rounds" (defArgs s_moved_in_rounds) (defBody s_moved_in_rounds) (defScope s_moved_in_rounds) .none kV12 dc12 pm12 an12 cd12 ct12), sl12⟩)
    (c12 : PySem.W.codeIn K cd12 "moved_in_rounds" = true) (k12 : PySem.W.keepIn K (.ref f12) = true)
    (a13 : PySem.W.nsIn K mainGlobals "moved_by" = some (some (.ref f13)))
    (l13 : K.lookup f13 = some ⟨oc13, od13, .func (PySem.W.fnOf "moved_by" "moved_by" (defArgs s_moved_by) (defBody s_moved_by) (defScope s_moved_by) .none kV13 dc13 pm13 an13 cd13 ct13), sl13⟩)
    (c13 : PySem.W.codeIn K cd13 "moved_by" = true) (k13 : PySem.W.keepIn K (.ref f13) = true)
    (a14 : PySem.W.nsIn K mainGlobals "rounds_paper" = some (some (.ref f14)))
    (l14 : K.lookup f14 = some ⟨oc14, od14, .func (PySem.W.fnOf "rounds_paper" "rounds_paper" (defArgs s_rounds_paper) (defBody s_rounds_paper) (defScope s_rounds_paper) .none kV14 dc14 pm14 an14 cd14 ct14), sl14⟩)
    (c14 : PySem.W.codeIn K cd14 "rounds_paper" = true) (k14 : PySem.W.keepIn K (.ref f14) = true)
    (a15 : PySem.W.nsIn K mainGlobals "is_rounds_paper" = some (some (.ref f15)))
    (l15 : K.lookup f15 = some ⟨oc15, od15, .func (PySem.W.fnOf "is_rounds_paper" "is_rounds_paper" (defArgs s_is_rounds_paper) (defBody s_is_rounds_paper) (defScope s_is_rounds_paper) .none kV15 dc15 pm15 an15 cd15 ct15), sl15⟩)
    (c15 : PySem.W.codeIn K cd15 "is_rounds_paper" = true) (k15 : PySem.W.keepIn K (.ref f15) = true)
    (a16 : PySem.W.nsIn K mainGlobals "_law_dice" = some (some (.ref f16)))
    (l16 : K.lookup f16 = some ⟨oc16, od16, .func (PySem.W.fnOf "_law_dice" "_law_dice" (defArgs s_law_dice) (defBody s_law_dice) (defScope s_law_dice) .none kV16 dc16 pm16 an16 cd16 ct16), sl16⟩)
    (c16 : PySem.W.codeIn K cd16 "_law_dice" = true) (k16 : PySem.W.keepIn K (.ref f16) = true)
    (a17 : PySem.W.nsIn K mainGlobals "_law_roll" = some (some (.ref f17)))
    (l17 : K.lookup f17 = some ⟨oc17, od17, .func (PySem.W.fnOf "_law_roll" "_law_roll" (defArgs s_law_roll) (defBody s_law_roll) (defScope s_law_roll) .none kV17 dc17 pm17 an17 cd17 ct17), sl17⟩)
    (c17 : PySem.W.codeIn K cd17 "_law_roll" = true) (k17 : PySem.W.keepIn K (.ref f17) = true)
    (a18 : PySem.W.nsIn K mainGlobals "_law_one_of" = some (some (.ref f18)))
    (l18 : K.lookup f18 = some ⟨oc18, od18, .func (PySem.W.fnOf "_law_one_of" "_law_one_of" (defArgs s_law_one_of) (defBody s_law_one_of) (defScope s_law_one_of) .none kV18 dc18 pm18 an18 cd18 ct18), sl18⟩)
    (c18 : PySem.W.codeIn K cd18 "_law_one_of" = true) (k18 : PySem.W.keepIn K (.ref f18) = true)
    (a19 : PySem.W.nsIn K mainGlobals "_law_two_to" = some (some (.ref f19)))
    (l19 : K.lookup f19 = some ⟨oc19, od19, .func (PySem.W.fnOf "_law_two_to" "_law_two_to" (defArgs s_law_two_to) (defBody s_law_two_to) (defScope s_law_two_to) .none kV19 dc19 pm19 an19 cd19 ct19), sl19⟩)
    (c19 : PySem.W.codeIn K cd19 "_law_two_to" = true) (k19 : PySem.W.keepIn K (.ref f19) = true)
    (a20 : PySem.W.nsIn K mainGlobals "_law_mixed" = some (some (.ref f20)))
    (l20 : K.lookup f20 = some ⟨oc20, od20, .func (PySem.W.fnOf "_law_mixed" "_law_mixed" (defArgs s_law_mixed) (defBody s_law_mixed) (defScope s_law_mixed) .none kV20 dc20 pm20 an20 cd20 ct20), sl20⟩)
    (c20 : PySem.W.codeIn K cd20 "_law_mixed" = true) (k20 : PySem.W.keepIn K (.ref f20) = true)
    (a21 : PySem.W.nsIn K mainGlobals "_law_rounds_drawn" = some (some (.ref f21)))
    (l21 : K.lookup f21 = some ⟨oc21, od21, .func (PySem.W.fnOf "_law_rounds_drawn" "_law_rounds_drawn" (defArgs s_law_rounds_drawn) (defBody s_law_rounds_drawn) (defScope s_law_rounds_drawn) .none kV21 dc21 pm21 an21 cd21 ct21), sl21⟩)
    (c21 : PySem.W.codeIn K cd21 "_law_rounds_drawn" = true) (k21 : PySem.W.keepIn K (.ref f21) = true)
    (a22 : PySem.W.nsIn K mainGlobals "_law_moved" = some (some (.ref f22)))
    (l22 : K.lookup f22 = some ⟨oc22, od22, .func (PySem.W.fnOf "_law_moved" "_law_moved" (defArgs s_law_moved) (defBody s_law_moved) (defScope s_law_moved) .none kV22 dc22 pm22 an22 cd22 ct22), sl22⟩)
    (c22 : PySem.W.codeIn K cd22 "_law_moved" = true) (k22 : PySem.W.keepIn K (.ref f22) = true)
    (a23 : PySem.W.nsIn K mainGlobals "_law_by" = some (some (.ref f23)))
    (l23 : K.lookup f23 = some ⟨oc23, od23, .func (PySem.W.fnOf "_law_by" "_law_by" (defArgs s_law_by) (defBody s_law_by) (defScope s_law_by) .none kV23 dc23 pm23 an23 cd23 ct23), sl23⟩)
    (c23 : PySem.W.codeIn K cd23 "_law_by" = true) (k23 : PySem.W.keepIn K (.ref f23) = true)
    (a24 : PySem.W.nsIn K mainGlobals "_law_is_paper" = some (some (.ref f24)))
    (l24 : K.lookup f24 = some ⟨oc24, od24, .func (PySem.W.fnOf "_law_is_paper" "_law_is_paper" (defArgs s_law_is_paper) (defBody s_law_is_paper) (defScope s_law_is_paper) .none kV24 dc24 pm24 an24 cd24 ct24), sl24⟩)
    (c24 : PySem.W.codeIn K cd24 "_law_is_paper" = true) (k24 : PySem.W.keepIn K (.ref f24) = true)
    (a25 : PySem.W.nsIn K mainGlobals "_law_right" = some (some (.ref f25)))
    (l25 : K.lookup f25 = some ⟨oc25, od25, .func (PySem.W.fnOf "_law_right" "_law_right" (defArgs s_law_right) (defBody s_law_right) (defScope s_law_right) .none kV25 dc25 pm25 an25 cd25 ct25), sl25⟩)
    (c25 : PySem.W.codeIn K cd25 "_law_right" = true) (k25 : PySem.W.keepIn K (.ref f25) = true)
    (a26 : PySem.W.nsIn K mainGlobals "law" = some (some (.ref f26)))
    (l26 : K.lookup f26 = some ⟨oc26, od26, .func (PySem.W.fnOf "law" "law" (defArgs s_law) (defBody s_law) (defScope s_law) .none kV26 dc26 pm26 an26 cd26 ct26), sl26⟩)
    (c26 : PySem.W.codeIn K cd26 "law" = true) (k26 : PySem.W.keepIn K (.ref f26) = true)
    (z_abs : PySem.W.nsIn K mainGlobals "abs" = some none)
    (z_all : PySem.W.nsIn K mainGlobals "all" = some none)
    (z_bool : PySem.W.nsIn K mainGlobals "bool" = some none)
    (z_int : PySem.W.nsIn K mainGlobals "int" = some none)
    (z_isinstance : PySem.W.nsIn K mainGlobals "isinstance" = some none)
    (z_len : PySem.W.nsIn K mainGlobals "len" = some none)
    (z_list : PySem.W.nsIn K mainGlobals "list" = some none)
    (z_max : PySem.W.nsIn K mainGlobals "max" = some none)
    (z_min : PySem.W.nsIn K mainGlobals "min" = some none)
    (z_range : PySem.W.nsIn K mainGlobals "range" = some none)
    (z_sum : PySem.W.nsIn K mainGlobals "sum" = some none)
    (z_tuple : PySem.W.nsIn K mainGlobals "tuple" = some none)
    (g_LEAST_TOO_LONG : PySem.W.nsIn K mainGlobals "LEAST_TOO_LONG" = some (some uc_LEAST_TOO_LONG)) (gr_LEAST_TOO_LONG : RelV (.int 1000000000000000000000000000000000000000000000000000000000000) uc_LEAST_TOO_LONG)
    (g_MAX_SHIFTED : PySem.W.nsIn K mainGlobals "MAX_SHIFTED" = some (some uc_MAX_SHIFTED)) (gr_MAX_SHIFTED : RelV (.int 32) uc_MAX_SHIFTED)
    (g_MAX_AMOUNT : PySem.W.nsIn K mainGlobals "MAX_AMOUNT" = some (some uc_MAX_AMOUNT)) (gr_MAX_AMOUNT : RelV (.int 6) uc_MAX_AMOUNT)
    (g_MAX_ROUNDS : PySem.W.nsIn K mainGlobals "MAX_ROUNDS" = some (some uc_MAX_ROUNDS)) (gr_MAX_ROUNDS : RelV (.int 24) uc_MAX_ROUNDS)
    (g_MAX_BY : PySem.W.nsIn K mainGlobals "MAX_BY" = some (some uc_MAX_BY)) (gr_MAX_BY : RelV (.int 64) uc_MAX_BY)
    (g_SIDES : PySem.W.nsIn K mainGlobals "SIDES" = some (some (.ref uc_SIDES))) (h_SIDES : K.lookup uc_SIDES = some ob_SIDES) (i_SIDES : ob_SIDES.cls = .type "tuple") (j_SIDES : ob_SIDES.data = .seq its_SIDES nn_SIDES) (m_SIDES : its_SIDES.size ≤ sizeLine) (gv_SIDES : Vals [V.str "left", V.str "right"] its_SIDES.toList)
    : ∃ fd : FuncData, (∀ (s : Shared) (v : Value), BindsTo s fd ⟨[v], []⟩ [("script", v)]) ∧ ∀ base : Heap, K.In base → base.Ns mainGlobals mg → FnOk l.prog w K mg base CX0 8 fa fd ["script"] (sp_law K) := by
  have e := hfa.symm.trans (PySem.W.mg_of X G a26)
  cases e
  have F0 := fun_mk (st := s_is_integer) l0 c0 k0
  have b0 := F0.binds (ps := P_is_integer) fun _ _ _ _ _ _ us hl => match us, hl with | [_], _ => rfl
  have F1 := fun_mk (st := s_is_between) l1 c1 k1
  have b1 := F1.binds (ps := P_is_between) fun _ _ _ _ _ _ us hl => match us, hl with | [_, _, _], _ => rfl
  have F2 := fun_mk (st := s_is_index) l2 c2 k2
  have b2 := F2.binds (ps := P_is_index) fun _ _ _ _ _ _ us hl => match us, hl with | [_, _], _ => rfl
  have F3 := fun_mk (st := s_is_word_of) l3 c3 k3
  have b3 := F3.binds (ps := P_is_word_of) fun _ _ _ _ _ _ us hl => match us, hl with | [_, _], _ => rfl
  have F4 := fun_mk (st := s_is_pair) l4 c4 k4
  have b4 := F4.binds (ps := P_is_pair) fun _ _ _ _ _ _ us hl => match us, hl with | [_], _ => rfl
  have F5 := fun_mk (st := s_is_tuple_of) l5 c5 k5
  have b5 := F5.binds (ps := P_is_tuple_of) fun _ _ _ _ _ _ us hl => match us, hl with | [_, _, _], _ => rfl
  have F6 := fun_mk (st := s_check_number) l6 c6 k6
  have b6 := F6.binds (ps := P_check_number) fun _ _ _ _ _ _ us hl => match us, hl with | [_, _, _], _ => rfl
  have F7 := fun_mk (st := s_check_word) l7 c7 k7
  have b7 := F7.binds (ps := P_check_word) fun _ _ _ _ _ _ us hl => match us, hl with | [_, _], _ => rfl
  have F8 := fun_mk (st := s_is_shift_round) l8 c8 k8
  have b8 := F8.binds (ps := P_is_shift_round) fun _ _ _ _ _ _ us hl => match us, hl with | [_, _], _ => rfl
  have F9 := fun_mk (st := s_check_rounds) l9 c9 k9
  have b9 := F9.binds (ps := P_check_rounds) fun _ _ _ _ _ _ us hl => match us, hl with | [_, _, _, _], _ => rfl
  have F10 := fun_mk (st := s_plain_rounds) l10 c10 k10
  have b10 := F10.binds (ps := P_plain_rounds) fun _ _ _ _ _ _ us hl => match us, hl with | [_], _ => rfl
  have F11 := fun_mk (st := s_moved) l11 c11 k11
  have b11 := F11.binds (ps := P_moved) fun _ _ _ _ _ _ us hl => match us, hl with | [_, _, _, _], _ => rfl
  have F12 := fun_mk (st := s_moved_in_rounds) l12 c12 k12
  have b12 := F12.binds (ps := P_moved_in_rounds) fun _ _ _ _ _ _ us hl => match us, hl with | [_, _, _, _, _], _ => rfl
  have F13 := fun_mk (st := s_moved_by) l13 c13 k13
  have b13 := F13.binds (ps := P_moved_by) fun _ _ _ _ _ _ us hl => match us, hl with | [_, _, _, _, _, _], _ => rfl
  have F14 := fun_mk (st := s_rounds_paper) l14 c14 k14
  have b14 := F14.binds (ps := P_rounds_paper) fun _ _ _ _ _ _ us hl => match us, hl with | [_, _, _, _], _ => rfl
  have F15 := fun_mk (st := s_is_rounds_paper) l15 c15 k15
  have b15 := F15.binds (ps := P_is_rounds_paper) fun _ _ _ _ _ _ us hl => match us, hl with | [_, _, _, _, _], _ => rfl
  have F16 := fun_mk (st := s_law_dice) l16 c16 k16
  have b16 := F16.binds (ps := P_law_dice) fun _ _ _ _ _ _ us hl => match us, hl with | [_, _], _ => rfl
  have F17 := fun_mk (st := s_law_roll) l17 c17 k17
  have b17 := F17.binds (ps := P_law_roll) fun _ _ _ _ _ _ us hl => match us, hl with | [_, _], _ => rfl
  have F18 := fun_mk (st := s_law_one_of) l18 c18 k18
  have b18 := F18.binds (ps := P_law_one_of) fun _ _ _ _ _ _ us hl => match us, hl with | [_, _], _ => rfl
  have F19 := fun_mk (st := s_law_two_to) l19 c19 k19
  have b19 := F19.binds (ps := P_law_two_to) fun _ _ _ _ _ _ us hl => match us, hl with | [_], _ => rfl
  have F20 := fun_mk (st := s_law_mixed) l20 c20 k20
  have b20 := F20.binds (ps := P_law_mixed) fun _ _ _ _ _ _ us hl => match us, hl with | [_, _], _ => rfl
  have F21 := fun_mk (st := s_law_rounds_drawn) l21 c21 k21
  have b21 := F21.binds (ps := P_law_rounds_drawn) fun _ _ _ _ _ _ us hl => match us, hl with | [_, _, _], _ => rfl
  have F22 := fun_mk (st := s_law_moved) l22 c22 k22
  have b22 := F22.binds (ps := P_law_moved) fun _ _ _ _ _ _ us hl => match us, hl with | [_, _, _, _], _ => rfl
  have F23 := fun_mk (st := s_law_by) l23 c23 k23
  have b23 := F23.binds (ps := P_law_by) fun _ _ _ _ _ _ us hl => match us, hl with | [_, _], _ => rfl
  have F24 := fun_mk (st := s_law_is_paper) l24 c24 k24
  have b24 := F24.binds (ps := P_law_is_paper) fun _ _ _ _ _ _ us hl => match us, hl with | [_, _, _, _, _], _ => rfl
  have F25 := fun_mk (st := s_law_right) l25 c25 k25
  have b25 := F25.binds (ps := P_law_right) fun _ _ _ _ _ _ us hl => match us, hl with | [_], _ => rfl
  have F26 := fun_mk (st := s_law) l26 c26 k26
  have b26 := F26.binds (ps := P_law) fun _ _ _ _ _ _ us hl => match us, hl with | [_], _ => rfl
  let T : Txt K mg := { f_is_integer := f0, d_is_integer := _, F_is_integer := F0, b_is_integer := b0, m_is_integer := PySem.W.mg_of X G a0, f_is_between := f1, d_is_between := _, F_is_between := F1, b_is_between := b1, m_is_between := PySem.W.mg_of X G a1, f_is_index := f2, d_is_index := _, F_is_index := F2, b_is_index := b2, m_is_index := PySem.W.mg_of X G a2, f_is_word_of := f3, d_is_word_of := _, F_is_word_of := F3, b_is_word_of := b3, m_is_word_of := PySem.W.mg_of X G a3, f_is_pair := f4, d_is_pair := _, F_is_pair := F4, b_is_pair := b4, m_is_pair := PySem.W.mg_of X G a4, f_is_tuple_of := f5, d_is_tuple_of := _, F_is_tuple_of := F5, b_is_tuple_of := b5, m_is_tuple_of := PySem.W.mg_of X G a5, f_check_number := f6, d_check_number := _, F_check_number := F6, b_check_number := b6, m_check_number := PySem.W.mg_of X G a6, f_check_word := f7, d_check_word := _, F_check_word := F7, b_check_word := b7, m_check_word := PySem.W.mg_of X G a7, f_is_shift_round := f8, d_is_shift_round := _, F_is_shift_round := F8, b_is_shift_round := b8, m_is_shift_round := PySem.W.mg_of X G a8, f_check_rounds := f9, d_check_rounds := _, F_check_rounds := F9, b_check_rounds := b9, m_check_rounds := PySem.W.mg_of X G a9, f_plain_rounds := f10, d_plain_rounds := _, F_plain_rounds := F10, b_plain_rounds := b10, m_plain_rounds := PySem.W.mg_of X G a10, f_moved := f11, d_moved := _, F_moved := F11, b_moved := b11, m_moved := PySem.W.mg_of X G a11, f_moved_in_rounds := f12, d_moved_in_rounds := _, F_moved_in_rounds := F12, b_moved_in_rounds := b12, m_moved_in_rounds := PySem.W.mg_of X G a12, f_moved_by := f13, d_moved_by := _, F_moved_by := F13, b_moved_by := b13, m_moved_by := PySem.W.mg_of X G a13, f_rounds_paper := f14, d_rounds_paper := _, F_rounds_paper := F14, b_rounds_paper := b14, m_rounds_paper := PySem.W.mg_of X G a14, f_is_rounds_paper := f15, d_is_rounds_paper := _, F_is_rounds_paper := F15, b_is_rounds_paper := b15, m_is_rounds_paper := PySem.W.mg_of X G a15, f_law_dice := f16, d_law_dice := _, F_law_dice := F16, b_law_dice := b16, m_law_dice := PySem.W.mg_of X G a16, f_law_roll := f17, d_law_roll := _, F_law_roll := F17, b_law_roll := b17, m_law_roll := PySem.W.mg_of X G a17, f_law_one_of := f18, d_law_one_of := _, F_law_one_of := F18, b_law_one_of := b18, m_law_one_of := PySem.W.mg_of X G a18, f_law_two_to := f19, d_law_two_to := _, F_law_two_to := F19, b_law_two_to := b19, m_law_two_to := PySem.W.mg_of X G a19, f_law_mixed := f20, d_law_mixed := _, F_law_mixed := F20, b_law_mixed := b20, m_law_mixed := PySem.W.mg_of X G a20, f_law_rounds_drawn := f21, d_law_rounds_drawn := _, F_law_rounds_drawn := F21, b_law_rounds_drawn := b21, m_law_rounds_drawn := PySem.W.mg_of X G a21, f_law_moved := f22, d_law_moved := _, F_law_moved := F22, b_law_moved := b22, m_law_moved := PySem.W.mg_of X G a22, f_law_by := f23, d_law_by := _, F_law_by := F23, b_law_by := b23, m_law_by := PySem.W.mg_of X G a23, f_law_is_paper := f24, d_law_is_paper := _, F_law_is_paper := F24, b_law_is_paper := b24, m_law_is_paper := PySem.W.mg_of X G a24, f_law_right := f25, d_law_right := _, F_law_right := F25, b_law_right := b25, m_law_right := PySem.W.mg_of X G a25, f_law := fa, d_law := _, F_law := F26, b_law := b26, m_law := PySem.W.mg_of X G a26, n_abs := PySem.W.mg_none_of X G z_abs, n_all := PySem.W.mg_none_of X G z_all, n_bool := PySem.W.mg_none_of X G z_bool, n_int := PySem.W.mg_none_of X G z_int, n_isinstance := PySem.W.mg_none_of X G z_isinstance, n_len := PySem.W.mg_none_of X G z_len, n_list := PySem.W.mg_none_of X G z_list, n_max := PySem.W.mg_none_of X G z_max, n_min := PySem.W.mg_none_of X G z_min, n_range := PySem.W.mg_none_of X G z_range, n_sum := PySem.W.mg_none_of X G z_sum, n_tuple := PySem.W.mg_none_of X G z_tuple, u_LEAST_TOO_LONG := uc_LEAST_TOO_LONG, c_LEAST_TOO_LONG := PySem.W.mg_of X G g_LEAST_TOO_LONG, r_LEAST_TOO_LONG := gr_LEAST_TOO_LONG, u_MAX_SHIFTED := uc_MAX_SHIFTED, c_MAX_SHIFTED := PySem.W.mg_of X G g_MAX_SHIFTED, r_MAX_SHIFTED := gr_MAX_SHIFTED, u_MAX_AMOUNT := uc_MAX_AMOUNT, c_MAX_AMOUNT := PySem.W.mg_of X G g_MAX_AMOUNT, r_MAX_AMOUNT := gr_MAX_AMOUNT, u_MAX_ROUNDS := uc_MAX_ROUNDS, c_MAX_ROUNDS := PySem.W.mg_of X G g_MAX_ROUNDS, r_MAX_ROUNDS := gr_MAX_ROUNDS, u_MAX_BY := uc_MAX_BY, c_MAX_BY := PySem.W.mg_of X G g_MAX_BY, r_MAX_BY := gr_MAX_BY, u_SIDES := uc_SIDES, c_SIDES := PySem.W.mg_of X G g_SIDES, t_SIDES := fun H => .inr ⟨ob_SIDES, its_SIDES, nn_SIDES, h_SIDES, i_SIDES, j_SIDES, m_SIDES, gv_SIDES⟩ }
  exact ⟨_, fun s v => .of_eq rfl, fun base _ _ => ok_law T⟩
end TB
open PySem PySem.W PyProof.Rows
set_option maxRecDepth 100000 in
set_option maxHeartbeats 0 in
theorem PySem.Challenge.cw_truebeat_k21_whole_rounds_that_shift_holds : PySem.Challenge.rw_truebeat_k21_whole_rounds_that_shift.Holds := by
  w_on; o_law; k_head; (case hw => w_witness2)
  k_fill
  refine L2.walk_of (l := PySem.Challenge.rw_truebeat_k21_whole_rounds_that_shift) (n := 63) (k := 8) (x := "script") (CX := fun _ => L2.CX0) (sp := fun w => TB.sp_law _) rfl (by decide) rfl ⟨rfl, by decide, by decide⟩ (fun w h Y => PySem.W.kIn_of Y) ?F (fun _ _ a ns hl _ hS => ⟨a, ns, rfl, hS, hl, fun _ => rfl⟩) (fun _ _ _ _ _ h => h)
  case F =>
    intro w mg fa h KX G hmg
    refine' TB.all_mk KX G hmg ?a0 ?l0 ?c0 ?k0 ?a1 ?l1 ?c1 ?k1 ?a2 ?l2 ?c2 ?k2 ?a3 ?l3 ?c3 ?k3 ?a4 ?l4 ?c4 ?k4 ?a5 ?l5 ?c5 ?k5 ?a6 ?l6 ?c6 ?k6 ?a7 ?l7 ?c7 ?k7 ?a8 ?l8 ?c8 ?k8 ?a9 ?l9 ?c9 ?k9 ?a10 ?l10 ?c10 ?k10 ?a11 ?l11 ?c11 ?k11 ?a12 ?l12 ?c12 ?k12 ?a13 ?l13 ?c13 ?k13 ?a14 ?l14 ?c14 ?k14 ?a15 ?l15 ?c15 ?k15 ?a16 ?l16 ?c16 ?k16 ?a17 ?l17 ?c17 ?k17 ?a18 ?l18 ?c18 ?k18 ?a19 ?l19 ?c19 ?k19 ?a20 ?l20 ?c20 ?k20 ?a21 ?l21 ?c21 ?k21 ?a22 ?l22 ?c22 ?k22 ?a23 ?l23 ?c23 ?k23 ?a24 ?l24 ?c24 ?k24 ?a25 ?l25 ?c25 ?k25 ?a26 ?l26 ?c26 ?k26 ?z_abs ?z_all ?z_bool ?z_int ?z_isinstance ?z_len ?z_list ?z_max ?z_min ?z_range ?z_sum ?z_tuple ?g_LEAST_TOO_LONG ?gr_LEAST_TOO_LONG ?g_MAX_SHIFTED ?gr_MAX_SHIFTED ?g_MAX_AMOUNT ?gr_MAX_AMOUNT ?g_MAX_ROUNDS ?gr_MAX_ROUNDS ?g_MAX_BY ?gr_MAX_BY ?g_SIDES ?h_SIDES ?i_SIDES ?j_SIDES ?m_SIDES ?gv_SIDES
    (case a0 => k_is)
    (case l0 => k_is)
    (case c0 => k_is)
    (case k0 => k_is)
    (case a1 => k_is)
    (case l1 => k_is)
    (case c1 => k_is)
    (case k1 => k_is)
    (case a2 => k_is)
    (case l2 => k_is)
    (case c2 => k_is)
    (case k2 => k_is)
    (case a3 => k_is)
    (case l3 => k_is)
    (case c3 => k_is)
    (case k3 => k_is)
    (case a4 => k_is)
    (case l4 => k_is)
    (case c4 => k_is)
    (case k4 => k_is)
    (case a5 => k_is)
    (case l5 => k_is)
    (case c5 => k_is)
    (case k5 => k_is)
    (case a6 => k_is)
    (case l6 => k_is)
    (case c6 => k_is)
    (case k6 => k_is)
    (case a7 => k_is)
    (case l7 => k_is)
    (case c7 => k_is)
    (case k7 => k_is)
    (case a8 => k_is)
    (case l8 => k_is)
    (case c8 => k_is)
    (case k8 => k_is)
    (case a9 => k_is)
    (case l9 => k_is)
    (case c9 => k_is)
    (case k9 => k_is)
    (case a10 => k_is)
    (case l10 => k_is)
    (case c10 => k_is)
    (case k10 => k_is)
    (case a11 => k_is)
    (case l11 => k_is)
    (case c11 => k_is)
    (case k11 => k_is)
    (case a12 => k_is)
    (case l12 => k_is)
    (case c12 => k_is)
    (case k12 => k_is)
    (case a13 => k_is)
    (case l13 => k_is)
    (case c13 => k_is)
    (case k13 => k_is)
    (case a14 => k_is)
    (case l14 => k_is)
    (case c14 => k_is)
    (case k14 => k_is)
    (case a15 => k_is)
    (case l15 => k_is)
    (case c15 => k_is)
    (case k15 => k_is)
    (case a16 => k_is)
    (case l16 => k_is)
    (case c16 => k_is)
    (case k16 => k_is)
    (case a17 => k_is)
    (case l17 => k_is)
    (case c17 => k_is)
    (case k17 => k_is)
    (case a18 => k_is)
    (case l18 => k_is)
    (case c18 => k_is)
    (case k18 => k_is)
    (case a19 => k_is)
    (case l19 => k_is)
    (case c19 => k_is)
    (case k19 => k_is)
    (case a20 => k_is)
    (case l20 => k_is)
    (case c20 => k_is)
    (case k20 => k_is)
    (case a21 => k_is)
    (case l21 => k_is)
    (case c21 => k_is)
    (case k21 => k_is)
    (case a22 => k_is)
    (case l22 => k_is)
    (case c22 => k_is)
    (case k22 => k_is)
    (case a23 => k_is)
    (case l23 => k_is)
    (case c23 => k_is)
    (case k23 => k_is)
    (case a24 => k_is)
    (case l24 => k_is)
    (case c24 => k_is)
    (case k24 => k_is)
    (case a25 => k_is)
    (case l25 => k_is)
    (case c25 => k_is)
    (case k25 => k_is)
    (case a26 => k_is)
    (case l26 => k_is)
    (case c26 => k_is)
    (case k26 => k_is)
    (case z_abs => k_is)
    (case z_all => k_is)
    (case z_bool => k_is)
    (case z_int => k_is)
    (case z_isinstance => k_is)
    (case z_len => k_is)
    (case z_list => k_is)
    (case z_max => k_is)
    (case z_min => k_is)
    (case z_range => k_is)
    (case z_sum => k_is)
    (case z_tuple => k_is)
    (case g_LEAST_TOO_LONG => k_is)
    (case gr_LEAST_TOO_LONG => exact ⟨_, rfl⟩)
    (case g_MAX_SHIFTED => k_is)
    (case gr_MAX_SHIFTED => exact ⟨_, rfl⟩)
    (case g_MAX_AMOUNT => k_is)
    (case gr_MAX_AMOUNT => exact ⟨_, rfl⟩)
    (case g_MAX_ROUNDS => k_is)
    (case gr_MAX_ROUNDS => exact ⟨_, rfl⟩)
    (case g_MAX_BY => k_is)
    (case gr_MAX_BY => exact ⟨_, rfl⟩)
    (case g_SIDES => k_is)
    (case h_SIDES => k_is)
    (case i_SIDES => rfl)
    (case j_SIDES => rfl)
    (case m_SIDES => decide)
    (case gv_SIDES => exact .cons ⟨_, rfl⟩ (.cons ⟨_, rfl⟩ (.nil)))
#print axioms PySem.Challenge.cw_truebeat_k21_whole_rounds_that_shift_holds
