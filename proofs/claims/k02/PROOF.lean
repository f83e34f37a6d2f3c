import PyProof.Rows.All
import Wide.All
import OpenK.AllK
import Wide.FinOn
import HandS.ForMost
import HandS.Wide
import HandS.Evl
import HandS.Defaults
import HandS.Style
import HandS.Walk
import HandS.IsInst
import HandS.WideBits
import HandS.TupAny
import KE.GoesEnum
import HandS.TupMul
import KE.KDictDisplayH
import KE.DataMinMax
import HandS.DictComp
import HandS.Conv
import HandS.More
import HandS.CallLocal
import PySem.Challenge.RW_truebeat_k02_whole_products_and_quotient
set_option Elab.async false
set_option linter.all false
set_option maxRecDepth 100000
set_option maxHeartbeats 1000000
namespace TB
open PySem L2 PySem.W
theorem cxK {CX : CXT} {P : Program} {w : World} {K : PySem.W.Frag} {mg : Str → Option Value} {base : Heap} {N : List Str} {qual : Str} {scope : Scope} {f : Addr} {cd : Value} {A : Around} {outer : List Env} {s : Shared} {H : Hp} {E : XK} : (cxOf CX P w K mg base N qual scope f cd A outer s H E).K = K := rfl
/-! ### what is read off by rewriting -/
theorem ex_eq_l {α : Sort _} {a : α} {p : α → Prop} : (∃ x, a = x ∧ p x) = p a := propext ⟨fun ⟨_, e, h⟩ => e ▸ h, fun h => ⟨_, rfl, h⟩⟩
theorem lit_eq {p q : V} : (some (some p) = some (some q)) = (p = q) := by simp
theorem scal_ii {i j : Int} : scal (.int i) (.int j) = true := rfl
theorem scal_bb {i j : Bool} : scal (.bl i) (.bl j) = true := rfl
theorem scal_ss {i j : Str} : scal (.str i) (.str j) = true := rfl
theorem scal_nn {v : V} : scal .non v = scal .non v := rfl
abbrev Ex := Evl.Ex
theorem Ex.refl (H : Hp) : Ex H H := fun _ _ h => h
theorem ex_upd {H : Hp} {p : Addr} {o : HO} (h : H p = none) : Ex H (upd H p o) := Evl.Ex.new h
/-! ### values and their kinds -/
def isI : V → Bool
  | .int i => decide (-(10 ^ 60) < i ∧ i < 10 ^ 60)
  | _ => false
def kinds : List String := ["int", "bool", "NoneType", "str", "list", "tuple", "dict"]
/-- a value whose type is known -/
def Typd (K : PySem.W.Frag) (H : Hp) (v : V) : Prop := ∃ n, n ∈ kinds ∧ TyX K H v (.type n)
theorem Typd.int {K : PySem.W.Frag} {H : Hp} {i : Int} : Typd K H (.int i) := ⟨"int", by decide, .base (.int i)⟩
def vInt : V → Int
  | .int i => i
  | _ => 0
/-- between two bounds -/
def btw (v : V) (lo hi : Int) : Bool := isI v && (decide (lo ≤ vInt v) && decide (vInt v ≤ hi))
theorem isi_to {K : PySem.W.Frag} {H : Hp} {v : V} {n m : String} {b : Bool} {Q : VK} (hv : TyX K H v (.type n)) (e : kitB n m = some b) (h : Q (.bl b) H) : rIsi K [v, .ty m] H Q :=
  ⟨v, .ty m, .type n, .type m, b, rfl, ClsV.ty m, hv, kit_ty e, h⟩
theorem ty_ne {a b : String} (h : Value.type a = Value.type b) (d : a ≠ b) : False := d (by injection h)
theorem isI_not {K : PySem.W.Frag} {H : Hp} {v : V} {n : String} (h : TyX K H v (.type n)) (hn : n ≠ "int") : isI v = false := by
  cases v with
  | int i =>
    generalize hT : Value.type n = T at h
    cases h with
    | base h =>
      cases h with
      | int => exact (ty_ne hT hn).elim
  | _ => rfl
theorem int_of {K : PySem.W.Frag} {H : Hp} {v : V} (h : TyX K H v (.type "int")) : ∃ i, v = .int i := by
  generalize hT : Value.type "int" = T at h
  cases h with
  | base h =>
    cases h with
    | int i => exact ⟨i, rfl⟩
    | ins => cases hT
    | _ => exact (ty_ne hT (by decide)).elim
  | _ => exact (ty_ne hT (by decide)).elim
theorem btw_if {i lo hi : Int} (e : isI (.int i) = true) : btw (.int i) lo hi = if lo ≤ i then decide (i ≤ hi) else false := by
  unfold btw
  rw [e]
  show (true && (decide (lo ≤ i) && decide (i ≤ hi))) = _
  by_cases h : lo ≤ i
  · rw [decide_eq_true h, if_pos h]; rfl
  · rw [decide_eq_false h, if_neg h]; rfl
theorem btw_not {v : V} {lo hi : Int} (e : isI v = false) : btw v lo hi = false := by
  unfold btw
  rw [e]; rfl
/-- an int within its bounds -/
theorem btw_ok {i lo hi : Int} (h1 : lo ≤ i) (h2 : i ≤ hi) (h3 : -(10 ^ 60) < i) (h4 : i < 10 ^ 60) : btw (.int i) lo hi = true := by
  rw [btw_if (decide_eq_true ⟨h3, h4⟩), if_pos h1]
  exact decide_eq_true h2
theorem pow_le {n m : Nat} (h : n ≤ m) : (2 : Int) ^ n ≤ 2 ^ m := by
  have := Nat.pow_le_pow_right (show 0 < 2 by decide) h
  exact_mod_cast this
theorem pow_pos' (n : Nat) : (0 : Int) < 2 ^ n := by
  have := Nat.pow_pos (n := n) (show 0 < 2 by decide)
  exact_mod_cast this
theorem pow64 {n : Nat} (h : n ≤ 64) : (2 : Int) ^ n ≤ 18446744073709551616 := Int.le_trans (pow_le h) (by decide)
/-! ### powers of great numbers -/
def CPowW (i j : Int) : Prop := 0 ≤ j ∧ (Builtin.Int.intBits i : Int) * j ≤ 2 ^ 27
theorem op_powW {X : Cx} : OpR X (binaryOp .Pow) (rI CPowW fun i j => .int (i ^ j.toNat)) := opI fun _ _ _ _ _ _ _ hc q => PyProof.Rows.pow_int hc.1 hc.2 q
/-! ### dice -/
def dice3 (l m n : Int) : HO := .lst [.int l, .int m, .int n]
def DiceAt (H : Hp) (d : Addr) : Prop := ∃ l m n : Int, 0 ≤ l ∧ 0 ≤ m ∧ 0 ≤ n ∧ H d = some (dice3 l m n)
theorem mulw {i j : Int} (a b : Nat) (ha : i.natAbs < 2 ^ a) (hb : j.natAbs < 2 ^ b) (h0 : 0 < a := by decide) (h1 : 0 < b := by decide) (h : a + b ≤ 1000000 := by decide) : CMulW i j := wide_mul ha hb h0 h1 h
theorem divw {i j : Int} (b : Nat) (h : 0 < j) (hb : j.natAbs < 2 ^ b) (h0 : 0 < b := by decide) (h9 : b ≤ 9000 := by decide) : CDivW i j := wide_div h hb h0 h9
def CMulA (i j : Int) : Prop := CMul i j ∨ CMulW i j
theorem op_mulA {X : Cx} : OpR X (binaryOp .Mult) (rI CMulA fun i j => .int (i * j)) := opI fun _ _ _ _ _ _ _ hc q => by
  rcases hc with h | h
  · exact PyProof.Rows.mul_int q h.ok
  · exact PyProof.Rows.mul_int q h.ok
theorem mulL {i j : Int} (h : i.natAbs < 2 ^ 64) : CMulA i j := .inl (.inl ⟨by omega, by omega⟩)
theorem mulR {i j : Int} (h : j.natAbs < 2 ^ 64) : CMulA i j := .inl (.inr ⟨by omega, by omega⟩)
theorem mulA {i j : Int} (a b : Nat) (ha : i.natAbs < 2 ^ a) (hb : j.natAbs < 2 ^ b) (h0 : 0 < a := by decide) (h1 : 0 < b := by decide) (h : a + b ≤ 1000000 := by decide) : CMulA i j := .inr (wide_mul ha hb h0 h1 h)
theorem ixL {K : PySem.W.Frag} {a : Addr} {H : Hp} {xs : List V} {k : Int} {v : V} {Q : VK} (h : SqL K H a xs) (hv : atI xs k = some v) (q : Q v H) : rIxL K (.ref a) (.int k) H Q := ⟨a, xs, k, v, rfl, rfl, h, hv, q⟩
theorem ixM {K : PySem.W.Frag} {a : Addr} {H : Hp} {xs : List V} {k : Int} {v : V} {Q : VK} (h : H a = some (.lst xs)) (hv : atI xs k = some v) (q : Q v H) : rIxL K (.ref a) (.int k) H Q := ixL (SqL.of h) hv q
theorem ixT {K : PySem.W.Frag} {a : Addr} {H : Hp} {xs : List V} {k : Int} {v : V} {Q : VK} (h : SqT K H a xs) (hv : atI xs k = some v) (q : Q v H) : rIxT K (.ref a) (.int k) H Q := ⟨a, xs, k, v, rfl, rfl, h, hv, q⟩
theorem setL {a : Addr} {H : Hp} {xs : List V} {k : Int} {j : Nat} {v : V} {Q : Hp → Prop} (h : H a = some (.lst xs)) (hj : ixN xs.length k = some j) (q : Q (upd H a (.lst (xs.set j v)))) : rSetL (.ref a) (.int k) v H Q := ⟨a, xs, k, j, rfl, rfl, h, hj, q⟩
theorem mod_bd {a b : Int} (h : 0 < b) : 0 ≤ a % b ∧ a % b < b := ⟨Int.emod_nonneg _ (by omega), Int.emod_lt_of_pos _ h⟩
/-! ### loops -/
/-- what is left of a for once its walk is told -/
def Lp (J : It) (g : TG) (tb : TS) (D : Ends) (σ : St) (H : Hp) : Prop := ∃ W : Nat → Nat → St → Hp → Prop, (∃ m, W 0 m σ H) ∧ ∀ i m σ H, W i m σ H →
  (J.stop i H ∧ D.nx σ H) ∨ (J.go i H ∧ ∃ N : St → Hp → Prop, (∀ σ' H', N σ' H' → ∃ m', m' < m ∧ W (i + 1) m' σ' H') ∧ ∀ x H', J.yld i H x H' → g x σ H' fun σ2 H2 => tb { D with nx := N, ct := N, bk := D.nx } σ2 H2)
theorem tFor_eq {wi : TI} {g : TG} {tb : TS} {D : Ends} {σ : St} {H : Hp} : tFor wi g tb D σ H = wi σ H (fun J H1 => Lp J g tb D σ H1) := rfl
section
variable {K : PySem.W.Frag} {g : TG} {tb : TS} {D : Ends} {σ : St} {H : Hp}
theorem lpR (n : Nat) (Pv : Nat → St → Hp → Prop) (h0 : Pv 0 σ H) (hs : ∀ (i : Nat) σ' H', i < n → Pv i σ' H' → g (.int i) σ' H' fun σ2 H2 => tb { D with nx := Pv (i + 1), ct := Pv (i + 1), bk := D.nx } σ2 H2)
    (hd : ∀ σ' H', Pv n σ' H' → D.nx σ' H') : Lp (Itr 0 n) g tb D σ H :=
  for_range (lo := 0) (n := n) Pv h0 (fun i σ' H' hi p => by rw [Int.zero_add]; exact hs i σ' H' hi p) hd
theorem lpR2 (lo : Int) (n : Nat) (Pv : Nat → St → Hp → Prop) (h0 : Pv 0 σ H) (hs : ∀ (i : Nat) σ' H', i < n → Pv i σ' H' → g (.int (lo + i)) σ' H' fun σ2 H2 => tb { D with nx := Pv (i + 1), ct := Pv (i + 1), bk := D.nx } σ2 H2)
    (hd : ∀ σ' H', Pv n σ' H' → D.nx σ' H') : Lp (Itr lo n) g tb D σ H := for_range (lo := lo) (n := n) Pv h0 hs hd
theorem lpL {a : Addr} {xs : List V} (Pv : Nat → St → Hp → Prop) (h0 : Pv 0 σ H) (hl : ∀ i σ' H', i ≤ xs.length → Pv i σ' H' → SqL K H' a xs)
    (hs : ∀ i x σ' H', xs[i]? = some x → Pv i σ' H' → g x σ' H' fun σ2 H2 => tb { D with nx := Pv (i + 1), ct := Pv (i + 1), bk := D.nx } σ2 H2) (hd : ∀ σ' H', Pv xs.length σ' H' → D.nx σ' H') : Lp (Itl K a) g tb D σ H := for_list Pv h0 hl hs hd
theorem lpT {a : Addr} {xs : List V} (Pv : Nat → St → Hp → Prop) (h0 : Pv 0 σ H) (hl : ∀ i σ' H', i ≤ xs.length → Pv i σ' H' → SqT K H' a xs)
    (hs : ∀ i x σ' H', xs[i]? = some x → Pv i σ' H' → g x σ' H' fun σ2 H2 => tb { D with nx := Pv (i + 1), ct := Pv (i + 1), bk := D.nx } σ2 H2) (hd : ∀ σ' H', Pv xs.length σ' H' → D.nx σ' H') : Lp (Itt K a) g tb D σ H := for_tup Pv h0 hl hs hd
/-- for i, x in enumerate(list): the pair is a new tuple -/
theorem lpE {a : Addr} {xs : List V} (Pv : Nat → St → Hp → Prop) (h0 : Pv 0 σ H) (hl : ∀ i σ' H', i ≤ xs.length → Pv i σ' H' → SqL K H' a xs)
    (hs : ∀ i x T σ' H', xs[i]? = some x → Pv i σ' H' → H' T = none → g (.ref T) σ' (upd H' T (.tup [.int i, x])) fun σ2 H2 => tb { D with nx := Pv (i + 1), ct := Pv (i + 1), bk := D.nx } σ2 H2) (hd : ∀ σ' H', Pv xs.length σ' H' → D.nx σ' H') : Lp (Ite K a) g tb D σ H :=
  for_it walk_enum Pv h0 hl (fun i x σ' H' H2 hi p y => by
    obtain ⟨T, x1, x2, rfl, hT, rfl, e1, e2⟩ := y
    cases e1
    exact hs i x2 T σ' H' e2 p hT) hd
/-- for x, y in zip(list, list) -/
theorem lpZ {a b : Addr} {xs ys : List V} (he : xs.length = ys.length) (Pv : Nat → St → Hp → Prop) (h0 : Pv 0 σ H)
    (hl : ∀ i σ' H', i ≤ xs.length → Pv i σ' H' → SqL K H' a xs ∧ SqL K H' b ys)
    (hs : ∀ i x y T σ' H', xs[i]? = some x → ys[i]? = some y → Pv i σ' H' → H' T = none → g (.ref T) σ' (upd H' T (.tup [x, y])) fun σ2 H2 => tb { D with nx := Pv (i + 1), ct := Pv (i + 1), bk := D.nx } σ2 H2) (hd : ∀ σ' H', Pv xs.length σ' H' → D.nx σ' H') : Lp (Itz K a b) g tb D σ H :=
  for_it (walk_zip (n := xs.length) (by omega)) Pv h0 hl (fun i x σ' H' H2 hi p z => by
    obtain ⟨T, x1, x2, rfl, hT, rfl, e1, e2⟩ := z
    exact hs i x1 x2 T σ' H' e1 e2 p hT) hd
end
/-! ### bits -/
def bitsL (n : Nat) (i : Int) : List Int := (List.range n).map fun k => i / 2 ^ k % 2
theorem bitsL_succ (n : Nat) (i : Int) : bitsL (n + 1) i = bitsL n i ++ [i / 2 ^ n % 2] := by
  unfold bitsL
  rw [List.range_succ, List.map_append]; rfl
theorem bitsL_len (n : Nat) (i : Int) : (bitsL n i).length = n := by
  unfold bitsL
  rw [List.length_map, List.length_range]
/-- the number with these bits, the lowest one first -/
def ofB : List Int → Int
  | [] => 0
  | b :: bs => 2 * ofB bs + b
/-- a list of ints at a -/
abbrev LI (K : PySem.W.Frag) (H : Hp) (a : Addr) (ns : List Int) : Prop := SqL K H a (ns.map V.int)

theorem ofB_app (xs : List Int) (b : Int) : ofB (xs ++ [b]) = ofB xs + 2 ^ xs.length * b := by
  induction xs with
  | nil => show 2 * 0 + b = 0 + 1 * b; omega
  | cons x xs ih =>
    show 2 * ofB (xs ++ [b]) + x = 2 * ofB xs + x + 2 ^ (xs.length + 1) * b
    rw [ih, Int.pow_succ, Int.mul_add, Int.mul_comm (2 ^ xs.length) 2, Int.mul_assoc]
    omega
theorem emod_two_mul {i A : Int} (h : 0 < A) : i % (A * 2) = i % A + A * (i / A % 2) := by
  have h1 : i / (A * 2) = i / A / 2 := (Int.ediv_ediv_of_nonneg (Int.le_of_lt h)).symm
  rw [Int.emod_def i (A * 2), Int.emod_def i A, Int.emod_def (i / A) 2, h1, Int.mul_sub, ← Int.mul_assoc]
  omega
theorem ofB_bits (n : Nat) (i : Int) : ofB (bitsL n i) = i % 2 ^ n := by
  induction n with
  | zero => show (0 : Int) = i % 1; omega
  | succ n ih =>
    rw [bitsL_succ, ofB_app, ih, bitsL_len, Int.pow_succ]
    have hp := pow_pos' n
    exact (emod_two_mul (i := i) hp).symm
theorem atI_nat' {α : Type} {xs : List α} {j : Nat} (h : j < xs.length) : atI xs (j : Int) = some xs[j] := atI_nat (by simp [h])
/-- ints read out of a list of ints -/
theorem ints_get {ns : List Int} {i : Nat} {x : V} (h : (ns.map V.int)[i]? = some x) : ∃ z, ns[i]? = some z ∧ x = .int z := by
  rw [List.getElem?_map] at h
  cases e : ns[i]? with
  | none => rw [e] at h; cases h
  | some z => rw [e] at h; exact ⟨z, rfl, (Option.some.inj h).symm⟩
/-! ### data compared -/
def tupD (ns : List Int) : PyData := .tuple (ns.map .int)
def lstD (ns : List Int) : PyData := .list (ns.map .int)
theorem dpAll_ints {K : PySem.W.Frag} {H : Hp} : ∀ ns : List Int, DpAll K H (ns.map V.int) (ns.map PyData.int)
  | [] => .nil
  | n :: ns => .cons (.int n) (dpAll_ints ns)
theorem dp_tup {K : PySem.W.Frag} {H : Hp} {a : Addr} {ns : List Int} (h : SqT K H a (ns.map V.int)) : Dp K H (.ref a) (tupD ns) := .tup h (dpAll_ints ns)
theorem dp_lst {K : PySem.W.Frag} {H : Hp} {a : Addr} {ns : List Int} (h : SqL K H a (ns.map V.int)) : Dp K H (.ref a) (lstD ns) := .lst h (dpAll_ints ns)
theorem eqvAll_ints : ∀ ns ms : List Int, PyData.eqvAll (ns.map PyData.int) (ms.map PyData.int) = decide (ns = ms)
  | [], [] => rfl
  | [], _ :: _ => rfl
  | _ :: _, [] => rfl
  | n :: ns, m :: ms => by
    show ((n == m) && PyData.eqvAll (ns.map PyData.int) (ms.map PyData.int)) = _
    rw [eqvAll_ints ns ms]
    by_cases h : n = m
    · subst h; simp
    · simp [h]
theorem eqv_tupD (ns ms : List Int) : PyData.eqv (tupD ns) (tupD ms) = decide (ns = ms) := eqvAll_ints ns ms
theorem eqv_lstD (ns ms : List Int) : PyData.eqv (lstD ns) (lstD ms) = decide (ns = ms) := eqvAll_ints ns ms
/-! ### heaps that differ at the dice alone -/
def ExD (d : Addr) (H H' : Hp) : Prop := ∀ a o, a ≠ d → H a = some o → H' a = some o
theorem ExD.refl {d : Addr} (H : Hp) : ExD d H H := fun _ _ _ h => h
theorem ExD.trans {d : Addr} {H H1 H2 : Hp} (a : ExD d H H1) (b : ExD d H1 H2) : ExD d H H2 := fun x o n h => b x o n (a x o n h)
theorem exd_upd {d : Addr} {H : Hp} {o : HO} : ExD d H (upd H d o) := fun a u n h => by rw [upd_ne n]; exact h
theorem exd_new {d p : Addr} {H : Hp} {o : HO} (h : H p = none) : ExD d H (upd H p o) := fun a u n e => by rw [upd_ne (ne_of_none e h)]; exact e
theorem ExD.of {d : Addr} {H H' : Hp} (e : Ex H H') : ExD d H H' := fun a o _ h => e a o h
theorem dice_upd {H : Hp} {d : Addr} {l m n : Int} (hl : 0 ≤ l) (hm : 0 ≤ m) (hn : 0 ≤ n) : DiceAt (upd H d (dice3 l m n)) d := ⟨l, m, n, hl, hm, hn, upd_same⟩
theorem DiceAt.ne {H : Hp} {d p : Addr} (h : DiceAt H d) (hp : H p = none) : d ≠ p := by
  obtain ⟨l, m, n, _, _, _, e⟩ := h
  exact ne_of_none e hp
theorem DiceAt.ex {H H' : Hp} {d : Addr} (h : DiceAt H d) (e : Ex H H') : DiceAt H' d := by
  obtain ⟨l, m, n, a, b, c, x⟩ := h
  exact ⟨l, m, n, a, b, c, e _ _ x⟩
theorem DiceAt.new {H : Hp} {d p : Addr} {o : HO} (h : DiceAt H d) (hp : H p = none) : DiceAt (upd H p o) d := h.ex (ex_upd hp)
theorem sq_upd {K : PySem.W.Frag} {H : Hp} {a d : Addr} {o : HO} {xs : List V} (n : a ≠ d) (h : SqL K H a xs) : SqL K (upd H d o) a xs := by
  rcases h with (h | ⟨u, h⟩) | h
  · exact .inl (.inl (by rw [upd_ne n]; exact h))
  · exact .inl (.inr ⟨u, by rw [upd_ne n]; exact h⟩)
  · exact .inr h
theorem ExD.seq {K : PySem.W.Frag} {H H' : Hp} {a d : Addr} {xs : List V} (e : ExD d H H') (n : a ≠ d) (h : SqL K H a xs) : SqL K H' a xs := by
  rcases h with (h | ⟨u, h⟩) | h
  · exact .inl (.inl (e _ _ n h))
  · exact .inl (.inr ⟨u, e _ _ n h⟩)
  · exact .inr h
theorem _root_.Evl.Ex.seq {K : PySem.W.Frag} {H H' : Hp} {a : Addr} {xs : List V} (e : Ex H H') (h : SqL K H a xs) : SqL K H' a xs := Evl.ex_l e h
/-- the signed number of a word -/
def sgn (n : Nat) (i : Int) : Int := i - i / 2 ^ (n - 1) * 2 ^ n
theorem _root_.Evl.Ex.fresh {H H' : Hp} {p : Addr} (e : Evl.Ex H H') (h : H' p = none) : H p = none := Evl.fresh_back e h
/-- one step of a division, bit by bit: x's rest and quotient from those of x / 2 -/
theorem quot_step (x j : Int) (h : 0 < j) : x % j = (if j ≤ 2 * (x / 2 % j) + x % 2 then 2 * (x / 2 % j) + x % 2 - j else 2 * (x / 2 % j) + x % 2) ∧
    x / j = 2 * (x / 2 / j) + (if j ≤ 2 * (x / 2 % j) + x % 2 then 1 else 0) := by
  have h1 := mod_bd (a := x / 2) h
  have h2 := Int.mul_ediv_add_emod (x / 2) j
  have h3 : x % 2 = 0 ∨ x % 2 = 1 := by omega
  have h4 : x = 2 * (x / 2) + x % 2 := by omega
  generalize x / 2 % j = r at *
  generalize x / 2 / j = q at *
  generalize x % 2 = b at *
  generalize x / 2 = y at *
  by_cases hc : j ≤ 2 * r + b
  · rw [if_pos hc, if_pos hc]
    have e : x = (2 * r + b - j) + j * (2 * q + 1) := by rw [Int.mul_add, Int.mul_one, ← Int.mul_assoc, Int.mul_comm j 2, Int.mul_assoc]; omega
    constructor
    · rw [e, Int.add_mul_emod_self_left, Int.emod_eq_of_lt (by omega) (by omega)]
    · rw [e, Int.add_mul_ediv_left _ _ (by omega), Int.ediv_eq_zero_of_lt (by omega) (by omega)]; omega
  · rw [if_neg hc, if_neg hc]
    have e : x = (2 * r + b) + j * (2 * q) := by rw [← Int.mul_assoc, Int.mul_comm j 2, Int.mul_assoc]; omega
    constructor
    · rw [e, Int.add_mul_emod_self_left, Int.emod_eq_of_lt (by omega) (by omega)]
    · rw [e, Int.add_mul_ediv_left _ _ (by omega), Int.ediv_eq_zero_of_lt (by omega) (by omega)]; omega
/-! ### cuts -/
theorem cut_to {xs : List V} (k : Nat) : cutV xs none (some (k : Int)) = xs.take k := by
  unfold cutV
  rw [HT.sIx_nat, HT.sIx_none, List.drop_zero, Nat.sub_zero]
  by_cases h : k ≤ xs.length
  · rw [Nat.min_eq_left h]
  · rw [Nat.min_eq_right (by omega), List.take_of_length_le (Nat.le_refl _), List.take_of_length_le (by omega)]
theorem cut_from {xs : List V} (k : Nat) : cutV xs (some (k : Int)) none = xs.drop k := by
  unfold cutV
  rw [HT.sIx_nat, HT.sIx_none]
  by_cases h : k ≤ xs.length
  · rw [Nat.min_eq_left h, List.take_of_length_le (by rw [List.length_drop]; omega)]
  · rw [Nat.min_eq_right (by omega), Nat.sub_self, List.take_zero, List.drop_of_length_le (by omega)]
theorem bitsL_get {n k : Nat} {i : Int} (h : k < n) : (bitsL n i)[k]? = some (i / 2 ^ k % 2) := by
  unfold bitsL
  rw [List.getElem?_map, List.getElem?_range h]; rfl
theorem bitsL_none {n k : Nat} {i : Int} (h : n ≤ k) : (bitsL n i)[k]? = none := List.getElem?_eq_none (by rw [bitsL_len]; exact h)
theorem pow_split {a b : Nat} (h : a ≤ b) : (2 : Int) ^ b = 2 ^ a * 2 ^ (b - a) := by
  rw [← Int.pow_add]; congr 1; omega
theorem shl_bits (n k : Nat) (i : Int) : (List.replicate k 0 ++ bitsL n i).take n = bitsL n (i * 2 ^ k) := by
  apply List.ext_getElem?
  intro m
  rw [List.getElem?_take]
  by_cases hm : m < n
  · rw [if_pos hm, bitsL_get hm]
    by_cases hk : m < k
    · rw [List.getElem?_append_left (by rw [List.length_replicate]; exact hk), List.getElem?_replicate, if_pos hk]
      have e : k - m = (k - m - 1) + 1 := by omega
      rw [pow_split (Nat.le_of_lt hk), Int.mul_comm (2 ^ m), ← Int.mul_assoc, Int.mul_ediv_cancel _ (Int.ne_of_gt (pow_pos' m)), e, Int.pow_succ, ← Int.mul_assoc, Int.mul_emod_left]
    · rw [List.getElem?_append_right (by rw [List.length_replicate]; omega), List.length_replicate, bitsL_get (by omega)]
      rw [pow_split (show k ≤ m by omega), Int.mul_comm i, Int.mul_ediv_mul_of_pos _ _ (pow_pos' k)]
  · rw [if_neg hm, bitsL_none (by omega)]
theorem shr_bits (n k : Nat) (i : Int) (h0 : 0 ≤ i) (h : i < 2 ^ n) : ofB ((bitsL n i).drop k) = i / 2 ^ k := by
  by_cases hk : k ≤ n
  · have e : (bitsL n i).drop k = bitsL (n - k) (i / 2 ^ k) := by
      apply List.ext_getElem?
      intro m
      rw [List.getElem?_drop]
      by_cases hm : m < n - k
      · rw [bitsL_get hm, bitsL_get (by omega), Int.ediv_ediv_of_nonneg (Int.le_of_lt (pow_pos' k)), Int.pow_add]
      · rw [bitsL_none (by omega), bitsL_none (by omega)]
    rw [e, ofB_bits]
    refine Int.emod_eq_of_lt (Int.ediv_nonneg h0 (Int.le_of_lt (pow_pos' k))) ?_
    refine Int.ediv_lt_of_lt_mul (pow_pos' k) ?_
    rw [Int.mul_comm, ← pow_split hk]; exact h
  · rw [List.drop_of_length_le (by rw [bitsL_len]; omega)]
    rw [Int.ediv_eq_zero_of_lt h0 (Int.lt_of_lt_of_le h (pow_le (by omega)))]; rfl
theorem flat_rep {α : Type} (k : Nat) (x : α) : (List.replicate k [x]).flatten = List.replicate k x := by
  induction k with
  | zero => rfl
  | succ k ih => rw [List.replicate_succ, List.flatten_cons, ih, List.replicate_succ]; rfl
theorem sh_tup (ns : List Int) : SeqAt.shaped (tupD ns) = true := by
  unfold SeqAt.shaped tupD
  have h1 : (PyData.tuple (ns.map .int)).canLay0 = true := PyProof.Rows.canLayAll_ints ns
  have h2 : (PyData.tuple (ns.map .int)).depth = 1 + 0 := by simp only [PyData.depth, PyProof.Rows.depthAll_ints]
  rw [h1, h2]; rfl
theorem sh_lst (ns : List Int) : SeqAt.shaped (lstD ns) = true := by
  unfold SeqAt.shaped lstD
  have h1 : (PyData.list (ns.map .int)).canLay0 = true := PyProof.Rows.canLayAll_ints ns
  have h2 : (PyData.list (ns.map .int)).depth = 1 + 0 := by simp only [PyData.depth, PyProof.Rows.depthAll_ints]
  rw [h1, h2]; rfl
theorem neT {K : PySem.W.Frag} {H : Hp} {a b : Addr} {ns ms : List Int} {Q : VK} (h1 : SqT K H a (ns.map V.int)) (h2 : SqT K H b (ms.map V.int)) (q : Q (.bl (!decide (ns = ms))) H) : rNeD K (.ref a) (.ref b) H Q :=
  ⟨_, _, dp_tup h1, dp_tup h2, sh_tup _, sh_tup _, by rw [eqv_tupD]; exact q⟩
theorem eqT {K : PySem.W.Frag} {H : Hp} {a b : Addr} {ns ms : List Int} {Q : VK} (h1 : SqT K H a (ns.map V.int)) (h2 : SqT K H b (ms.map V.int)) (q : Q (.bl (decide (ns = ms))) H) : rEqD K (.ref a) (.ref b) H Q :=
  ⟨_, _, dp_tup h1, dp_tup h2, sh_tup _, sh_tup _, by rw [eqv_tupD]; exact q⟩
/-- data that is told by itself -/
theorem eqD {K : PySem.W.Frag} {H : Hp} {x y : V} {d e : PyData} {Q : VK} (h1 : Dp K H x d) (h2 : Dp K H y e) (s1 : SeqAt.shaped d = true) (s2 : SeqAt.shaped e = true) {b : Bool} (hb : PyData.eqv d e = b) (q : Q (.bl b) H) : rEqD K x y H Q :=
  ⟨_, _, h1, h2, s1, s2, by rw [hb]; exact q⟩
theorem neD {K : PySem.W.Frag} {H : Hp} {x y : V} {d e : PyData} {Q : VK} (h1 : Dp K H x d) (h2 : Dp K H y e) (s1 : SeqAt.shaped d = true) (s2 : SeqAt.shaped e = true) {b : Bool} (hb : PyData.eqv d e = b) (q : Q (.bl (!b)) H) : rNeD K x y H Q :=
  ⟨_, _, h1, h2, s1, s2, by rw [hb]; exact q⟩
theorem _root_.Evl.Ex.lst {H H' : Hp} {a : Addr} {o : HO} (e : Evl.Ex H H') (h : H a = some o) : H' a = some o := e a o h
/-- the signed numbers' product is that of the words -/
theorem sgn_mul (n : Nat) (i j : Int) : sgn n i * sgn n j % 2 ^ n = i * j % 2 ^ n := by
  have a1 : sgn n i % 2 ^ n = i % 2 ^ n := by unfold sgn; rw [Int.sub_emod, Int.mul_emod_left, Int.sub_zero, Int.emod_emod]
  have a2 : sgn n j % 2 ^ n = j % 2 ^ n := by unfold sgn; rw [Int.sub_emod, Int.mul_emod_left, Int.sub_zero, Int.emod_emod]
  rw [Int.mul_emod, a1, a2, ← Int.mul_emod]
theorem sgn_bd {n : Nat} {i : Int} (h1 : 1 ≤ n) (h0 : 0 ≤ i) (h : i < 2 ^ n) : -(2 ^ n) ≤ sgn n i ∧ sgn n i < 2 ^ n := by
  unfold sgn
  have hq := pow_pos' (n - 1)
  have e : (2 : Int) ^ n = 2 ^ (n - 1) * 2 := by rw [← Int.pow_succ]; congr 1; omega
  have b1 : 0 ≤ i / 2 ^ (n - 1) := Int.ediv_nonneg h0 (Int.le_of_lt hq)
  have b2 : i / 2 ^ (n - 1) < 2 := Int.ediv_lt_of_lt_mul hq (by rw [Int.mul_comm, ← e]; exact h)
  have b3 : i / 2 ^ (n - 1) = 0 ∨ i / 2 ^ (n - 1) = 1 := by omega
  rcases b3 with b | b <;> rw [b] <;> omega
/-! ### the lowest bit -/
theorem op_and1 {X : Cx} : OpR X (binaryOp .BitAnd) (fun x y H Q => ∃ i : Int, x = .int i ∧ y = .int 1 ∧ Q (.int (i % 2)) H) := by
  intro pins s σ H x y v u Q I rx ry h
  obtain ⟨i, rfl, rfl, q⟩ := h
  exact op_andM pins s σ H (.int i) (.int 1) v u Q I rx ry ⟨i, 1, rfl, rfl, q⟩
/-! ### carries -/
def cy (i j c : Int) (k : Nat) : Int := (i % 2 ^ k + j % 2 ^ k + c) / 2 ^ k
def cyL (n : Nat) (i j c : Int) : List Int := (List.range n).map (cy i j c)
theorem cyL_len (n : Nat) (i j c : Int) : (cyL n i j c).length = n := by unfold cyL; rw [List.length_map, List.length_range]
theorem cyL_succ (n : Nat) (i j c : Int) : cyL (n + 1) i j c = cyL n i j c ++ [cy i j c n] := by
  unfold cyL; rw [List.range_succ, List.map_append]; rfl
theorem cyL_get {n k : Nat} {i j c : Int} (h : k < n) : (cyL n i j c)[k]? = some (cy i j c k) := by
  unfold cyL; rw [List.getElem?_map, List.getElem?_range h]; rfl
theorem cy_zero (i j c : Int) : cy i j c 0 = c := by
  unfold cy; rw [Int.pow_zero, Int.emod_one, Int.emod_one, Int.ediv_one]; omega
theorem cy_succ (i j c : Int) (k : Nat) : cy i j c (k + 1) = (i / 2 ^ k % 2 + j / 2 ^ k % 2 + cy i j c k) / 2 := by
  unfold cy
  have hp := pow_pos' k
  rw [Int.pow_succ, emod_two_mul hp, emod_two_mul hp, ← Int.ediv_ediv_of_nonneg (Int.le_of_lt hp)]
  have e : i % 2 ^ k + 2 ^ k * (i / 2 ^ k % 2) + (j % 2 ^ k + 2 ^ k * (j / 2 ^ k % 2)) + c = (i % 2 ^ k + j % 2 ^ k + c) + 2 ^ k * (i / 2 ^ k % 2 + j / 2 ^ k % 2) := by
    rw [Int.mul_add]; omega
  rw [e, Int.add_mul_ediv_left _ _ (Int.ne_of_gt hp)]
  congr 1; omega
/-- the bits of a sum, by its carries -/
theorem sum_bit (i j c : Int) (k : Nat) : (i / 2 ^ k % 2 + j / 2 ^ k % 2 + cy i j c k) % 2 = (i + j + c) / 2 ^ k % 2 := by
  unfold cy
  have hp := pow_pos' k
  have e : i + j + c = (i % 2 ^ k + j % 2 ^ k + c) + 2 ^ k * (i / 2 ^ k + j / 2 ^ k) := by
    have h1 := Int.mul_ediv_add_emod i (2 ^ k)
    have h2 := Int.mul_ediv_add_emod j (2 ^ k)
    rw [Int.mul_add]; omega
  rw [e, Int.add_mul_ediv_left _ _ (Int.ne_of_gt hp)]
  omega
theorem cy_bd {i j c : Int} (h0 : 0 ≤ c) (h1 : c ≤ 1) (k : Nat) : 0 ≤ cy i j c k ∧ cy i j c k ≤ 1 := by
  unfold cy
  have hp := pow_pos' k
  have a := mod_bd (a := i) hp
  have b := mod_bd (a := j) hp
  constructor
  · exact Int.ediv_nonneg (by omega) (Int.le_of_lt hp)
  · have := Int.ediv_lt_of_lt_mul (a := i % 2 ^ k + j % 2 ^ k + c) (b := 2) hp (by omega)
    omega
theorem cy_top {i j c : Int} {n : Nat} (hi0 : 0 ≤ i) (hi : i < 2 ^ n) (hj0 : 0 ≤ j) (hj : j < 2 ^ n) : cy i j c n = (i + j + c) / 2 ^ n := by
  unfold cy; rw [Int.emod_eq_of_lt hi0 hi, Int.emod_eq_of_lt hj0 hj]
/-- words with their top bits turned -/
theorem sgn_turned {n : Nat} {i : Int} (h1 : 1 ≤ n) (h0 : 0 ≤ i) (h : i < 2 ^ n) : sgn n i = (i + 2 ^ (n - 1)) % 2 ^ n - 2 ^ (n - 1) := by
  unfold sgn
  have hq := pow_pos' (n - 1)
  have e : (2 : Int) ^ n = 2 ^ (n - 1) * 2 := by rw [← Int.pow_succ]; congr 1; omega
  have b1 : 0 ≤ i / 2 ^ (n - 1) := Int.ediv_nonneg h0 (Int.le_of_lt hq)
  have b2 : i / 2 ^ (n - 1) < 2 := Int.ediv_lt_of_lt_mul hq (by rw [Int.mul_comm, ← e]; exact h)
  have b3 : i / 2 ^ (n - 1) = 0 ∨ i / 2 ^ (n - 1) = 1 := by omega
  have h2 := Int.mul_ediv_add_emod i (2 ^ (n - 1))
  have h3 := mod_bd (a := i) hq
  rcases b3 with b | b
  · rw [b] at h2 ⊢
    have : (i + 2 ^ (n - 1)) % 2 ^ n = i + 2 ^ (n - 1) := Int.emod_eq_of_lt (by omega) (by omega)
    rw [this]; omega
  · rw [b] at h2 ⊢
    have : (i + 2 ^ (n - 1)) % 2 ^ n = i + 2 ^ (n - 1) - 2 ^ n := by
      rw [show i + 2 ^ (n - 1) = (i + 2 ^ (n - 1) - 2 ^ n) + 2 ^ n by omega, Int.add_emod_right]
      rw [Int.emod_eq_of_lt (by omega) (by omega)]
      omega
    rw [this]; omega
/-! ### comprehensions -/
def Lc (J : It) (g : TG) (tt : TT) (te : TE) (vs : List Nat) (σ : St) (H1 : Hp) (D : Addr) (Qd : Hp → Prop) : Prop := ∃ W : Nat → Nat → Hp → Prop, (∃ m, W 0 m (upd H1 D (.lst []))) ∧ ∀ i m H, W i m H →
  (J.stop i H ∧ Qd H) ∨ (J.go i H ∧ ∃ Nx : Hp → Prop, (∀ H', Nx H' → ∃ m', m' < m ∧ W (i + 1) m' H') ∧ ∀ x H', J.yld i H x H' → g x (wipe σ vs) H' fun σ2 H2 => wipe σ2 vs = wipe σ vs ∧ tt σ2 H2 fun b H3 =>
    if b = true then te σ2 H3 fun y H4 => ∃ acc, H4 D = some (.lst acc) ∧ acc.length < sizeLine ∧ Nx (upd H4 D (.lst (acc ++ [y]))) else Nx H3)
theorem tLc_eq {wi : TI} {g : TG} {tt : TT} {te : TE} {vs : List Nat} {σ : St} {H : Hp} {Q : VK} : tLc wi g tt te vs σ H Q = wi σ H (fun J H1 => ∀ D, H1 D = none → Lc J g tt te vs σ H1 D (fun H' => Q (.ref D) H')) := rfl
/-- what is kept of n turns -/
def kept (n : Nat) (keep : Nat → Bool) (f : Nat → V) : List V := ((List.range n).filter keep).map f
theorem kept_yes {n : Nat} {k : Nat → Bool} {f : Nat → V} (h : k n = true) : kept (n + 1) k f = kept n k f ++ [f n] := by
  unfold kept
  rw [List.range_succ, List.filter_append, List.map_append, List.filter_cons, if_pos h] <;> rfl
theorem kept_no {n : Nat} {k : Nat → Bool} {f : Nat → V} (h : k n = false) : kept (n + 1) k f = kept n k f := by
  unfold kept
  rw [List.range_succ, List.filter_append, List.map_append, List.filter_cons, if_neg (by rw [h]; decide)]
  show _ ++ [] = _
  rw [List.append_nil]
theorem kept_len (n : Nat) (k : Nat → Bool) (f : Nat → V) : (kept n k f).length ≤ n := by
  unfold kept
  rw [List.length_map]
  have h := List.length_filter_le k (List.range n)
  rwa [List.length_range] at h
theorem kept_all {n : Nat} {f : Nat → V} : kept n (fun _ => true) f = (List.range n).map f := by
  unfold kept
  rw [List.filter_eq_self.mpr (fun _ _ => rfl)]
theorem lc_go {J : It} {n : Nat} {G : Hp → Prop} {Y : Nat → Hp → V → Hp → Prop} {g : TG} {tt : TT} {te : TE} {vs : List Nat} {σ : St} {H1 : Hp} {D : Addr} {Qd : Hp → Prop} (w : Walk J n G Y) (keep : Nat → Bool) (f : Nat → V) (hn : n ≤ 50000) (hD : H1 D = none) (hG : ∀ H', Ex H1 H' → G H')
    (hs : ∀ i x H' H2, i < n → Ex H1 H' → Y i H' x H2 → ∀ (Qe : VK) (Qn : Hp → Prop), (∀ H5, Ex H' H5 → keep i = true → Qe (f i) H5) → (∀ H5, Ex H' H5 → keep i = false → Qn H5) →
      g x (wipe σ vs) H2 fun σ2 H3 => wipe σ2 vs = wipe σ vs ∧ tt σ2 H3 fun b H4 => if b = true then te σ2 H4 Qe else Qn H4)
    (hd : ∀ H', Ex H1 H' → H' D = some (.lst (kept n keep f)) → Qd H') : Lc J g tt te vs σ H1 D Qd := by
  refine lc_it w (fun i H' => Ex H1 H' ∧ H' D = some (.lst (kept i keep f))) ⟨ex_upd hD, upd_same⟩ (fun i H' _ p => hG H' p.1) (fun i x H' H2 hi p y => ?_) (fun H' p => hd H' p.1 p.2)
  have hlen : (kept i keep f).length < sizeLine := Nat.lt_of_le_of_lt (kept_len i keep f) (by rw [sizeLine_eq]; omega)
  refine hs i x H' H2 hi p.1 y _ _ (fun H5 e5 hk => ⟨_, e5 _ _ p.2, hlen, (p.1.trans e5).mut hD, ?_⟩) (fun H5 e5 hk => ⟨p.1.trans e5, ?_⟩)
  · rw [upd_same, kept_yes hk]
  · rw [kept_no hk]; exact e5 _ _ p.2
/-- all turns kept -/
theorem lc_map {J : It} {n : Nat} {G : Hp → Prop} {Y : Nat → Hp → V → Hp → Prop} {g : TG} {te : TE} {vs : List Nat} {σ : St} {H1 : Hp} {D : Addr} {Qd : Hp → Prop} (w : Walk J n G Y) (f : Nat → V) (hn : n ≤ 50000) (hD : H1 D = none) (hG : ∀ H', Ex H1 H' → G H')
    (hs : ∀ i x H' H2, i < n → Ex H1 H' → Y i H' x H2 → ∀ (Qe : VK), (∀ H5, Ex H' H5 → Qe (f i) H5) → g x (wipe σ vs) H2 fun σ2 H3 => wipe σ2 vs = wipe σ vs ∧ te σ2 H3 Qe)
    (hd : ∀ H', Ex H1 H' → H' D = some (.lst ((List.range n).map f)) → Qd H') : Lc J g tYes te vs σ H1 D Qd := by
  refine lc_it w (fun i H' => Ex H1 H' ∧ H' D = some (.lst ((List.range i).map f))) ⟨ex_upd hD, upd_same⟩ (fun i H' _ p => hG H' p.1) (fun i x H' H2 hi p y => ?_) (fun H' p => hd H' p.1 p.2)
  have hlen : ((List.range i).map f).length < sizeLine := by rw [List.length_map, List.length_range, sizeLine_eq]; omega
  refine hs i x H' H2 hi p.1 y _ (fun H5 e5 => ⟨_, e5 _ _ p.2, hlen, (p.1.trans e5).mut hD, ?_⟩)
  rw [upd_same, List.range_succ, List.map_append]; rfl
theorem call_repr_bl {X : Cx} : CallR X (.builtin "repr") (fun xs H Q => ∃ b, xs = [.bl b] ∧ Q (.str (if b then "True" else "False")) H) := by
  intro pins s σ H xs us Q I r h
  obtain ⟨b, rfl, q⟩ := h
  obtain ⟨u, rfl, rfl⟩ := vals1 r
  exact PySem.P.repr_of_bool ⟨.str _, H, I.tok _, ⟨_, rfl⟩, q⟩
section
open PySem.Spec PyProof.Rows
/-! ### enumerate over what an iterator begins (a tuple) -/
theorem enumB_new {v : Value} {o : Obj} {G : Heap → Prop} (B : Begins v o G) : Meets (Builtin.«enumerate.__new__» ⟨[.type "enumerate", v], []⟩) (fun _ R s => G s.heap ∧
    R (.ok (.ret (.ref (s.heap.push o).objs.size))) { s with heap := (s.heap.push o).push { cls := .type "enumerate", data := .fields #[.none, .bool false, .ref s.heap.objs.size, rawInt 0, .none, .none] } }) := by
  refine .of_wp fun pr wo Ar R s hh => ?_
  obtain ⟨hp, gs, dr, tk, os⟩ := s
  obtain ⟨g0, hk⟩ := hh
  have sub := sub_enumerate
  have go : ∀ {Ax : Around} {Ex' : Value → Shared → Prop} {Qx : Value → Shared → Prop}, Qx (.ref hp.objs.size) ⟨hp.push o, gs, dr, tk, os⟩ → wpAny (model pr wo) Ax (pyIter v) Qx Ex' ⟨hp, gs, dr, tk, os⟩ :=
    fun z => B.iter pr wo _ _ ⟨hp, gs, dr, tk, os⟩ _ g0 z
  wp_walk using go
  refine wpAny_stack_any fun st => wpAny_pure ?_
  split
  · rename_i c _ _ _ _ _
    cases (c == Value.type "enumerate") <;> (wp_walk using go; exact ⟨_, rfl, hk⟩)
  · wp_walk using go
    exact ⟨_, rfl, hk⟩
theorem enumT_call {prog : Program} {w : World} {A : Around} {E : Value → Shared → Prop} {s : Shared} {t : Addr} {its : Array Value} {Q : Value → Shared → Prop} (ht : s.heap.IsTuple t its)
    (k : ∀ h', IsEnum h' (s.heap.objs.size + 1) s.heap.objs.size 0 .none → h'.IsTupleIter s.heap.objs.size t 0 → (∀ b o, s.heap.get? b = some o → h'.get? b = some o) → Q (.ref (s.heap.objs.size + 1)) { s with heap := h' }) :
    wpAny (model prog w) A (call (.type "enumerate") [.ref t]) Q E s := by
  refine callType_new F.called_enumerate (by decide) (F.typeCall_enumerate_1 _) (F.newCall_enumerate_1 _) (fun ob => F.args_object_init_2 ob _) F.entry_enumerate_new (enumB_new (begins_tuple t its)) ⟨ht, ?_⟩
  generalize ho : ({ cls := .type "tuple_iterator", data := .fields #[.ref t, .int 0 0] } : Obj) = o1
  have fr : o1.isFreed = false := by rw [← ho]; rfl
  have hz : (s.heap.push o1).objs.size = s.heap.objs.size + 1 := Heap.size_push ..
  show _ ∧ _
  rw [hz]
  have he : ((s.heap.push o1).push { cls := .type "enumerate", data := .fields #[.none, .bool false, .ref s.heap.objs.size, rawInt 0, .none, .none] }).get? (s.heap.objs.size + 1) = some { cls := .type "enumerate", data := .fields #[.none, .bool false, .ref s.heap.objs.size, rawInt 0, .none, .none] } := by
    rw [← hz]; exact Heap.get?_push_size _ rfl
  refine ⟨⟨_, he, rfl⟩, k _ he ⟨o1, Heap.get?_push_of_some _ (Heap.get?_push_size _ fr), ?_, ?_⟩ fun b o hb => Heap.get?_push_of_some _ (Heap.get?_push_of_some _ hb)⟩
  · rw [← ho]
  · rw [← ho]; rfl
/-- the tuple at a as it stands at each turn, each item in a new pair -/
def IteT (K : PySem.W.Frag) (a : Addr) : It where
  go := fun i H => ∃ (xs : List V) (x : V), SqT K H a xs ∧ xs[i]? = some x
  yld := fun i H v H' => ∃ q x, v = .ref q ∧ H q = none ∧ H' = upd H q (.tup [.int (i : Nat), x]) ∧ ∀ xs, SqT K H a xs → xs[i]? = some x
  stop := fun i H => ∃ xs : List V, SqT K H a xs ∧ xs.length = i
theorem turn_enumT {P : Program} {w : World} {K : PySem.W.Frag} {elts : List Expr} {kk : Nat} {tp : Pos} (a e it : Addr) :
    Turn P w K (.Tuple elts kk tp) (IteT K a) [e, it] e (fun i h => (∃ old, IsEnum h e it ((i : Nat) : Int) old) ∧ h.IsTupleIter it a i ∧ e ≠ it ∧ a ≠ it ∧ a ≠ e) where
  mem := List.mem_cons_self ..
  obj := fun i h st b hb => by
    obtain ⟨⟨old, he⟩, ⟨o, ho, _, hd⟩, _⟩ := st
    rcases List.mem_cons.mp hb with z | z
    · rw [z]; exact ⟨_, he, fun v q => nomatch q⟩
    · rw [List.mem_singleton.mp z]; exact ⟨o, ho, fun v q => by rw [hd] at q; cases q⟩
  keep := fun i h h' st k => ⟨let ⟨old, he⟩ := st.1; ⟨old, k e (by simp) _ he⟩, st.2.1.at fun o q => k it (by simp) o q, st.2.2⟩
  item := by
    intro X hP hw hK hc i pins s σ H E I hf st hg
    subst hP hw hK
    obtain ⟨⟨old, he⟩, hit, hne, na, nb⟩ := st
    obtain ⟨xs, x, hq, hx⟩ := hg
    obtain ⟨its, rv, p, hz⟩ := I.tuple hq
    obtain ⟨u, hu, ru⟩ := rv.get hx
    have le : e < s.heap.objs.size := Heap.lt_size he
    have li : it < s.heap.objs.size := by obtain ⟨_, q, _⟩ := hit; exact Heap.lt_size q
    have hi : i < its.toArray.size := by
      have := (List.getElem?_eq_some_iff.mp hu).1
      simpa using this
    have hh : X.A.in1.handled = none := I.ok.hd hc
    refine wpAny_pyNext_enum_itemD (Draws.tuple hh it a na its.toArray) he ⟨hit, p⟩ hi hne (by simp; exact ⟨hne, Ne.symm nb⟩) fun x' h' tk hP ho hst hT hsz hk => ?_
    have ex : x' = u := by
      have h2 : its[i]? = some x' := by simpa using hP
      rw [hu] at h2; exact (Option.some.inj h2).symm
    subst ex
    refine ⟨_, rfl, wpAny_letOwnedTupleGo_enum (s := { s with heap := h', toks := tk + 1 }) ho fun h2 he2 sb => ?_⟩
    have hT2 : h2.get? s.heap.objs.size = some { cls := .type "tuple", data := .seq #[.int i tk, x'] } := (sb.2 _ (Nat.ne_of_gt le)).trans hT
    have new : ObjOk X.prog X.w (upd H s.heap.objs.size (.tup [.int (i : Nat), x])) h2 s.heap.objs.size (.tup [.int (i : Nat), x]) :=
      ⟨(by decide : 2 ≤ sizeLine), [.int i tk, x'], .cons ⟨_, rfl⟩ (.cons ru .nil), _, hT2, rfl, _, rfl⟩
    have I1 : Inv X pins σ (upd H s.heap.objs.size (.tup [.int (i : Nat), x])) { s with heap := h2, toks := tk + 1 } :=
      I.turnedNew (ch := [e, it]) (fun b ob hb q => (sb.2 b (fun z => hb (by simp [z]))).trans (hk b ob (fun z => hb (by simp [z])) (fun z => hb (by simp [z])) q)) hf (Nat.le_refl _) new
    refine ⟨.ref s.heap.objs.size, _, I1, rfl, ⟨_, x, rfl, I.hok.fresh (Nat.le_refl _), rfl, fun ys hy => by rw [I.tuple_inj hy hq]; exact hx⟩, ⟨⟨x', ?_⟩, hst.1.at fun o q => (sb.2 it (Ne.symm hne)).trans q, hne, na, nb⟩, fun b hb => ?_⟩
    · rw [show ((i + 1 : Nat) : Int) = (i : Int) + 1 by omega]; exact he2
    · have lb : b < s.heap.objs.size := by
        rcases List.mem_cons.mp hb with z | z
        · rw [z]; exact le
        · rw [List.mem_singleton.mp z]; exact li
      rw [upd_ne (Nat.ne_of_lt lb)]
      exact (hf b hb).1
  done := by
    intro X hP hw hK hc i pins s σ H E I hf st hg
    subst hP hw hK
    obtain ⟨⟨old, he⟩, hit, hne, na, nb⟩ := st
    obtain ⟨xs, hq, hx⟩ := hg
    obtain ⟨its, rv, p, hz⟩ := I.tuple hq
    obtain ⟨f0, f1, f2, f3, f4, f5⟩ := hf it (by simp)
    have hl := rv.length
    have hh : X.A.in1.handled = none := I.ok.hd hc
    have hs : its.toArray.size = i := by rw [List.size_toArray]; omega
    exact wpAny_pyNext_enum_endD (Draws.tuple hh it a na its.toArray) he ⟨by rw [hs]; exact hit, p⟩ fun h' eb => ⟨rfl, I.turned (t' := s.toks) (fun b o hb q => eb b o hb q) f0 f1 f3 f4 f5⟩
  self := fun A i s Q E st h => let ⟨⟨_, he⟩, _⟩ := st; wpAny_pyIter_enum he h
def iEnumT (K : PySem.W.Frag) (ta : TA) : TI := fun σ H R => ta σ H fun vs H1 => ∃ a xs, vs = [.ref a] ∧ SqT K H1 a xs ∧ R (IteT K a) H1
theorem pi_enumT {X : Cx} {e : Expr} {ta : TA} {p pos tp : Pos} {elts : List Expr} {kk : Nat} (hg : Gl X "enumerate") (hm : X.mg "enumerate" = none) (ha : PA X [e] ta) (hs : starEach [e] X.env = [(false, eval e X.env)] := by rfl) :
    PI X (.Tuple elts kk tp) (.Call (.Name "enumerate" p) [e] [] pos) (iEnumT X.K ta) := by
  refine ⟨fun pins s σ H R I h => ?_⟩
  refine Call_ (ld_blt I hg hm boot_enumerate (PyProof.Rows.callWith_type1 (thn (ha.run pos pins s σ H _ I h) fun us s1 ⟨vs, H1, I1, r1, a, xs, ex, hq, q⟩ => ?_) hs rfl))
  subst ex
  obtain ⟨u, rfl, ru⟩ := vals1 r1
  cases ru
  obtain ⟨its, rv, p', hz⟩ := I1.tuple hq
  refine enumT_call (its := its.toArray) p' fun h' he hit hk => wpAny_pyIter_enum he ?_
  have I2 : Inv X pins σ H1 { s1 with heap := h' } := I1.kept (t' := s1.toks) hk
  have la : a < s1.heap.objs.size := IsTup.lt p'
  refine ⟨s1.heap.objs.size + 1, [s1.heap.objs.size + 1, s1.heap.objs.size], _, _, H1, rfl, I2, turn_enumT a (s1.heap.objs.size + 1) s1.heap.objs.size, ⟨⟨.none, he⟩, hit, Nat.succ_ne_self _, Nat.ne_of_lt la, Nat.ne_of_lt (Nat.lt_succ_of_lt la)⟩, fun b hb => ?_, q⟩
  have lb : s1.heap.objs.size ≤ b := by
    rcases List.mem_cons.mp hb with z | z
    · rw [z]; exact Nat.le_add_right _ _
    · rw [List.mem_singleton.mp z]; exact Nat.le_refl _
  exact I1.fpOk lb (I1.hok.fresh lb)
theorem walk_enumT {K : PySem.W.Frag} {a : Addr} {xs : List V} : Walk (IteT K a) xs.length (fun H => SqT K H a xs) (YPair (fun i => some (.int (i : Nat))) (fun i => xs[i]?)) := by
  refine ⟨fun i _ hi q => ⟨xs, xs[i], q, by simp [hi]⟩, fun _ q => ⟨xs, q, rfl⟩, fun i H v H' _ q y => ?_⟩
  obtain ⟨T, x, h1, h2, h3, h4⟩ := y
  exact ⟨T, .int (i : Nat), x, h1, h2, h3, rfl, h4 xs q⟩
end
/-- for i, x in enumerate(tuple) -/
theorem lpET {K : PySem.W.Frag} {g : TG} {tb : TS} {D : Ends} {σ : St} {H : Hp} {a : Addr} {xs : List V} (Pv : Nat → St → Hp → Prop) (h0 : Pv 0 σ H) (hl : ∀ i σ' H', i ≤ xs.length → Pv i σ' H' → SqT K H' a xs)
    (hs : ∀ i x T σ' H', xs[i]? = some x → Pv i σ' H' → H' T = none → g (.ref T) σ' (upd H' T (.tup [.int i, x])) fun σ2 H2 => tb { D with nx := Pv (i + 1), ct := Pv (i + 1), bk := D.nx } σ2 H2) (hd : ∀ σ' H', Pv xs.length σ' H' → D.nx σ' H') : Lp (IteT K a) g tb D σ H :=
  for_it walk_enumT Pv h0 hl (fun i x σ' H' H2 hi p y => by
    obtain ⟨T, x1, x2, rfl, hT, rfl, e1, e2⟩ := y
    cases e1
    exact hs i x2 T σ' H' e2 p hT) hd
theorem whW {c : TT} {tb : TS} {D : Ends} {σ : St} {H : Hp} (W : Nat → St → Hp → Prop) (m0 : Nat) (h0 : W m0 σ H)
    (hs : ∀ m σ' H', W m σ' H' → c σ' H' fun b H1 => if b = true then ∃ N : St → Hp → Prop, (∀ s2 H2, N s2 H2 → ∃ m', m' < m ∧ W m' s2 H2) ∧ tb { D with nx := N, ct := N, bk := D.nx } σ' H1 else D.nx σ' H1) : tWhile c tb D σ H := ⟨W, ⟨m0, h0⟩, hs⟩
/-! ### parts put together -/
def joinP : List (Nat × Int) → Int
  | [] => 0
  | p :: r => p.2 + 2 ^ p.1 * joinP r
def wideP (ps : List (Nat × Int)) : Nat := (ps.map (·.1)).sum
theorem wideP_app (ps : List (Nat × Int)) (p : Nat × Int) : wideP (ps ++ [p]) = wideP ps + p.1 := by
  unfold wideP; rw [List.map_append, List.sum_append]; simp
theorem joinP_app (ps : List (Nat × Int)) (p : Nat × Int) : joinP (ps ++ [p]) = joinP ps + 2 ^ wideP ps * p.2 := by
  induction ps with
  | nil => show p.2 + 2 ^ p.1 * 0 = 0 + 1 * p.2; omega
  | cons q r ih =>
    show q.2 + 2 ^ q.1 * joinP (r ++ [p]) = q.2 + 2 ^ q.1 * joinP r + 2 ^ (wideP (q :: r)) * p.2
    have e : wideP (q :: r) = q.1 + wideP r := by unfold wideP; rw [List.map_cons, List.sum_cons]
    rw [ih, e, Int.pow_add, Int.mul_add, ← Int.mul_assoc]; omega
/-- each a pair (width, word) that stands in the heap -/
def PartsAt (H : Hp) (xs : List V) (ps : List (Nat × Int)) : Prop := Paired (fun (v : V) (p : Nat × Int) => (∃ q, v = .ref q ∧ H q = some (.tup [.int p.1, .int p.2])) ∧ 1 ≤ p.1 ∧ p.1 ≤ 32 ∧ 0 ≤ p.2 ∧ p.2 < 2 ^ p.1) xs ps
theorem PartsAt.ex {H H' : Hp} {xs : List V} {ps : List (Nat × Int)} (e : Ex H H') (h : PartsAt H xs ps) : PartsAt H' xs ps := Paired.mapP h fun _ _ ⟨⟨q, e1, e2⟩, r⟩ => ⟨⟨q, e1, e _ _ e2⟩, r⟩
theorem Paired.at' {α β : Type} {R : α → β → Prop} : ∀ {xs : List α} {ys : List β} {i : Nat} {x : α}, Paired R xs ys → xs[i]? = some x → ∃ y, ys[i]? = some y ∧ R x y
  | _, _, _, _, .nil, h => by simp at h
  | _, _, 0, _, .cons r _, h => by simp at h; subst h; exact ⟨_, rfl, r⟩
  | _, _, i + 1, x, .cons _ t, h => by
    obtain ⟨y, h1, h2⟩ := Paired.at' (i := i) t (by simpa using h)
    exact ⟨y, by simpa using h1, h2⟩
theorem Paired.app' {α β : Type} {R : α → β → Prop} : ∀ {xs : List α} {ys : List β} {x : α} {y : β}, Paired R xs ys → R x y → Paired R (xs ++ [x]) (ys ++ [y])
  | _, _, _, _, .nil, r => .cons r .nil
  | _, _, _, _, .cons q t, r => .cons q (Paired.app' t r)
theorem Paired.len' {α β : Type} {R : α → β → Prop} : ∀ {xs : List α} {ys : List β}, Paired R xs ys → xs.length = ys.length
  | _, _, .nil => rfl
  | _, _, .cons _ t => congrArg Nat.succ (Paired.len' t)
theorem range_take {α : Type} (xs : List α) (d : α) : (List.range xs.length).map (fun i => xs.getD i d) = xs := by
  apply List.ext_getElem
  · simp
  · intro i h1 h2
    have h3 : i < xs.length := by simpa using h1
    simp [h3]
theorem all_true {K : PySem.W.Frag} {H : Hp} {D : Addr} {n : Nat} {f : Nat → V} {Q : VK} (h : H D = some (.lst ((List.range n).map f))) (hf : ∀ i, i < n → f i = .bl true) (q : Q (.bl true) H) : rAll K [.ref D] H Q := by
  refine ⟨D, (List.range n).map fun _ => true, rfl, .of ?_, ?_⟩
  · rw [h, List.map_map]
    congr 2
    apply List.map_congr_left
    intro i hi
    exact hf i (List.mem_range.mp hi)
  · have : ((List.range n).map fun _ => true).all id = true := by simp
    rw [this]; exact q
theorem ofB_sum (bs : List Int) : ((List.range bs.length).map fun k => bs.getD k 0 * 2 ^ k).sum = ofB bs := by
  have gen : ∀ (n : Nat), n ≤ bs.length → ((List.range n).map fun k => bs.getD k 0 * 2 ^ k).sum = ofB (bs.take n) := by
    intro n
    induction n with
    | zero => intro _; rfl
    | succ n ih =>
      intro hn
      have e : bs.take (n + 1) = bs.take n ++ [bs.getD n 0] := by
        rw [List.take_add_one, List.getElem?_eq_getElem (by omega)]
        simp [List.getD, List.getElem?_eq_getElem (show n < bs.length by omega)]
      rw [List.range_succ, List.map_append, List.sum_append, ih (by omega), e, ofB_app, List.length_take, Nat.min_eq_left (by omega)]
      simp [Int.mul_comm]
  rw [gen bs.length (Nat.le_refl _), List.take_length]
/-! ### rules whose fragment is told apart (within comprehensions) -/
section
variable {X : Cx} {K : PySem.W.Frag}
theorem k_ix_tup (e : X.K = K) : IxR X (rIxT K) := e ▸ ix_tup
theorem k_ix_list (e : X.K = K) : IxR X (rIxL K) := e ▸ ix_list
theorem k_call_isi (e : X.K = K) : CallR X (.builtin "isinstance") (rIsi K) := e ▸ call_isi
theorem k_call_len (e : X.K = K) : CallR X (.builtin "len") (fun xs H Q => ∃ p ys, xs = [.ref p] ∧ (SqL K H p ys ∨ SqT K H p ys) ∧ Q (.int ys.length) H) := e ▸ call_len_seq
theorem k_call_tuple (e : X.K = K) : CallR X (.type "tuple") (fun xs H Q => ∃ p ys, xs = [.ref p] ∧ ((SqL K H p ys ∧ ∀ l, H l = none → Q (.ref l) (upd H l (.tup ys))) ∨ (SqT K H p ys ∧ Q (.ref p) H))) := e ▸ call_tuple_of
theorem k_op_in (e : X.K = K) : OpR X (compareOp .In) (rIn K false) := e ▸ op_in_seq
theorem k_op_notin (e : X.K = K) : OpR X (compareOp .NotIn) (rIn K true) := e ▸ op_notIn_seq
theorem k_op_eqD (hu : X.A.units + 64 < cLine) (e : X.K = K) : OpR X (compareOp .Eq) (rEqD K) := e ▸ op_eqD hu
theorem k_op_neD (hu : X.A.units + 64 < cLine) (e : X.K = K) : OpR X (compareOp .NotEq) (rNeD K) := e ▸ op_neD hu
theorem k_sl_list (e : X.K = K) : SlR X (rSlL K) := e ▸ sl_list
theorem k_sl_tup (e : X.K = K) : SlR X (rSlT K) := e ▸ sl_tup
end
section
open PySem.Spec PyProof.Rows
/-! ### a tuple taken once, taken not at all -/
theorem tup_times_one (l : Addr) (items : Array Value) (n : Nat) (dd : Option Addr) (sl : Array (Option Value)) (u : Tok) :
    Meets (Builtin.«tuple.__mul__» ⟨[.ref l, .int 1 u], []⟩) (fun _ R s => s.heap.get? l = some { cls := .type "tuple", dict := dd, data := .seq items n, slots := sl } ∧ R (.ok (.ret (Value.ref l))) s) := by
  refine .of_wp fun pr wo Ar R s hh => ?_
  obtain ⟨hp, gs, dr, tk, os⟩ := s
  obtain ⟨hl, hk⟩ := hh
  have f1 := AutoSeq1.idx_int
  have c1 : (items.isEmpty || (1 : Int) == 1) = true := by simp
  wp_walk using AutoSeq1.wpAny_loadPart' hl
  exact ⟨_, rfl, hk⟩
theorem tup_times_no (l : Addr) (items : Array Value) (n : Nat) (dd : Option Addr) (sl : Array (Option Value)) (u : Tok) (hi : items.isEmpty = false) :
    Meets (Builtin.«tuple.__mul__» ⟨[.ref l, .int 0 u], []⟩) (fun _ R s => s.heap.get? l = some { cls := .type "tuple", dict := dd, data := .seq items n, slots := sl } ∧ R (.ok (.ret (Value.ref s.heap.objs.size))) { s with heap := s.heap.push { cls := Value.type "tuple", data := Data.seq #[] } }) := by
  refine .of_wp fun pr wo Ar R s hh => ?_
  obtain ⟨hp, gs, dr, tk, os⟩ := s
  obtain ⟨hl, hk⟩ := hh
  have f1 := AutoSeq1.idx_int
  have c1 : (items.isEmpty || (0 : Int) == 1) = false := by rw [hi]; rfl
  wp_walk using AutoSeq1.wpAny_loadPart' hl
  all_goals (first | exact ⟨_, rfl, hk⟩ | (refine wpAny_ite_false (by rw [c1]; exact Bool.false_ne_true) ?_) | (refine wpAny_ite_false (decide_eq_false (by rw [c1]; exact Bool.false_ne_true)) ?_) | skip)
def rRepA (K : PySem.W.Frag) : R2 := fun x y H Q => ∃ l k xs, x = .ref l ∧ y = .int k ∧ SqT K H l xs ∧ xs ≠ [] ∧ 0 ≤ k ∧ k ≤ 1000 ∧ xs.length ≤ 1000 ∧ (k = 1 → Q (.ref l) H) ∧ (k ≠ 1 → ∀ p, H p = none → Q (.ref p) (upd H p (.tup (List.replicate k.toNat xs).flatten)))
theorem op_repA {X : Cx} : OpR X (binaryOp .Mult) (rRepA X.K) := by
  intro pins s σ H x y v u Q I rx ry h
  obtain ⟨l, k, xs, rfl, rfl, hT, hne, h0, h1, hz, q1, q2⟩ := h
  by_cases h2 : 2 ≤ k
  · exact op_repT pins s σ H _ _ v u Q I rx ry ⟨l, k, xs, rfl, rfl, hT, hne, h2, h1, hz, q2 (by omega)⟩
  cases rx
  obtain ⟨t, rfl⟩ := ry
  obtain ⟨its, r, ⟨⟨cl, dd, da, sl⟩, ho, hc, n, hd⟩, hs⟩ := I.tuple hT
  simp only at hc hd
  subst hc hd
  have hi : its.toArray.isEmpty = false := by
    cases its with
    | nil => exact absurd (List.eq_nil_of_length_eq_zero r.length) hne
    | cons a b => rfl
  have road : ∀ {Qx : Value → Shared → Prop}, wpAny (model X.prog X.w) X.A (call (.builtin "tuple.__mul__") [.ref l, .int k t]) Qx X.xe s → wpAny (model X.prog X.w) X.A (binaryOp .Mult (.ref l) (.int k t)) Qx X.xe s := fun hx =>
    wpAny_binaryOp_repeat_ref (T := "tuple") (U := "int") (by decide) ⟨_, ho, rfl⟩ (fun s' => typeIs_int s' k t) noFill_tuple_mul F.fills_int_mul F.slot_int_rmul repeat_tuple F.slot_int_index.lookup
      (call_meets F.slot_int_rmul (typeIs_int s k t) F.entry_int_rmul (F.args_int_rmul_2 _ _) (int_rmul_tuple k t l its.toArray n dd sl) ⟨ho, rfl, ⟨_, ho, rfl⟩, hx⟩)
  have hk : k = 0 ∨ k = 1 := by omega
  rcases hk with rfl | rfl
  · refine road (call_meets F.slot_tuple_mul ⟨_, ho, rfl⟩ F.entry_tuple_mul (F.args_tuple_mul_2 _ _) (tup_times_no l its.toArray n dd sl t hi) ⟨ho, ?_⟩)
    refine ⟨.ref s.heap.objs.size, _, I.laid (t' := s.toks) (o := .tup []) (fun b ob z => Heap.get?_push_of_some _ z) (Nat.le_refl _) ?_, rfl, q2 (by decide) _ (I.hok.fresh (Nat.le_refl _))⟩
    exact ⟨Nat.zero_le _, [], .nil, IsTup.new _ _⟩
  · refine road (call_meets F.slot_tuple_mul ⟨_, ho, rfl⟩ F.entry_tuple_mul (F.args_tuple_mul_2 _ _) (tup_times_one l its.toArray n dd sl t) ⟨ho, ?_⟩)
    exact ⟨.ref l, H, I, rfl, q1 rfl⟩
end
/-! ### signed numbers of wider words; parts of lists -/
theorem sgn_if {n : Nat} {i : Int} (h1 : 1 ≤ n) (h0 : 0 ≤ i) (h : i < 2 ^ n) : sgn n i = if 2 ^ n ≤ 2 * i then i - 2 ^ n else i := by
  unfold sgn
  have hq := pow_pos' (n - 1)
  have e : (2 : Int) ^ n = 2 ^ (n - 1) * 2 := by rw [← Int.pow_succ]; congr 1; omega
  by_cases hc : 2 ^ n ≤ 2 * i
  · have : i / 2 ^ (n - 1) = 1 := by
      have h5 : i = (i - 2 ^ (n - 1)) + 2 ^ (n - 1) * 1 := by omega
      rw [h5, Int.add_mul_ediv_left _ _ (Int.ne_of_gt hq), Int.ediv_eq_zero_of_lt (by omega) (by omega)]; omega
    rw [if_pos hc, this, Int.one_mul]
  · have : i / 2 ^ (n - 1) = 0 := Int.ediv_eq_zero_of_lt h0 (by omega)
    rw [if_neg hc, this, Int.zero_mul, Int.sub_zero]
theorem sgn_half {n : Nat} {i : Int} (h1 : 1 ≤ n) (h0 : 0 ≤ i) (h : i < 2 ^ n) : -(2 ^ (n - 1)) ≤ sgn n i ∧ sgn n i < 2 ^ (n - 1) := by
  have e : (2 : Int) ^ n = 2 ^ (n - 1) * 2 := by rw [← Int.pow_succ]; congr 1; omega
  rw [sgn_if h1 h0 h]
  by_cases hc : 2 ^ n ≤ 2 * i
  · rw [if_pos hc]; omega
  · rw [if_neg hc]; omega
theorem sgn_mod {n : Nat} {i : Int} (h0 : 0 ≤ i) (h : i < 2 ^ n) : sgn n i % 2 ^ n = i := by
  unfold sgn; rw [Int.sub_emod, Int.mul_emod_left, Int.sub_zero, Int.emod_emod, Int.emod_eq_of_lt h0 h]
theorem sgn_back {m : Nat} {z : Int} (h1 : 1 ≤ m) (h2 : -(2 ^ (m - 1)) ≤ z) (h3 : z < 2 ^ (m - 1)) : sgn m (z % 2 ^ m) = z := by
  have hq := pow_pos' m
  have e : (2 : Int) ^ m = 2 ^ (m - 1) * 2 := by rw [← Int.pow_succ]; congr 1; omega
  have b := mod_bd (a := z) hq
  rw [sgn_if h1 b.1 b.2]
  by_cases hz : 0 ≤ z
  · rw [Int.emod_eq_of_lt hz (by omega), if_neg (by omega)]
  · have : z % 2 ^ m = z + 2 ^ m := by
      rw [show z = (z + 2 ^ m) + 2 ^ m * (-1) by omega, Int.add_mul_emod_self_left, Int.emod_eq_of_lt (by omega) (by omega)]; omega
    rw [this, if_pos (by omega)]; omega
theorem long_bits {n m : Nat} {i : Int} (h1 : 1 ≤ n) (hm : n ≤ m) (h0 : 0 ≤ i) (h : i < 2 ^ n) : bitsL n i ++ List.replicate (m - n) (i / 2 ^ (n - 1) % 2) = bitsL m (sgn n i) := by
  apply List.ext_getElem?
  intro k
  by_cases hk : k < n
  · rw [List.getElem?_append_left (by rw [bitsL_len]; exact hk), bitsL_get hk, bitsL_get (by omega)]
    unfold sgn
    have e : i - i / 2 ^ (n - 1) * 2 ^ n = i + 2 ^ k * (-(i / 2 ^ (n - 1) * 2 ^ (n - k))) := by
      have e1 : i / 2 ^ (n - 1) * 2 ^ n = 2 ^ k * (i / 2 ^ (n - 1) * 2 ^ (n - k)) := by
        rw [pow_split (Nat.le_of_lt hk), Int.mul_left_comm]
      rw [e1, Int.mul_neg]; omega
    rw [e, Int.add_mul_ediv_left _ _ (Int.ne_of_gt (pow_pos' k))]
    have e2 : (2 : Int) ^ (n - k) = 2 ^ (n - k - 1) * 2 := by rw [← Int.pow_succ]; congr 1; omega
    rw [e2, ← Int.mul_assoc]
    congr 1
    omega
  · rw [List.getElem?_append_right (by rw [bitsL_len]; omega), bitsL_len, List.getElem?_replicate]
    by_cases hk2 : k < m
    · rw [if_pos (by omega), bitsL_get hk2]
      have hs := sgn_half h1 h0 h
      have hp : (2 : Int) ^ (n - 1) ≤ 2 ^ k := pow_le (by omega)
      have e : (2 : Int) ^ n = 2 ^ (n - 1) * 2 := by rw [← Int.pow_succ]; congr 1; omega
      rw [sgn_if h1 h0 h] at hs ⊢
      by_cases hc : 2 ^ n ≤ 2 * i
      · rw [if_pos hc] at hs ⊢
        have t1 : i / 2 ^ (n - 1) = 1 := by
          have h5 : i = (i - 2 ^ (n - 1)) + 2 ^ (n - 1) * 1 := by omega
          rw [h5, Int.add_mul_ediv_left _ _ (Int.ne_of_gt (pow_pos' (n - 1))), Int.ediv_eq_zero_of_lt (by omega) (by omega)]; omega
        have t2 : (i - 2 ^ n) / 2 ^ k = -1 := by
          have h5 : i - 2 ^ n = (i - 2 ^ n + 2 ^ k) + 2 ^ k * (-1) := by omega
          rw [h5, Int.add_mul_ediv_left _ _ (Int.ne_of_gt (pow_pos' k)), Int.ediv_eq_zero_of_lt (by omega) (by omega)]; omega
        rw [t1, t2]; rfl
      · rw [if_neg hc] at hs ⊢
        rw [Int.ediv_eq_zero_of_lt h0 (by omega), Int.ediv_eq_zero_of_lt h0 (by omega)]
    · rw [if_neg (by omega), bitsL_none (by omega)]
theorem cut_mid {xs : List V} (a b : Nat) : cutV xs (some (a : Int)) (some ((a : Int) + (b : Int))) = (xs.drop a).take b := by
  have e : ((a : Int) + (b : Int)) = ((a + b : Nat) : Int) := by omega
  unfold cutV
  rw [e, HT.sIx_nat, HT.sIx_nat]
  by_cases h : a ≤ xs.length
  · rw [Nat.min_eq_left h]
    by_cases h2 : a + b ≤ xs.length
    · rw [Nat.min_eq_left h2]; congr 1; omega
    · rw [Nat.min_eq_right (by omega), List.take_of_length_le (by rw [List.length_drop]; omega), List.take_of_length_le (by rw [List.length_drop]; omega)]
  · rw [Nat.min_eq_right (by omega), Nat.min_eq_right (by omega), Nat.sub_self, List.take_zero, List.drop_of_length_le (by omega)]; simp
theorem mid_bits {n a b : Nat} {i : Int} (h : a + b ≤ n) : ((bitsL n i).drop a).take b = bitsL b (i / 2 ^ a) := by
  apply List.ext_getElem?
  intro m
  rw [List.getElem?_take]
  by_cases hm : m < b
  · rw [if_pos hm, List.getElem?_drop, bitsL_get (by omega), bitsL_get hm, Int.ediv_ediv_of_nonneg (Int.le_of_lt (pow_pos' a)), Int.pow_add]
  · rw [if_neg hm, bitsL_none (by omega)]
theorem ExD.mut {d p : Addr} {H H' : Hp} {o : HO} (e : ExD d H H') (h : H p = none) : ExD d H (upd H' p o) := fun a u n x => by
  rw [upd_ne (ne_of_none x h)]; exact e a u n x
theorem DiceAt.mut {d p : Addr} {H : Hp} {o : HO} (h : DiceAt H d) (n : d ≠ p) : DiceAt (upd H p o) d := by
  obtain ⟨l, m, q, a, b, c, e⟩ := h
  exact ⟨l, m, q, a, b, c, by rw [upd_ne n]; exact e⟩
theorem PartsAt.exd {d : Addr} {H H' : Hp} {xs : List V} {ps : List (Nat × Int)} (hd : DiceAt H d) (e : ExD d H H') (h : PartsAt H xs ps) : PartsAt H' xs ps := Paired.mapP h fun _ _ ⟨⟨q, e1, e2⟩, r⟩ => ⟨⟨q, e1, e _ _ (fun z => by
  obtain ⟨l, m, o, _, _, _, hh⟩ := hd
  rw [z, hh] at e2; cases e2) e2⟩, r⟩
theorem PartsAt.mut {H : Hp} {p : Addr} {ys : List V} {o : HO} {xs : List V} {ps : List (Nat × Int)} (hp : H p = some (.lst ys)) (h : PartsAt H xs ps) : PartsAt (upd H p o) xs ps := Paired.mapP h fun _ _ ⟨⟨q, e1, e2⟩, r⟩ => ⟨⟨q, e1, by
  rw [upd_ne (fun z => by rw [z, hp] at e2; cases e2)]; exact e2⟩, r⟩
theorem repA_use {K : PySem.W.Frag} {H : Hp} {l : Addr} {x : V} {k : Nat} {Q : VK} (h : H l = some (.tup [x])) (hk : k ≤ 1000) (q : ∀ v H', Ex H H' → H' v = some (.tup (List.replicate k x)) → Q (.ref v) H') : rRepA K (.ref l) (.int k) H Q := by
  refine ⟨l, k, [x], rfl, rfl, .of h, List.cons_ne_nil _ _, by omega, by omega, by simp, fun e => ?_, fun e p hp => ?_⟩
  · have : k = 1 := by omega
    subst this
    exact q l H (Ex.refl H) h
  · refine q p _ (ex_upd hp) ?_
    rw [upd_same, Int.toNat_natCast, flat_rep]
theorem catA_use {K : PySem.W.Frag} {H : Hp} {a b : Addr} {xs ys : List V} {Q : VK} (ha : H a = some (.tup xs)) (hb : H b = some (.tup ys)) (hz : xs.length + ys.length ≤ 100000) (q : ∀ v H', Ex H H' → H' v = some (.tup (xs ++ ys)) → Q (.ref v) H') : rCatA K (.ref a) (.ref b) H Q := by
  refine ⟨a, b, xs, ys, rfl, rfl, .of ha, .of hb, by rw [sizeLine_eq]; omega, fun e => ?_, fun e1 e2 => ?_, fun e1 e2 p hp => ?_⟩
  · subst e; exact q b H (Ex.refl H) hb
  · subst e2; exact q a H (Ex.refl H) (by rw [List.append_nil]; exact ha)
  · exact q p _ (ex_upd hp) upd_same
theorem emod_mul' {i A B : Int} (h : 0 < A) : i % (A * B) = i % A + A * (i / A % B) := by
  have h1 : i / (A * B) = i / A / B := (Int.ediv_ediv_of_nonneg (Int.le_of_lt h)).symm
  rw [Int.emod_def i (A * B), Int.emod_def i A, Int.emod_def (i / A) B, h1, Int.mul_sub, ← Int.mul_assoc]
  omega
theorem tSeq_go {t u : TS} {D : Ends} {σ : St} {H : Hp} (h : t { D with nx := u D } σ H) : tSeq t u D σ H := h
/-! ### a conditional expression with one value told, whichever way is taken -/
def tIfV (t : TT) (ta tb : TE) : TE := fun σ H Q => ∃ v, (t σ H fun c H1 => if c = true then ta σ H1 (fun x H2 => x = v ∧ H2 = H) else tb σ H1 (fun x H2 => x = v ∧ H2 = H)) ∧ Q v H
theorem pe_ifV {X : Cx} {c a b : Expr} {pos : Pos} {t : TT} {ta tb : TE} (hc : PT X c t) (ha : PE X a ta) (hb : PE X b tb) : PE X (.IfExp c a b pos) (tIfV t ta tb) := by
  refine ⟨fun pins s σ H Q I h => ?_⟩
  obtain ⟨v, h1, q⟩ := h
  refine thn ((pe_ifExp hc ha hb).run pins s σ H (fun x H2 => x = v ∧ H2 = H) I h1) fun u s1 hu => ?_
  obtain ⟨x, H1, I1, r, rfl, rfl⟩ := hu
  exact ⟨x, H1, I1, r, q⟩
theorem kept_none {n : Nat} {f : Nat → V} : kept n (fun _ => false) f = [] := by
  unfold kept
  rw [List.filter_eq_nil_iff.mpr (fun _ _ => Bool.false_ne_true)]; rfl
/-- a list of texts at a -/
def strD (ss : List Str) : PyData := .list (ss.map .str)
theorem dpAll_strs {K : PySem.W.Frag} {H : Hp} : ∀ ss : List Str, DpAll K H (ss.map V.str) (ss.map PyData.str)
  | [] => .nil
  | x :: xs => .cons (.str x) (dpAll_strs xs)
theorem dp_strs {K : PySem.W.Frag} {H : Hp} {a : Addr} {ss : List Str} (h : SqL K H a (ss.map V.str)) : Dp K H (.ref a) (strD ss) := .lst h (dpAll_strs ss)
def boolS (b : Bool) : Str := if b then "True" else "False"
/-- a comprehension whose items are new: what stands of each -/
theorem lc_rel {J : It} {n : Nat} {G : Hp → Prop} {Y : Nat → Hp → V → Hp → Prop} {g : TG} {te : TE} {vs : List Nat} {σ : St} {H1 : Hp} {D : Addr} {Qd : Hp → Prop} (w : Walk J n G Y) (R : Hp → V → Nat → Prop) (hR : ∀ H H' v i, Ex H H' → R H v i → R H' v i) (hM : ∀ H p o ys v i, H p = some (.lst ys) → R H v i → R (upd H p o) v i) (hn : n ≤ 50000) (hD : H1 D = none) (hG : ∀ H', Ex H1 H' → G H')
    (hs : ∀ i x H' H2, i < n → Ex H1 H' → Y i H' x H2 → ∀ (Qe : VK), (∀ v H5, Ex H' H5 → R H5 v i → Qe v H5) → g x (wipe σ vs) H2 fun σ2 H3 => wipe σ2 vs = wipe σ vs ∧ te σ2 H3 Qe)
    (hd : ∀ H' ys, Ex H1 H' → H' D = some (.lst ys) → Paired (R H') ys (List.range n) → Qd H') : Lc J g tYes te vs σ H1 D Qd := by
  refine lc_it w (fun i H' => Ex H1 H' ∧ ∃ ys, H' D = some (.lst ys) ∧ Paired (R H') ys (List.range i)) ⟨ex_upd hD, [], upd_same, .nil⟩ (fun i H' _ p => hG H' p.1) (fun i x H' H2 hi p y => ?_) (fun H' p => by obtain ⟨e, ys, h1, h2⟩ := p; exact hd H' ys e h1 h2)
  obtain ⟨e, ys, h1, h2⟩ := p
  have hlen : ys.length < sizeLine := by have := Paired.len' h2; rw [List.length_range] at this; rw [sizeLine_eq]; omega
  refine hs i x H' H2 hi e y _ (fun v H5 e5 r5 => ⟨_, e5 _ _ h1, hlen, (e.trans e5).mut hD, _, upd_same, ?_⟩)
  rw [List.range_succ]
  have h5 := e5 _ _ h1
  exact Paired.app' (Paired.mapP h2 fun _ _ r => hM _ _ _ _ _ _ h5 (hR _ _ _ _ e5 r)) (hM _ _ _ _ _ _ h5 r5)
theorem Paired.mapR {α β γ : Type} {R : α → β → Prop} {S : α → γ → Prop} {f : β → γ} (h : ∀ x y, R x y → S x (f y)) : ∀ {xs : List α} {ys : List β}, Paired R xs ys → Paired S xs (ys.map f)
  | _, _, .nil => .nil
  | _, _, .cons r t => .cons (h _ _ r) (Paired.mapR h t)
theorem seqIx_nat {n k : Nat} (h : k < n) : seqIndex? (k : Int) n = some k := by
  unfold seqIndex?
  simp [show ¬ ((k : Int) < 0) by omega, h]
theorem Paired.erase {α β : Type} {R : α → β → Prop} : ∀ {xs : List α} {ys : List β} (k : Nat), Paired R xs ys → Paired R (xs.eraseIdx k) (ys.eraseIdx k)
  | _, _, _, .nil => .nil
  | _, _, 0, .cons _ t => t
  | _, _, k + 1, .cons r t => .cons r (Paired.erase k t)
theorem Paired.set' {α β : Type} {R : α → β → Prop} {x : α} {y : β} (r : R x y) : ∀ {xs : List α} {ys : List β} (k : Nat), Paired R xs ys → Paired R (xs.set k x) (ys.set k y)
  | _, _, _, .nil => .nil
  | _, _, 0, .cons _ t => .cons r t
  | _, _, k + 1, .cons q t => .cons q (Paired.set' r k t)
theorem Paired.drop' {α β : Type} {R : α → β → Prop} : ∀ {xs : List α} {ys : List β} (k : Nat), Paired R xs ys → Paired R (xs.drop k) (ys.drop k)
  | _, _, 0, t => t
  | _, _, _ + 1, .nil => .nil
  | _, _, k + 1, .cons _ t => Paired.drop' k t
theorem Paired.take' {α β : Type} {R : α → β → Prop} : ∀ {xs : List α} {ys : List β} (k : Nat), Paired R xs ys → Paired R (xs.take k) (ys.take k)
  | _, _, 0, _ => .nil
  | _, _, _ + 1, .nil => .nil
  | _, _, k + 1, .cons r t => .cons r (Paired.take' k t)
def isIntV : V → Bool
  | .int _ => true
  | _ => false
/-! ### ways that join again -/
def tJoin (t : TS) : TS := fun D σ H => ∃ N : St → Hp → Prop, t { D with nx := N } σ H ∧ ∀ σ' H', N σ' H' → D.nx σ' H'
theorem ps_join {X : Cx} {st : Stmt} {t : TS} (h : PS X st t) : PS X st (tJoin t) := by
  refine ⟨fun pins s σ H D I ⟨N, h1, h2⟩ => thn (h.run pins s σ H _ I h1) fun f s' hs => ?_⟩
  unfold SP at *
  cases f with
  | next => obtain ⟨σ', H', I', q⟩ := hs; exact ⟨σ', H', I', h2 _ _ q⟩
  | _ => exact hs
def tJoinE (t : TE) : TE := fun σ H Q => ∃ N : VK, t σ H N ∧ ∀ v H', N v H' → Q v H'
theorem pe_join {X : Cx} {e : Expr} {t : TE} (h : PE X e t) : PE X e (tJoinE t) := by
  refine ⟨fun pins s σ H Q I ⟨N, h1, h2⟩ => thn (h.run pins s σ H _ I h1) fun u s' hs => ?_⟩
  obtain ⟨v, H', I', r, q⟩ := hs
  exact ⟨v, H', I', r, h2 _ _ q⟩
theorem ExD.back {d p : Addr} {H H' : Hp} (e : ExD d H H') (hd : DiceAt H' d) (h : H' p = none) : H p = none := by
  cases hp : H p with
  | none => rfl
  | some o =>
    have n : p ≠ d := fun z => by
      obtain ⟨l, m, q, _, _, _, hh⟩ := hd
      rw [z, hh] at h; cases h
    rw [e _ _ n hp] at h; cases h

theorem cpow_ok {i j : Int} (h1 : i.natAbs < 2 ^ 64) (h2 : 0 ≤ j) (h3 : j ≤ 1000000) : CPow i j := ⟨by omega, by omega, by omega⟩
theorem ofStr_inj {a b : String} : (Str.ofString a = Str.ofString b) = (a = b) := by
  apply propext
  constructor
  · intro h
    rw [Str.ofString_eq_toList, Str.ofString_eq_toList] at h
    have h1 : a.toList.map Char.toNat = b.toList.map Char.toNat := by
      have := congrArg (fun s => s.cps.toList) h
      simpa using this
    have h2 : a.toList = b.toList := by
      refine List.map_inj_right (f := Char.toNat) ?_ |>.mp h1
      intro x y e
      exact Char.toNat_inj.mp e
    exact String.toList_inj.mp h2
  · intro h; rw [h]
/-- a conditional expression, its ways joined again -/
theorem pe_ifJ {X : Cx} {c a b : Expr} {pos : Pos} {t : TT} {ta tb : TE} (hc : PT X c t) (ha : PE X a ta) (hb : PE X b tb) : PE X (.IfExp c a b pos) (tJoinE (tIf t ta tb)) := pe_join (pe_ifExp hc ha hb)
theorem u1 {a c : Nat} (h : a + 64 < c) : a + 1 < c := by omega
/-! ### a display of one pair whose key is a tuple -/
section
open PySem.Spec PyProof.Rows
theorem dict_pairsH2 {prog : Program} {w : World} {K : Type} [DecidableEq K] {knd : HeapKind prog w K} {A : Around} {E : Value → Shared → Prop} {s : Shared} {env : Env} {keys : List (Option Expr)} {values : List Expr} {pos : Pos} {pairs : List (Sem Value × Sem Value)} {Q : Value → Shared → Prop} (hu : knd.room A)
    (hshape : (evalEachOpt keys env).zip ((evalEach values env).map fun v => do let x ← v; standAt pos; pure x) = pairs.map fun p => (some p.1, p.2)) (h0 : pairs ≠ []) (hlen : pairs.length ≤ 15)
    (h : wpAny (model prog w) A (evalPairs pairs) (fun vs s₁ => ∃ ps, CarriesH knd s₁.heap vs ps ∧ s₁.heap.DictOfH knd s.heap.objs.size [] ∧
      ∀ h' tk, h'.DictOfH knd s.heap.objs.size (storedAllH [] ps) → Heap.SameBut s.heap.objs.size s₁.heap h' → Q (.ref s.heap.objs.size) { s₁ with heap := h', toks := tk }) E
      { s with heap := s.heap.push { cls := .type "dict", data := .dict #[] } }) :
    wpAny (model prog w) A (eval (.Dict keys values pos) env) Q E s := by
  rw [arm_eval_Dict, hshape, dictDisplay_pairs pairs h0 (by omega)]
  exact wpAny_bind (wpAny_standAt (wpAny_bind (wpAny_subDictH (knd := knd) (Q := fun d s' => wpAny (model prog w) A (pure (Value.ref d)) Q E s') hu hlen
    (wpAny_mono h (fun vs s₁ h₁ => by obtain ⟨ps, hc, hm, hq⟩ := h₁; exact ⟨ps, hc, hm, fun h' tk a b => wpAny_pure (hq h' tk a b)⟩) fun _ _ e => e))))
def tDisp1T (tk tv : TE) : TE := fun σ H Q => ∀ p, H p = none → tk σ (upd H p (.dT [])) fun x H1 => tv σ H1 fun y H2 => H2 p = some (.dT []) ∧ ∃ (b : Addr) (k : List L2.Key), x = .ref b ∧ H2 b = some (.tup (k.map kV)) ∧ Q (.ref p) (upd H2 p (.dT [(k, y)]))
theorem pe_disp1T {X : Cx} {pos : Pos} {k v : Expr} {tk tv : TE} (hu : X.A.units + 1 < cLine) (hk : PE X k tk) (hv : PE X v tv) : PE X (.Dict [some k] [v] pos) (tDisp1T tk tv) := by
  refine ⟨fun pins s σ H Q I q => ?_⟩
  have hn := I.hok.fresh (Nat.le_refl s.heap.objs.size)
  have I1 := I.laid (a := s.heap.objs.size) (o := .dT []) (h' := s.heap.push { cls := .type "dict", data := .dict #[] }) (t' := s.toks) (fun _ _ q => Heap.get?_push_of_some _ q) (Nat.le_refl _) (dt_empty s.heap I.big)
  refine dict_pairsH2 (knd := tupleKind (mixKind X.prog X.w)) (show X.A.units < cLine by omega) (zip_pairTrees [some k] [v] X.env pos rfl rfl) (by simp [pairTrees]) (by simp [pairTrees]) (thn ((pps_cons (pos := pos) hk hv pps_nil).run pins _ σ _ (fun ps H2 => match ps with | [(x, y)] => H2 s.heap.objs.size = some (.dT []) ∧ ∃ (b : Addr) (k : List L2.Key), x = .ref b ∧ H2 b = some (.tup (k.map kV)) ∧ Q (.ref s.heap.objs.size) (upd H2 s.heap.objs.size (.dT [(k, y)])) | _ => False) I1 (q _ hn)) fun ws s2 ⟨ps, H2, I2, rel, q1⟩ => ?_)
  match ps, q1 with
  | [(x, y)], q1 =>
  obtain ⟨e, b, kk, ex, hb, q2⟩ := q1
  cases rel with
  | @cons a b' as bs h t =>
    cases t
    obtain ⟨h1, h2⟩ := h
    subst ex
    obtain ⟨w1, w2⟩ := b'
    cases (show w1 = Value.ref b from h1)
    obtain ⟨z, hd, xs, rel0, dd⟩ := dt_of I2.hok e
    cases rel0
    refine ⟨[(kk, b, w2)], ⟨rfl, rfl, key_of I2.hok hb, True.intro⟩, dd, fun h' tk dd' hs => ?_⟩
    refine ⟨.ref s.heap.objs.size, _, ?_, rfl, q2⟩
    obtain ⟨q9, es, ep, hq, g2, g3, g4, _, g5⟩ := dd'
    refine d_write I2 (by rw [e]; exact True.intro) hs ⟨q9, hq⟩ ⟨by show 1 ≤ sizeLine; decide, hd, _, ?_, q9, es, ep, hq, g2, g3, g4, g5⟩
    refine .cons ⟨rfl, ?_, h2⟩ .nil
    rw [upd_ne (ne_of hb e (fun z => nomatch z))]
    exact hb
end
section
open PySem.Spec PyProof.Rows
/-- max of a tuple of ints -/
def rMaxT (K : PySem.W.Frag) : List V → Hp → VK → Prop := fun vs H Q => ∃ (a : Addr) (n : Int) (ns : List Int), vs = [V.ref a] ∧ SqT K H a ((n :: ns).map V.int) ∧ Q (.int (ns.foldl max n)) H
theorem cr_maxT {X : Cx} (hc : X.calm = true) (hu : X.A.units + 64 < cLine) : CallR X (.builtin "max") (rMaxT X.K) := by
  intro pins s σ H vs us Q I r h
  obtain ⟨a, n, ns, rfl, hs, q⟩ := h
  obtain ⟨its, rv, p, hz⟩ := I.tuple hs
  rw [Vals.ref1 r]
  obtain ⟨as, hr⟩ := Dp.readsAll I ((n :: ns).map PyData.int) _ its (dpAll_ints (n :: ns)) rv
  have hd : PyData.depthAll ((n :: ns).map PyData.int) = 0 := PyProof.Rows.depthAll_ints (n :: ns)
  refine max_tuple_data (x := .int n) (xs := ns.map .int) (I.ok.hd hc) p hr ?_ (by rw [show PyData.int n :: ns.map PyData.int = (n :: ns).map PyData.int from rfl, hd]; omega) fun i v h' tk bs hv hrd hk => ?_
  · refine ⟨fun x hx y hy => ?_, fun x hx => ?_⟩
    · have hx' : x ∈ (n :: ns).map PyData.int := hx
      have hy' : y ∈ (n :: ns).map PyData.int := hy
      obtain ⟨i, _, rfl⟩ := List.mem_map.mp hx'
      obtain ⟨j, _, rfl⟩ := List.mem_map.mp hy'
      rfl
    · have hx' : x ∈ (n :: ns).map PyData.int := hx
      obtain ⟨i, _, rfl⟩ := List.mem_map.mp hx'
      exact fun z => by cases z
  rw [maxD_ints] at hrd
  cases hrd
  exact ⟨.int _, H, I.kept hk, ⟨_, rfl⟩, q⟩
end
theorem ix_kd {X : Cx} {d : Addr} {es : Array DictEntry} {n : Nat} (D : KDict X.K X.w d es n) : IxR X (fun x y H Q => ∃ (z : Str) (u0 : Value) (v0 : V), x = .ref d ∧ y = .str z ∧ PySem.W.nsIn X.K d z = some (some u0) ∧ RelV v0 u0 ∧ Q v0 H) := by
  intro value slice pins s σ H x y v u Q I rx ry h hs
  have hT := kd_type D I
  obtain ⟨z, u0, v0, ex, ey, h1, h2, q⟩ := h
  subst ex
  cases rx
  refine PyProof.Rows.tail_any hT PySem.F.slot_dict_getitem.lookup ?_ hs
  exact op_item_kd D pins s σ H (.ref d) y (.ref d) u Q I rfl ry ⟨z, u0, v0, rfl, ey, h1, h2, q⟩
/-! ### comprehensions of dicts -/
def Dc (J : It) (g : TG) (tt : TT) (tk tv : TE) (vs : List Nat) (σ : St) (H1 : Hp) (D : Addr) (Qd : Hp → Prop) : Prop := ∃ W : Nat → Nat → Hp → Prop, (∃ m, W 0 m (upd H1 D (.dK []))) ∧ ∀ i m H, W i m H →
  (J.stop i H ∧ Qd H) ∨ (J.go i H ∧ ∃ Nx : Hp → Prop, (∀ H', Nx H' → ∃ m', m' < m ∧ W (i + 1) m' H') ∧ ∀ x H', J.yld i H x H' → g x (wipe σ vs) H' fun σ2 H2 => wipe σ2 vs = wipe σ vs ∧ tt σ2 H2 fun b H3 =>
    if b = true then tk σ2 H3 fun y H4 => tv σ2 H4 fun z H5 => ∃ kvs k, y = kV k ∧ H5 D = some (.dK kvs) ∧ kvs.length < sizeLine ∧ Nx (upd H5 D (.dK (putK kvs k z))) else Nx H3)
theorem tDc_eq {wi : TI} {g : TG} {tt : TT} {tk tv : TE} {vs : List Nat} {σ : St} {H : Hp} {Q : VK} : tDc wi g tt tk tv vs σ H Q = wi σ H (fun J H1 => ∀ D, H1 D = none → Dc J g tt tk tv vs σ H1 D (fun H' => Q (.ref D) H')) := rfl
local macro_rules | `(tactic| walk_at "rd") => `(tactic|
  simp only [tSeq, tAsg, gName, tVar, tC, tOp, tUn, rI, rI0, rU, rEq, rNe, tTest, tB, tNot, tAnd, tOr, tIfS, tRet, tRetN, tNext, tNever, tDrop, tCall, tCallN, tCallK, tCons, tNil, tTup, tLst, tIf, tIfV, tAndV, tOrV, tNotV, tPar, tPar3, tAug, ipI, tChain, tCB, tBM, tSl, tPart, tNoPart, tRevL,
    L2.start, List.map_cons, List.map_nil, List.length_cons, List.length_nil, List.replicate, List.cons_append, List.nil_append, List.append_nil, Nat.reduceAdd, Nat.reduceSub, List.set, List.getElem?_cons_zero, List.getElem?_cons_succ,
    ex_eq_l, exists_eq_left, exists_eq_left', exists_and_left, exists_and_right, exists_eq_right, exists_eq, exists_eq', and_assoc, Option.some.injEq, V.int.injEq, V.bl.injEq, V.str.injEq, V.ref.injEq, List.cons.injEq, and_true, true_and, decide_eq_true_eq, Bool.not_eq_true', decide_eq_false_iff_not, Bool.false_eq_true, Bool.true_eq_false, reduceCtorEq, if_false, if_true, ite_true, ite_false, reduceIte, ite_not, not_true_eq_false, not_false_eq_true, scal_ii, scal_bb, scal_ss, eq_self_iff_true, Int.reduceNeg, cxK, gSub, tLc_eq, L2.wipe, List.map, tFor_eq, iRng1, iRng2, iList, iTup, iEnum, iEnumT, iZip, gTup, gCons, gNil, Int.toNat_natCast, Int.toNat_zero, forall_const, false_and, and_false, exists_const, exists_false, or_false, false_or])
local macro_rules | `(tactic| walk_at "rt") => `(tactic| try walk_at "rd")
local macro_rules | `(tactic| walk_at "r1") => `(tactic| (try simp only [tAsg, gName, tVar, tC, tOp, tUn, rI, rI0, rU, rEq, rNe, tTest, tB, tNot, tAnd, tOr, tIfS, tRet, tRetN, tNext, tNever, tDrop, tCall, tCallN, tCallK, tCons, tNil, tTup, tLst, tIf, tIfV, tAndV, tOrV, tNotV, tPar, tPar3, tAug, ipI, tChain, tCB, tBM, tSl, tPart, tNoPart, tRevL,     L2.start, List.map_cons, List.map_nil, List.length_cons, List.length_nil, List.replicate, List.cons_append, List.nil_append, List.append_nil, Nat.reduceAdd, Nat.reduceSub, List.set, List.getElem?_cons_zero, List.getElem?_cons_succ,     ex_eq_l, exists_eq_left, exists_eq_left', exists_and_left, exists_and_right, exists_eq_right, exists_eq, exists_eq', and_assoc, Option.some.injEq, V.int.injEq, V.bl.injEq, V.str.injEq, V.ref.injEq, List.cons.injEq, and_true, true_and, decide_eq_true_eq, Bool.not_eq_true', decide_eq_false_iff_not, Bool.false_eq_true, Bool.true_eq_false, reduceCtorEq, if_false, if_true, ite_true, ite_false, reduceIte, ite_not, not_true_eq_false, not_false_eq_true, scal_ii, scal_bb, scal_ss, eq_self_iff_true, Int.reduceNeg, cxK, gSub, tLc_eq, L2.wipe, List.map, tFor_eq, iRng1, iRng2, iList, iTup, iEnum, iEnumT, iZip, gTup, gCons, gNil, Int.toNat_natCast, Int.toNat_zero, forall_const, false_and, and_false, exists_const, exists_false, or_false, false_or]))
local macro_rules | `(tactic| walk_at "rs") => `(tactic| (walk_at "r1"; (try refine tSeq_go ?_); walk_at "r1"; (try refine tSeq_go ?_); walk_at "r1"))
def topS (i : Nat) : Stmt := PySem.Challenge.pw_truebeat_k02_whole_products_and_quotient.main.body.getD i (.Pass ⟨0, 0, 0, 0⟩)
abbrev s_is_integer : Stmt := topS 2
abbrev s_is_between : Stmt := topS 3
abbrev s_check_number : Stmt := topS 11
abbrev s_check_width : Stmt := topS 12
abbrev s_check_word : Stmt := topS 13
abbrev s_check_one : Stmt := topS 14
abbrev s_check_two : Stmt := topS 15
abbrev s_wrapped : Stmt := topS 16
abbrev s_signed : Stmt := topS 17
abbrev s_multiplied : Stmt := topS 18
abbrev s_divided : Stmt := topS 19
abbrev s_moved_left : Stmt := topS 20
abbrev s_moved_right : Stmt := topS 21
abbrev s_law_dice : Stmt := topS 23
abbrev s_law_roll : Stmt := topS 24
abbrev s_law_one_of : Stmt := topS 25
abbrev s_law_two_to : Stmt := topS 26
abbrev s_law_word_drawn : Stmt := topS 27
abbrev s_law_bits : Stmt := topS 28
abbrev s_law_of_bits : Stmt := topS 29
abbrev s_law_width_drawn : Stmt := topS 30
abbrev s_law_product : Stmt := topS 31
abbrev s_law_quotient : Stmt := topS 32
abbrev s_law_moves_right : Stmt := topS 33
abbrev s_law_right : Stmt := topS 34
abbrev s_law : Stmt := topS 35
abbrev N_is_integer : List Str := ["value"]
abbrev P_is_integer : List Str := ["value"]
theorem sc_is_integer : FnScope N_is_integer P_is_integer (defScope s_is_integer) := ⟨rfl, rfl, rfl, by decide +kernel, rfl, by decide +kernel, by decide +kernel⟩
abbrev N_is_between : List Str := ["value", "least", "most"]
abbrev P_is_between : List Str := ["value", "least", "most"]
theorem sc_is_between : FnScope N_is_between P_is_between (defScope s_is_between) := ⟨rfl, rfl, rfl, by decide +kernel, rfl, by decide +kernel, by decide +kernel⟩
abbrev N_check_number : List Str := ["value", "least", "most"]
abbrev P_check_number : List Str := ["value", "least", "most"]
theorem sc_check_number : FnScope N_check_number P_check_number (defScope s_check_number) := ⟨rfl, rfl, rfl, by decide +kernel, rfl, by decide +kernel, by decide +kernel⟩
abbrev N_check_width : List Str := ["width"]
abbrev P_check_width : List Str := ["width"]
theorem sc_check_width : FnScope N_check_width P_check_width (defScope s_check_width) := ⟨rfl, rfl, rfl, by decide +kernel, rfl, by decide +kernel, by decide +kernel⟩
abbrev N_check_word : List Str := ["width", "word"]
abbrev P_check_word : List Str := ["width", "word"]
theorem sc_check_word : FnScope N_check_word P_check_word (defScope s_check_word) := ⟨rfl, rfl, rfl, by decide +kernel, rfl, by decide +kernel, by decide +kernel⟩
abbrev N_check_one : List Str := ["width", "word"]
abbrev P_check_one : List Str := ["width", "word"]
theorem sc_check_one : FnScope N_check_one P_check_one (defScope s_check_one) := ⟨rfl, rfl, rfl, by decide +kernel, rfl, by decide +kernel, by decide +kernel⟩
abbrev N_check_two : List Str := ["width", "one", "other"]
abbrev P_check_two : List Str := ["width", "one", "other"]
theorem sc_check_two : FnScope N_check_two P_check_two (defScope s_check_two) := ⟨rfl, rfl, rfl, by decide +kernel, rfl, by decide +kernel, by decide +kernel⟩
abbrev N_wrapped : List Str := ["width", "number"]
abbrev P_wrapped : List Str := ["width", "number"]
theorem sc_wrapped : FnScope N_wrapped P_wrapped (defScope s_wrapped) := ⟨rfl, rfl, rfl, by decide +kernel, rfl, by decide +kernel, by decide +kernel⟩
abbrev N_signed : List Str := ["width", "word"]
abbrev P_signed : List Str := ["width", "word"]
theorem sc_signed : FnScope N_signed P_signed (defScope s_signed) := ⟨rfl, rfl, rfl, by decide +kernel, rfl, by decide +kernel, by decide +kernel⟩
abbrev N_multiplied : List Str := ["width", "one", "other", "product"]
abbrev P_multiplied : List Str := ["width", "one", "other"]
theorem sc_multiplied : FnScope N_multiplied P_multiplied (defScope s_multiplied) := ⟨rfl, rfl, rfl, by decide +kernel, rfl, by decide +kernel, by decide +kernel⟩
abbrev N_divided : List Str := ["width", "one", "other"]
abbrev P_divided : List Str := ["width", "one", "other"]
theorem sc_divided : FnScope N_divided P_divided (defScope s_divided) := ⟨rfl, rfl, rfl, by decide +kernel, rfl, by decide +kernel, by decide +kernel⟩
abbrev N_moved_left : List Str := ["width", "word", "places"]
abbrev P_moved_left : List Str := ["width", "word", "places"]
theorem sc_moved_left : FnScope N_moved_left P_moved_left (defScope s_moved_left) := ⟨rfl, rfl, rfl, by decide +kernel, rfl, by decide +kernel, by decide +kernel⟩
abbrev N_moved_right : List Str := ["width", "word", "places"]
abbrev P_moved_right : List Str := ["width", "word", "places"]
theorem sc_moved_right : FnScope N_moved_right P_moved_right (defScope s_moved_right) := ⟨rfl, rfl, rfl, by decide +kernel, rfl, by decide +kernel, by decide +kernel⟩
abbrev N_law_dice : List Str := ["script", "at", "cell", "great", "left", "mixed"]
abbrev P_law_dice : List Str := ["script", "at"]
theorem sc_law_dice : FnScope N_law_dice P_law_dice (defScope s_law_dice) := ⟨rfl, rfl, rfl, by decide +kernel, rfl, by decide +kernel, by decide +kernel⟩
abbrev N_law_roll : List Str := ["dice", "total", "size", "drawn", "one", "two"]
abbrev P_law_roll : List Str := ["dice", "total"]
theorem sc_law_roll : FnScope N_law_roll P_law_roll (defScope s_law_roll) := ⟨rfl, rfl, rfl, by decide +kernel, rfl, by decide +kernel, by decide +kernel⟩
abbrev N_law_one_of : List Str := ["dice", "items"]
abbrev P_law_one_of : List Str := ["dice", "items"]
theorem sc_law_one_of : FnScope N_law_one_of P_law_one_of (defScope s_law_one_of) := ⟨rfl, rfl, rfl, by decide +kernel, rfl, by decide +kernel, by decide +kernel⟩
abbrev N_law_two_to : List Str := ["bits", "found", "turn"]
abbrev P_law_two_to : List Str := ["bits"]
theorem sc_law_two_to : FnScope N_law_two_to P_law_two_to (defScope s_law_two_to) := ⟨rfl, rfl, rfl, by decide +kernel, rfl, by decide +kernel, by decide +kernel⟩
abbrev N_law_word_drawn : List Str := ["dice", "width", "size"]
abbrev P_law_word_drawn : List Str := ["dice", "width"]
theorem sc_law_word_drawn : FnScope N_law_word_drawn P_law_word_drawn (defScope s_law_word_drawn) := ⟨rfl, rfl, rfl, by decide +kernel, rfl, by decide +kernel, by decide +kernel⟩
abbrev N_law_bits : List Str := ["width", "word", "found", "left", "place"]
abbrev P_law_bits : List Str := ["width", "word"]
theorem sc_law_bits : FnScope N_law_bits P_law_bits (defScope s_law_bits) := ⟨rfl, rfl, rfl, by decide +kernel, rfl, by decide +kernel, by decide +kernel⟩
abbrev N_law_of_bits : List Str := ["bits", "found", "bit"]
abbrev P_law_of_bits : List Str := ["bits"]
theorem sc_law_of_bits : FnScope N_law_of_bits P_law_of_bits (defScope s_law_of_bits) := ⟨rfl, rfl, rfl, by decide +kernel, rfl, by decide +kernel, by decide +kernel⟩
abbrev N_law_width_drawn : List Str := ["dice"]
abbrev P_law_width_drawn : List Str := ["dice"]
theorem sc_law_width_drawn : FnScope N_law_width_drawn P_law_width_drawn (defScope s_law_width_drawn) := ⟨rfl, rfl, rfl, by decide +kernel, rfl, by decide +kernel, by decide +kernel⟩
abbrev N_law_product : List Str := ["width", "one", "other", "total", "place", "bit"]
abbrev P_law_product : List Str := ["width", "one", "other"]
theorem sc_law_product : FnScope N_law_product P_law_product (defScope s_law_product) := ⟨rfl, rfl, rfl, by decide +kernel, rfl, by decide +kernel, by decide +kernel⟩
abbrev N_law_quotient : List Str := ["width", "one", "other", "rest", "found", "bit"]
abbrev P_law_quotient : List Str := ["width", "one", "other"]
theorem sc_law_quotient : FnScope N_law_quotient P_law_quotient (defScope s_law_quotient) := ⟨rfl, rfl, rfl, by decide +kernel, rfl, by decide +kernel, by decide +kernel⟩
abbrev N_law_moves_right : List Str := ["dice", "width", "word", "bits", "places"]
abbrev P_law_moves_right : List Str := ["dice", "width", "word"]
theorem sc_law_moves_right : FnScope N_law_moves_right P_law_moves_right (defScope s_law_moves_right) := ⟨rfl, rfl, rfl, by decide +kernel, rfl, by decide +kernel, by decide +kernel⟩
abbrev N_law_right : List Str := ["dice", "width", "one", "other", "size", "both", "lesser", "parts"]
abbrev P_law_right : List Str := ["dice"]
theorem sc_law_right : FnScope N_law_right P_law_right (defScope s_law_right) := ⟨rfl, rfl, rfl, by decide +kernel, rfl, by decide +kernel, by decide +kernel⟩
abbrev N_law : List Str := ["script", "at", "dice", "turn", "told"]
abbrev P_law : List Str := ["script"]
theorem sc_law : FnScope N_law P_law (defScope s_law) := ⟨rfl, rfl, rfl, by decide +kernel, rfl, by decide +kernel, by decide +kernel⟩
structure Txt (K : PySem.W.Frag) (mg : Str → Option Value) where
  f_is_integer : Addr
  d_is_integer : FuncData
  F_is_integer : Fun K "is_integer" "is_integer" s_is_integer f_is_integer d_is_integer
  b_is_integer : Binds K d_is_integer P_is_integer []
  m_is_integer : mg "is_integer" = some (.ref f_is_integer)
  f_is_between : Addr
  d_is_between : FuncData
  F_is_between : Fun K "is_between" "is_between" s_is_between f_is_between d_is_between
  b_is_between : Binds K d_is_between P_is_between []
  m_is_between : mg "is_between" = some (.ref f_is_between)
  f_check_number : Addr
  d_check_number : FuncData
  F_check_number : Fun K "check_number" "check_number" s_check_number f_check_number d_check_number
  b_check_number : Binds K d_check_number P_check_number []
  m_check_number : mg "check_number" = some (.ref f_check_number)
  f_check_width : Addr
  d_check_width : FuncData
  F_check_width : Fun K "check_width" "check_width" s_check_width f_check_width d_check_width
  b_check_width : Binds K d_check_width P_check_width []
  m_check_width : mg "check_width" = some (.ref f_check_width)
  f_check_word : Addr
  d_check_word : FuncData
  F_check_word : Fun K "check_word" "check_word" s_check_word f_check_word d_check_word
  b_check_word : Binds K d_check_word P_check_word []
  m_check_word : mg "check_word" = some (.ref f_check_word)
  f_check_one : Addr
  d_check_one : FuncData
  F_check_one : Fun K "check_one" "check_one" s_check_one f_check_one d_check_one
  b_check_one : Binds K d_check_one P_check_one []
  m_check_one : mg "check_one" = some (.ref f_check_one)
  f_check_two : Addr
  d_check_two : FuncData
  F_check_two : Fun K "check_two" "check_two" s_check_two f_check_two d_check_two
  b_check_two : Binds K d_check_two P_check_two []
  m_check_two : mg "check_two" = some (.ref f_check_two)
  f_wrapped : Addr
  d_wrapped : FuncData
  F_wrapped : Fun K "wrapped" "wrapped" s_wrapped f_wrapped d_wrapped
  b_wrapped : Binds K d_wrapped P_wrapped []
  m_wrapped : mg "wrapped" = some (.ref f_wrapped)
  f_signed : Addr
  d_signed : FuncData
  F_signed : Fun K "signed" "signed" s_signed f_signed d_signed
  b_signed : Binds K d_signed P_signed []
  m_signed : mg "signed" = some (.ref f_signed)
  f_multiplied : Addr
  d_multiplied : FuncData
  F_multiplied : Fun K "multiplied" "multiplied" s_multiplied f_multiplied d_multiplied
  b_multiplied : Binds K d_multiplied P_multiplied []
  m_multiplied : mg "multiplied" = some (.ref f_multiplied)
  f_divided : Addr
  d_divided : FuncData
  F_divided : Fun K "divided" "divided" s_divided f_divided d_divided
  b_divided : Binds K d_divided P_divided []
  m_divided : mg "divided" = some (.ref f_divided)
  f_moved_left : Addr
  d_moved_left : FuncData
  F_moved_left : Fun K "moved_left" "moved_left" s_moved_left f_moved_left d_moved_left
  b_moved_left : Binds K d_moved_left P_moved_left []
  m_moved_left : mg "moved_left" = some (.ref f_moved_left)
  f_moved_right : Addr
  d_moved_right : FuncData
  F_moved_right : Fun K "moved_right" "moved_right" s_moved_right f_moved_right d_moved_right
  b_moved_right : Binds K d_moved_right P_moved_right []
  m_moved_right : mg "moved_right" = some (.ref f_moved_right)
  f_law_dice : Addr
  d_law_dice : FuncData
  F_law_dice : Fun K "_law_dice" "_law_dice" s_law_dice f_law_dice d_law_dice
  b_law_dice : Binds K d_law_dice P_law_dice []
  m_law_dice : mg "_law_dice" = some (.ref f_law_dice)
  f_law_roll : Addr
  d_law_roll : FuncData
  F_law_roll : Fun K "_law_roll" "_law_roll" s_law_roll f_law_roll d_law_roll
  b_law_roll : Binds K d_law_roll P_law_roll []
  m_law_roll : mg "_law_roll" = some (.ref f_law_roll)
  f_law_one_of : Addr
  d_law_one_of : FuncData
  F_law_one_of : Fun K "_law_one_of" "_law_one_of" s_law_one_of f_law_one_of d_law_one_of
  b_law_one_of : Binds K d_law_one_of P_law_one_of []
  m_law_one_of : mg "_law_one_of" = some (.ref f_law_one_of)
  f_law_two_to : Addr
  d_law_two_to : FuncData
  F_law_two_to : Fun K "_law_two_to" "_law_two_to" s_law_two_to f_law_two_to d_law_two_to
  b_law_two_to : Binds K d_law_two_to P_law_two_to []
  m_law_two_to : mg "_law_two_to" = some (.ref f_law_two_to)
  f_law_word_drawn : Addr
  d_law_word_drawn : FuncData
  F_law_word_drawn : Fun K "_law_word_drawn" "_law_word_drawn" s_law_word_drawn f_law_word_drawn d_law_word_drawn
  b_law_word_drawn : Binds K d_law_word_drawn P_law_word_drawn []
  m_law_word_drawn : mg "_law_word_drawn" = some (.ref f_law_word_drawn)
  f_law_bits : Addr
  d_law_bits : FuncData
  F_law_bits : Fun K "_law_bits" "_law_bits" s_law_bits f_law_bits d_law_bits
  b_law_bits : Binds K d_law_bits P_law_bits []
  m_law_bits : mg "_law_bits" = some (.ref f_law_bits)
  f_law_of_bits : Addr
  d_law_of_bits : FuncData
  F_law_of_bits : Fun K "_law_of_bits" "_law_of_bits" s_law_of_bits f_law_of_bits d_law_of_bits
  b_law_of_bits : Binds K d_law_of_bits P_law_of_bits []
  m_law_of_bits : mg "_law_of_bits" = some (.ref f_law_of_bits)
  f_law_width_drawn : Addr
  d_law_width_drawn : FuncData
  F_law_width_drawn : Fun K "_law_width_drawn" "_law_width_drawn" s_law_width_drawn f_law_width_drawn d_law_width_drawn
  b_law_width_drawn : Binds K d_law_width_drawn P_law_width_drawn []
  m_law_width_drawn : mg "_law_width_drawn" = some (.ref f_law_width_drawn)
  f_law_product : Addr
  d_law_product : FuncData
  F_law_product : Fun K "_law_product" "_law_product" s_law_product f_law_product d_law_product
  b_law_product : Binds K d_law_product P_law_product []
  m_law_product : mg "_law_product" = some (.ref f_law_product)
  f_law_quotient : Addr
  d_law_quotient : FuncData
  F_law_quotient : Fun K "_law_quotient" "_law_quotient" s_law_quotient f_law_quotient d_law_quotient
  b_law_quotient : Binds K d_law_quotient P_law_quotient []
  m_law_quotient : mg "_law_quotient" = some (.ref f_law_quotient)
  f_law_moves_right : Addr
  d_law_moves_right : FuncData
  F_law_moves_right : Fun K "_law_moves_right" "_law_moves_right" s_law_moves_right f_law_moves_right d_law_moves_right
  b_law_moves_right : Binds K d_law_moves_right P_law_moves_right []
  m_law_moves_right : mg "_law_moves_right" = some (.ref f_law_moves_right)
  f_law_right : Addr
  d_law_right : FuncData
  F_law_right : Fun K "_law_right" "_law_right" s_law_right f_law_right d_law_right
  b_law_right : Binds K d_law_right P_law_right []
  m_law_right : mg "_law_right" = some (.ref f_law_right)
  f_law : Addr
  d_law : FuncData
  F_law : Fun K "law" "law" s_law f_law d_law
  b_law : Binds K d_law P_law []
  m_law : mg "law" = some (.ref f_law)
  n_abs : mg "abs" = none
  n_bool : mg "bool" = none
  n_enumerate : mg "enumerate" = none
  n_int : mg "int" = none
  n_isinstance : mg "isinstance" = none
  n_len : mg "len" = none
  n_list : mg "list" = none
  n_max : mg "max" = none
  n_min : mg "min" = none
  n_range : mg "range" = none
  u_LEAST_TOO_LONG : Value
  c_LEAST_TOO_LONG : mg "LEAST_TOO_LONG" = some u_LEAST_TOO_LONG
  r_LEAST_TOO_LONG : RelV (.int 1000000000000000000000000000000000000000000000000000000000000) u_LEAST_TOO_LONG
  u_MAX_WIDTH : Value
  c_MAX_WIDTH : mg "MAX_WIDTH" = some u_MAX_WIDTH
  r_MAX_WIDTH : RelV (.int 32) u_MAX_WIDTH
  u_MAX_PLACES : Value
  c_MAX_PLACES : mg "MAX_PLACES" = some u_MAX_PLACES
  r_MAX_PLACES : RelV (.int 63) u_MAX_PLACES
section
variable {P : Program} {w : World} {K : PySem.W.Frag} {mg : Str → Option Value} {base : Heap}
def sp_is_integer (K : PySem.W.Frag) : Sp := fun vs H Q _ => ∃ v, vs = [v] ∧ Typd K H v ∧ Q (.bl (isI v)) H
set_option maxHeartbeats 4000000 in
theorem ok_is_integer (T : Txt K mg) : FnOk P w K mg base CX0 1 T.f_is_integer T.d_is_integer P_is_integer (sp_is_integer K) := by
  refine T.F_is_integer.ok sc_is_integer (fun vs H Q E h => ?_) (fun cdv A outer s H vs Q E hr h => ?_)
  · obtain ⟨v, rfl, _⟩ := h; rfl
  · obtain ⟨v, rfl, ⟨n, hn, ty⟩, q⟩ := h
    refine ⟨_, (pss_one (ps_ret (pe_and (pe_callB call_isi (by rfl) T.n_isinstance (by decide +kernel) (pa_cons (pv 0) (pa_cons (pe_bltn (v := .ty "int") (by rfl) T.n_int (by decide +kernel) rfl) pa_nil))) (pe_and (pe_not (pe_callB call_isi (by rfl) T.n_isinstance (by decide +kernel) (pa_cons (pv 0) (pa_cons (pe_bltn (v := .ty "bool") (by rfl) T.n_bool (by decide +kernel) rfl) pa_nil)))) (pe_one (pe_chain op_lt op_lt (pe_un un_neg (pe_glob (by rfl) T.c_LEAST_TOO_LONG T.r_LEAST_TOO_LONG)) (pv 0) (pe_glob (by rfl) T.c_LEAST_TOO_LONG T.r_LEAST_TOO_LONG))))))), ?_⟩
    walk_at "rd"
    by_cases e : n = "int"
    · subst e
      obtain ⟨i, rfl⟩ := int_of ty
      refine isi_to ty (b := true) (by decide +kernel) ⟨_, rfl, iteT (isi_to ty (b := false) (by decide +kernel) ⟨_, rfl, ?_⟩)⟩
      walk_at "rd"
      by_cases h1 : -1000000000000000000000000000000000000000000000000000000000000 < i
      · rw [if_pos h1]
        have e : isI (.int i) = decide (i < 1000000000000000000000000000000000000000000000000000000000000) := by
          show decide (-(10 ^ 60) < i ∧ i < 10 ^ 60) = _
          rw [decide_eq_decide]
          constructor
          · intro h; exact h.2
          · intro h; exact ⟨h1, h⟩
        rw [← e]; exact q
      · rw [if_neg h1]
        have e : isI (.int i) = false := by
          show decide (-(10 ^ 60) < i ∧ i < 10 ^ 60) = _
          rw [decide_eq_false_iff_not]
          intro h; exact h1 h.1
        rw [← e]; exact q
    · rw [isI_not ty e] at q
      by_cases e2 : n = "bool"
      · subst e2
        refine isi_to ty (b := true) (by decide +kernel) ⟨_, rfl, iteT (isi_to ty (b := true) (by decide +kernel) ⟨_, rfl, ?_⟩)⟩
        walk_at "rd"
        exact q
      · have : kitB n "int" = some false := by
          simp only [kinds, List.mem_cons, List.mem_nil_iff, or_false] at hn
          rcases hn with rfl | rfl | rfl | rfl | rfl | rfl | rfl
          · exact absurd rfl e
          · exact absurd rfl e2
          all_goals decide +kernel
        exact isi_to ty this ⟨_, rfl, iteF q⟩
def sp_is_between (K : PySem.W.Frag) : Sp := fun vs H Q _ => ∃ v lo hi, vs = [v, .int lo, .int hi] ∧ Typd K H v ∧ Q (.bl (btw v lo hi)) H
set_option maxHeartbeats 4000000 in
theorem ok_is_between (T : Txt K mg) : FnOk P w K mg base CX0 2 T.f_is_between T.d_is_between P_is_between (sp_is_between K) := by
  have G_is_integer := ok_is_integer (P := P) (w := w) (base := base) T
  refine T.F_is_between.ok sc_is_between (fun vs H Q E h => ?_) (fun cdv A outer s H vs Q E hr h => ?_)
  · obtain ⟨v, lo, hi, rfl, _⟩ := h; rfl
  · obtain ⟨v, lo, hi, rfl, ty, q⟩ := h
    refine ⟨_, (pss_one (ps_ret (pe_and (pe_call G_is_integer (hr.mono (by decide)) (by rfl) T.m_is_integer T.F_is_integer.kp T.b_is_integer .nil pass0 (pa_cons (pv 0) pa_nil)) (pe_one (pe_chain op_le op_le (pv 1) (pv 0) (pv 2)))))), ?_⟩
    walk_at "rd"
    refine ⟨v, rfl, ty, _, rfl, ?_⟩
    cases e : isI v with
    | false => rw [btw_not e] at q; exact iteF q
    | true =>
      refine iteT ?_
      cases v with
      | int i =>
        walk_at "rd"
        rw [btw_if e] at q
        by_cases h : lo ≤ i
        · rw [if_pos h] at *; exact q
        · rw [if_neg h] at *; exact q
      | _ => cases e
/-- no exception: the number lies between the bounds -/
def sp_check_number (K : PySem.W.Frag) : Sp := fun vs H Q _ => ∃ v lo hi, vs = [v, .int lo, .int hi] ∧ Typd K H v ∧ btw v lo hi = true ∧ Q .non H
set_option maxHeartbeats 4000000 in
theorem ok_check_number (T : Txt K mg) : FnOk P w K mg base CX0 3 T.f_check_number T.d_check_number P_check_number (sp_check_number K) := by
  have G_is_between := ok_is_between (P := P) (w := w) (base := base) T
  refine T.F_check_number.ok sc_check_number (fun vs H Q E h => ?_) (fun cdv A outer s H vs Q E hr h => ?_)
  · obtain ⟨v, lo, hi, rfl, _⟩ := h; rfl
  · obtain ⟨v, lo, hi, rfl, ty, hb, q⟩ := h
    refine ⟨_, (pss_one (ps_if (pt_not (pt_val (pe_call G_is_between (hr.mono (by decide)) (by rfl) T.m_is_between T.F_is_between.kp T.b_is_between .nil pass0 (pa_cons (pv 0) (pa_cons (pv 1) (pa_cons (pv 2) pa_nil)))))) pss_never pss_nil)), ?_⟩
    walk_at "rd"
    refine ⟨v, lo, hi, rfl, ty, true, ?_, ?_⟩
    · rw [hb]
    · walk_at "rd"; exact q
def sp_check_width (K : PySem.W.Frag) : Sp := fun vs H Q _ => ∃ n : Int, vs = [.int n] ∧ 1 ≤ n ∧ n ≤ 32 ∧ Q .non H
set_option maxHeartbeats 4000000 in
theorem ok_check_width (T : Txt K mg) : FnOk P w K mg base CX0 4 T.f_check_width T.d_check_width P_check_width (sp_check_width K) := by
  have G_check_number := ok_check_number (P := P) (w := w) (base := base) T
  refine T.F_check_width.ok sc_check_width (fun vs H Q E h => ?_) (fun cdv A outer s H vs Q E hr h => ?_)
  · obtain ⟨n, rfl, _⟩ := h; rfl
  · obtain ⟨n, rfl, h1, h2, q⟩ := h
    refine ⟨_, (pss_one (ps_expr (pe_call G_check_number (hr.mono (by decide)) (by rfl) T.m_check_number T.F_check_number.kp T.b_check_number .nil pass0 (pa_cons (pv 0) (pa_cons pe_int (pa_cons (pe_glob (by rfl) T.c_MAX_WIDTH T.r_MAX_WIDTH) pa_nil)))))), ?_⟩
    walk_at "rd"
    exact ⟨_, _, _, rfl, .int, btw_ok h1 h2 (by omega) (by omega), q⟩
def sp_check_word (K : PySem.W.Frag) : Sp := fun vs H Q _ => ∃ (n : Nat) (i : Int), vs = [.int n, .int i] ∧ n ≤ 64 ∧ 0 ≤ i ∧ i < 2 ^ n ∧ Q .non H
set_option maxHeartbeats 4000000 in
theorem ok_check_word (T : Txt K mg) : FnOk P w K mg base CX0 4 T.f_check_word T.d_check_word P_check_word (sp_check_word K) := by
  have G_check_number := ok_check_number (P := P) (w := w) (base := base) T
  refine T.F_check_word.ok sc_check_word (fun vs H Q E h => ?_) (fun cdv A outer s H vs Q E hr h => ?_)
  · obtain ⟨n, i, rfl, _⟩ := h; rfl
  · obtain ⟨n, i, rfl, h0, h1, h2, q⟩ := h
    refine ⟨_, (pss_one (ps_expr (pe_call G_check_number (hr.mono (by decide)) (by rfl) T.m_check_number T.F_check_number.kp T.b_check_number .nil pass0 (pa_cons (pv 1) (pa_cons pe_int (pa_cons (pe_op op_sub (pe_op op_shl pe_int (pv 0)) pe_int) pa_nil)))))), ?_⟩
    walk_at "rd"
    have h3 := pow64 h0
    exact ⟨(show CPow 1 n from ⟨by omega, by omega, by decide⟩), _, _, _, rfl, .int, btw_ok h1 (by omega) (by omega) (by omega), q⟩
def sp_check_one (K : PySem.W.Frag) : Sp := fun vs H Q _ => ∃ (n : Nat) (i : Int), vs = [.int n, .int i] ∧ 1 ≤ n ∧ n ≤ 32 ∧ 0 ≤ i ∧ i < 2 ^ n ∧ Q .non H
set_option maxHeartbeats 4000000 in
theorem ok_check_one (T : Txt K mg) : FnOk P w K mg base CX0 5 T.f_check_one T.d_check_one P_check_one (sp_check_one K) := by
  have G_check_width := ok_check_width (P := P) (w := w) (base := base) T
  have G_check_word := ok_check_word (P := P) (w := w) (base := base) T
  refine T.F_check_one.ok sc_check_one (fun vs H Q E h => ?_) (fun cdv A outer s H vs Q E hr h => ?_)
  · obtain ⟨n, i, rfl, _⟩ := h; rfl
  · obtain ⟨n, i, rfl, h0, h1, h2, h3, q⟩ := h
    refine ⟨_, (pss_cons (ps_expr (pe_call G_check_width (hr.mono (by decide)) (by rfl) T.m_check_width T.F_check_width.kp T.b_check_width .nil pass0 (pa_cons (pv 0) pa_nil)))
      (pss_one (ps_expr (pe_call G_check_word (hr.mono (by decide)) (by rfl) T.m_check_word T.F_check_word.kp T.b_check_word .nil pass0 (pa_cons (pv 0) (pa_cons (pv 1) pa_nil)))))), ?_⟩
    walk_at "rd"
    exact ⟨_, rfl, by omega, by omega, _, _, rfl, by omega, h2, h3, q⟩
def sp_check_two (K : PySem.W.Frag) : Sp := fun vs H Q _ => ∃ (n : Nat) (i j : Int), vs = [.int n, .int i, .int j] ∧ 1 ≤ n ∧ n ≤ 32 ∧ 0 ≤ i ∧ i < 2 ^ n ∧ 0 ≤ j ∧ j < 2 ^ n ∧ Q .non H
set_option maxHeartbeats 4000000 in
theorem ok_check_two (T : Txt K mg) : FnOk P w K mg base CX0 6 T.f_check_two T.d_check_two P_check_two (sp_check_two K) := by
  have G_check_one := ok_check_one (P := P) (w := w) (base := base) T
  have G_check_word := ok_check_word (P := P) (w := w) (base := base) T
  refine T.F_check_two.ok sc_check_two (fun vs H Q E h => ?_) (fun cdv A outer s H vs Q E hr h => ?_)
  · obtain ⟨n, i, j, rfl, _⟩ := h; rfl
  · obtain ⟨n, i, j, rfl, h0, h1, h2, h3, h4, h5, q⟩ := h
    refine ⟨_, (pss_cons (ps_expr (pe_call G_check_one (hr.mono (by decide)) (by rfl) T.m_check_one T.F_check_one.kp T.b_check_one .nil pass0 (pa_cons (pv 0) (pa_cons (pv 1) pa_nil))))
      (pss_one (ps_expr (pe_call G_check_word (hr.mono (by decide)) (by rfl) T.m_check_word T.F_check_word.kp T.b_check_word .nil pass0 (pa_cons (pv 0) (pa_cons (pv 2) pa_nil)))))), ?_⟩
    walk_at "rd"
    exact ⟨_, _, rfl, h0, h1, h2, h3, _, _, rfl, by omega, h4, h5, q⟩
def sp_wrapped (K : PySem.W.Frag) : Sp := fun vs H Q _ => ∃ (n : Nat) (i : Int), vs = [.int n, .int i] ∧ 1 ≤ n ∧ n ≤ 32 ∧ -(10 ^ 60) < i ∧ i < 10 ^ 60 ∧ Q (.int (i % 2 ^ n)) H
set_option maxHeartbeats 4000000 in
theorem ok_wrapped (T : Txt K mg) : FnOk P w K mg base CX0 5 T.f_wrapped T.d_wrapped P_wrapped (sp_wrapped K) := by
  have G_check_width := ok_check_width (P := P) (w := w) (base := base) T
  have G_is_integer := ok_is_integer (P := P) (w := w) (base := base) T
  refine T.F_wrapped.ok sc_wrapped (fun vs H Q E h => ?_) (fun cdv A outer s H vs Q E hr h => ?_)
  · obtain ⟨n, i, rfl, _⟩ := h; rfl
  · obtain ⟨n, i, rfl, h1, h2, h3, h4, q⟩ := h
    refine ⟨_, (pss_cons (ps_expr (pe_call G_check_width (hr.mono (by decide)) (by rfl) T.m_check_width T.F_check_width.kp T.b_check_width .nil pass0 (pa_cons (pv 0) pa_nil)))
      (pss_cons (ps_if (pt_not (pt_val (pe_call G_is_integer (hr.mono (by decide)) (by rfl) T.m_is_integer T.F_is_integer.kp T.b_is_integer .nil pass0 (pa_cons (pv 1) pa_nil)))) pss_never pss_nil)
      (pss_one (ps_ret (pe_op op_mod (pv 1) (pe_op op_shl pe_int (pv 0))))))), ?_⟩
    walk_at "rd"
    refine ⟨_, rfl, by omega, by omega, _, rfl, .int, ?_⟩
    rw [show isI (.int i) = true from decide_eq_true ⟨h3, h4⟩]
    walk_at "rd"
    refine ⟨⟨by omega, by omega, by decide⟩, ?_, ?_⟩
    · rw [Int.one_mul]; exact pow_pos' n
    · rw [Int.one_mul]; exact q
def sp_signed (K : PySem.W.Frag) : Sp := fun vs H Q _ => ∃ (n : Nat) (i : Int), vs = [.int n, .int i] ∧ 1 ≤ n ∧ n ≤ 32 ∧ 0 ≤ i ∧ i < 2 ^ n ∧ Q (.int (sgn n i)) H
set_option maxHeartbeats 4000000 in
theorem ok_signed (T : Txt K mg) : FnOk P w K mg base CX0 6 T.f_signed T.d_signed P_signed (sp_signed K) := by
  have G_check_one := ok_check_one (P := P) (w := w) (base := base) T
  refine T.F_signed.ok sc_signed (fun vs H Q E h => ?_) (fun cdv A outer s H vs Q E hr h => ?_)
  · obtain ⟨n, i, rfl, _⟩ := h; rfl
  · obtain ⟨n, i, rfl, h1, h2, h3, h4, q⟩ := h
    refine ⟨_, (pss_cons (ps_expr (pe_call G_check_one (hr.mono (by decide)) (by rfl) T.m_check_one T.F_check_one.kp T.b_check_one .nil pass0 (pa_cons (pv 0) (pa_cons (pv 1) pa_nil))))
      (pss_one (ps_ret (pe_op op_sub (pv 1) (pe_op op_shl (pe_op op_shr (pv 1) (pe_op op_sub (pv 0) pe_int)) (pv 0)))))), ?_⟩
    walk_at "rd"
    have e : ((n : Int) - 1).toNat = n - 1 := by omega
    rw [e]
    have hp := pow64 (show n ≤ 64 by omega)
    have hq := pow_pos' (n - 1)
    have b1 : i / 2 ^ (n - 1) ≤ i := Int.ediv_le_self _ h3
    have b2 : 0 ≤ i / 2 ^ (n - 1) := Int.ediv_nonneg h3 (Int.le_of_lt hq)
    exact ⟨_, _, rfl, h1, h2, h3, h4, by omega, ⟨by omega, by omega, by omega⟩, q⟩
def sp_multiplied (K : PySem.W.Frag) : Sp := fun vs H Q _ => ∃ (n : Nat) (i j : Int), vs = [.int n, .int i, .int j] ∧ 1 ≤ n ∧ n ≤ 32 ∧ 0 ≤ i ∧ i < 2 ^ n ∧ 0 ≤ j ∧ j < 2 ^ n ∧ ∀ p, H p = none → Q (.ref p) (upd H p (.tup [.int (i * j % 2 ^ n), .int (i * j / 2 ^ n)]))
set_option maxHeartbeats 4000000 in
theorem ok_multiplied (T : Txt K mg) : FnOk P w K mg base CX0 7 T.f_multiplied T.d_multiplied P_multiplied (sp_multiplied K) := by
  have G_check_two := ok_check_two (P := P) (w := w) (base := base) T
  refine T.F_multiplied.ok sc_multiplied (fun vs H Q E h => ?_) (fun cdv A outer s H vs Q E hr h => ?_)
  · obtain ⟨n, i, j, rfl, _⟩ := h; rfl
  · obtain ⟨n, i, j, rfl, h1, h2, h3, h4, h5, h6, q⟩ := h
    refine ⟨_, (pss_cons (ps_expr (pe_call G_check_two (hr.mono (by decide)) (by rfl) T.m_check_two T.F_check_two.kp T.b_check_two .nil pass0 (pa_cons (pv 0) (pa_cons (pv 1) (pa_cons (pv 2) pa_nil)))))
      (pss_cons (ps_set (i := 3) sc_multiplied.nd rfl (Or.inl rfl) (pe_op op_mulA (pv 1) (pv 2)))
      (pss_one (ps_ret (pe_tup (pa_cons (pe_op op_mod (pv 3) (pe_op op_shl pe_int (pv 0))) (pa_cons (pe_op op_shr (pv 3) (pv 0)) pa_nil))))))), ?_⟩
    walk_at "rd"
    have hp : (2 : Int) ^ n ≤ 2 ^ 32 := pow_le h2
    have hq := pow_pos' n
    refine ⟨_, _, _, rfl, h1, h2, h3, h4, h5, h6, mulL (by omega), ⟨by omega, by omega, by decide⟩, by rw [Int.one_mul]; exact hq, by omega, by decide, fun p hp => ?_⟩
    rw [Int.one_mul]; exact q p hp
def sp_divided (K : PySem.W.Frag) : Sp := fun vs H Q _ => ∃ (n : Nat) (i j : Int), vs = [.int n, .int i, .int j] ∧ 1 ≤ n ∧ n ≤ 32 ∧ 0 ≤ i ∧ i < 2 ^ n ∧ 0 < j ∧ j < 2 ^ n ∧ ∀ p, H p = none → Q (.ref p) (upd H p (.tup [.int (i / j), .int (i % j)]))
set_option maxHeartbeats 4000000 in
theorem ok_divided (T : Txt K mg) : FnOk P w K mg base CX0 7 T.f_divided T.d_divided P_divided (sp_divided K) := by
  have G_check_two := ok_check_two (P := P) (w := w) (base := base) T
  refine T.F_divided.ok sc_divided (fun vs H Q E h => ?_) (fun cdv A outer s H vs Q E hr h => ?_)
  · obtain ⟨n, i, j, rfl, _⟩ := h; rfl
  · obtain ⟨n, i, j, rfl, h1, h2, h3, h4, h5, h6, q⟩ := h
    refine ⟨_, (pss_cons (ps_expr (pe_call G_check_two (hr.mono (by decide)) (by rfl) T.m_check_two T.F_check_two.kp T.b_check_two .nil pass0 (pa_cons (pv 0) (pa_cons (pv 1) (pa_cons (pv 2) pa_nil)))))
      (pss_cons (ps_if (pt_cmpR op_eq (pv 2) pe_int (nomark _)) pss_never pss_nil)
      (pss_one (ps_ret (pe_tup (pa_cons (pe_op op_fdivW (pv 1) (pv 2)) (pa_cons (pe_op op_mod (pv 1) (pv 2)) pa_nil))))))), ?_⟩
    walk_at "rd"
    have hp : (2 : Int) ^ n ≤ 2 ^ 32 := pow_le h2
    refine ⟨_, _, _, rfl, h1, h2, h3, h4, by omega, h6, ?_⟩
    refine ite2 (fun e => absurd e (by omega)) (fun _ => ⟨divw 40 h5 (by omega), h5, by decide, fun p hp => q p hp⟩)
def sp_moved_left (K : PySem.W.Frag) : Sp := fun vs H Q _ => ∃ (n k : Nat) (i : Int), vs = [.int n, .int i, .int k] ∧ 1 ≤ n ∧ n ≤ 32 ∧ 0 ≤ i ∧ i < 2 ^ n ∧ k ≤ 63 ∧ Q (.int (i * 2 ^ k % 2 ^ n)) H
set_option maxHeartbeats 4000000 in
theorem ok_moved_left (T : Txt K mg) : FnOk P w K mg base CX0 6 T.f_moved_left T.d_moved_left P_moved_left (sp_moved_left K) := by
  have G_check_one := ok_check_one (P := P) (w := w) (base := base) T
  have G_check_number := ok_check_number (P := P) (w := w) (base := base) T
  refine T.F_moved_left.ok sc_moved_left (fun vs H Q E h => ?_) (fun cdv A outer s H vs Q E hr h => ?_)
  · obtain ⟨n, k, i, rfl, _⟩ := h; rfl
  · obtain ⟨n, k, i, rfl, h1, h2, h3, h4, h5, q⟩ := h
    refine ⟨_, (pss_cons (ps_expr (pe_call G_check_one (hr.mono (by decide)) (by rfl) T.m_check_one T.F_check_one.kp T.b_check_one .nil pass0 (pa_cons (pv 0) (pa_cons (pv 1) pa_nil))))
      (pss_cons (ps_expr (pe_call G_check_number (hr.mono (by decide)) (by rfl) T.m_check_number T.F_check_number.kp T.b_check_number .nil pass0 (pa_cons (pv 2) (pa_cons pe_int (pa_cons (pe_glob (by rfl) T.c_MAX_PLACES T.r_MAX_PLACES) pa_nil)))))
      (pss_one (ps_ret (pe_op op_mod (pe_op op_shl (pv 1) (pv 2)) (pe_op op_shl pe_int (pv 0))))))), ?_⟩
    walk_at "rd"
    have hp : (2 : Int) ^ n ≤ 2 ^ 32 := pow_le h2
    refine ⟨_, _, rfl, h1, h2, h3, h4, _, _, _, rfl, .int, btw_ok (by omega) (by omega) (by omega) (by omega), ⟨by omega, by omega, by omega⟩, ⟨by omega, by omega, by decide⟩, by rw [Int.one_mul]; exact pow_pos' n, ?_⟩
    rw [Int.one_mul]; exact q
def sp_moved_right (K : PySem.W.Frag) : Sp := fun vs H Q _ => ∃ (n k : Nat) (i : Int), vs = [.int n, .int i, .int k] ∧ 1 ≤ n ∧ n ≤ 32 ∧ 0 ≤ i ∧ i < 2 ^ n ∧ k ≤ 63 ∧ Q (.int (i / 2 ^ k)) H
set_option maxHeartbeats 4000000 in
theorem ok_moved_right (T : Txt K mg) : FnOk P w K mg base CX0 6 T.f_moved_right T.d_moved_right P_moved_right (sp_moved_right K) := by
  have G_check_one := ok_check_one (P := P) (w := w) (base := base) T
  have G_check_number := ok_check_number (P := P) (w := w) (base := base) T
  refine T.F_moved_right.ok sc_moved_right (fun vs H Q E h => ?_) (fun cdv A outer s H vs Q E hr h => ?_)
  · obtain ⟨n, k, i, rfl, _⟩ := h; rfl
  · obtain ⟨n, k, i, rfl, h1, h2, h3, h4, h5, q⟩ := h
    refine ⟨_, (pss_cons (ps_expr (pe_call G_check_one (hr.mono (by decide)) (by rfl) T.m_check_one T.F_check_one.kp T.b_check_one .nil pass0 (pa_cons (pv 0) (pa_cons (pv 1) pa_nil))))
      (pss_cons (ps_expr (pe_call G_check_number (hr.mono (by decide)) (by rfl) T.m_check_number T.F_check_number.kp T.b_check_number .nil pass0 (pa_cons (pv 2) (pa_cons pe_int (pa_cons (pe_glob (by rfl) T.c_MAX_PLACES T.r_MAX_PLACES) pa_nil)))))
      (pss_one (ps_ret (pe_op op_shr (pv 1) (pv 2)))))), ?_⟩
    walk_at "rd"
    exact ⟨_, _, rfl, h1, h2, h3, h4, _, _, _, rfl, .int, btw_ok (by omega) (by omega) (by omega) (by omega), by omega, q⟩
def sp_law_dice (K : PySem.W.Frag) : Sp := fun vs H Q _ => ∃ (a : Addr) (ns : List Int) (k : Nat), vs = [.ref a, .int k] ∧ SqL K H a (ns.map V.int) ∧ k ≤ 1000 ∧ ∀ l m p, 0 ≤ l → 0 ≤ m → H p = none → Q (.ref p) (upd H p (dice3 l m 0))
set_option maxHeartbeats 4000000 in
theorem ok_law_dice (T : Txt K mg) : FnOk P w K mg base CX0 1 T.f_law_dice T.d_law_dice P_law_dice (sp_law_dice K) := by
  refine T.F_law_dice.ok sc_law_dice (fun vs H Q E h => ?_) (fun cdv A outer s H vs Q E hr h => ?_)
  · obtain ⟨a, ns, k, rfl, _⟩ := h; rfl
  · obtain ⟨a, ns, k, rfl, hS, hk, q⟩ := h
    refine ⟨_, (pss_cons (ps_set (i := 2) sc_law_dice.nd rfl (Or.inl rfl) (pe_op op_add (pe_op op_mulA pe_int (pv 1)) pe_int))
      (pss_cons (ps_if (pt_cmpR op_lt (pv 1) (pe_callB call_len_seq (by rfl) T.n_len (by decide +kernel) (pa_cons (pv 0) pa_nil)) (nomark _)) (pss_one (ps_set (i := 2) sc_law_dice.nd rfl (Or.inl rfl) (pe_ix ix_list (pv 0) (pv 1) (fun _ _ => rfl)))) pss_nil)
      (pss_cons (ps_set (i := 3) sc_law_dice.nd rfl (Or.inl rfl) (pe_op op_mod (pe_callTy call_int1 (by rfl) T.n_int (by decide +kernel) (pa_cons (pe_callB call_abs (by rfl) T.n_abs (by decide +kernel) (pa_cons (pv 2) pa_nil)) pa_nil)) (pe_op op_powW (pe_op op_powW pe_int pe_int) pe_int)))
      (pss_cons (ps_set (i := 4) sc_law_dice.nd rfl (Or.inl rfl) (pe_op op_fdivW (pv 3) (pe_op op_powW pe_int pe_int)))
      (pss_cons (ps_set (i := 5) sc_law_dice.nd rfl (Or.inl rfl) (pe_op op_add (pe_op op_add (pe_op op_add (pe_op op_mulA (pe_op op_mod (pv 3) pe_int) pe_int) (pe_op op_mulA pe_int (pv 1))) (pe_op op_mulA pe_int (pe_callTy call_int1 (by rfl) T.n_int (by decide +kernel) (pa_cons (pe_cmpR op_lt (pv 2) pe_int (nomark _)) pa_nil)))) pe_int))
      (pss_one (ps_ret (pe_lst (pa_cons (pv 4) (pa_cons (pe_op op_mod (pv 5) pe_int) (pa_cons pe_int pa_nil))))))))))), ?_⟩
    walk_at "rd"
    have hM : (0 : Int) < (10 ^ Int.toNat 62) ^ Int.toNat 10 := by decide +kernel
    have hD : (0 : Int) < 10 ^ Int.toNat 18 := by decide +kernel
    have p1 : CPowW 10 62 := ⟨by decide, by decide +kernel⟩
    have p2 : CPowW (10 ^ Int.toNat 62) 10 := ⟨by decide, by decide +kernel⟩
    have p3 : CPowW 10 18 := ⟨by decide, by decide +kernel⟩
    have d1 : ∀ x : Int, CDivW x (10 ^ Int.toNat 18) := fun x => divw 100 hD (by decide +kernel)
    refine ⟨mulL (by decide), ns.map V.int, .inl hS, ?_⟩
    refine ite2 (fun hlt => ?_) (fun hlt => ?_)
    · have hlt' : k < ns.length := by simpa using hlt
      refine ixL (v := .int ns[k]) hS (atI_nat (by simp [hlt'])) ⟨ns[k], rfl, p1, p2, hM, p3, d1 _, by decide, mulR (by decide), mulL (by decide), ns[k], rfl, mulL (by decide), by decide, by decide, fun p hp => q _ _ p ?_ ?_ hp⟩
      · exact Int.ediv_nonneg (mod_bd hM).1 (by omega)
      · exact (mod_bd (by decide)).1
    · refine ⟨p1, p2, hM, p3, d1 _, by decide, mulR (by decide), mulL (by decide), mulL (by decide), by decide, by decide, fun p hp => q _ _ p ?_ ?_ hp⟩
      · exact Int.ediv_nonneg (mod_bd hM).1 (by omega)
      · exact (mod_bd (by decide)).1
def sp_law_roll (K : PySem.W.Frag) : Sp := fun vs H Q _ => ∃ (d : Addr) (t : Int), vs = [.ref d, .int t] ∧ DiceAt H d ∧ 0 < t ∧ t < 2 ^ 4000 ∧ ∀ i l m n, 0 ≤ i → i < t → 0 ≤ l → 0 ≤ m → 0 ≤ n → Q (.int i) (upd H d (dice3 l m n))
set_option maxHeartbeats 4000000 in
theorem ok_law_roll (T : Txt K mg) : FnOk P w K mg base CX0 1 T.f_law_roll T.d_law_roll P_law_roll (sp_law_roll K) := by
  refine T.F_law_roll.ok sc_law_roll (fun vs H Q E h => ?_) (fun cdv A outer s H vs Q E hr h => ?_)
  · obtain ⟨d, t, rfl, _⟩ := h; rfl
  · obtain ⟨d, t, rfl, ⟨l, m, n, hl, hm, hn, hd⟩, h0, h1, q⟩ := h
    refine ⟨_, (pss_cons (ps_set (i := 2) sc_law_roll.nd rfl (Or.inl rfl) (pe_callTy call_int1 (by rfl) T.n_int (by decide +kernel) (pa_cons (pv 1) pa_nil)))
      (pss_cons (ps_if (pt_cmpR op_gt (pe_ix ix_list (pv 0) pe_int (fun _ _ => rfl)) pe_int (nomark _)) (pss_cons (ps_set (i := 3) sc_law_roll.nd rfl (Or.inl rfl) (pe_op op_mod (pe_ix ix_list (pv 0) pe_int (fun _ _ => rfl)) (pv 2)))
      (pss_cons (ps_asg (pe_op op_fdivW (pe_ix ix_list (pv 0) pe_int (fun _ _ => rfl)) (pv 2)) (pg_sub (pv 0) pe_int set_list))
      (pss_one (ps_ret (pe_callTy call_int1 (by rfl) T.n_int (by decide +kernel) (pa_cons (pv 3) pa_nil)))))) pss_nil)
      (pss_cons (ps_asg (pe_op op_add (pe_ix ix_list (pv 0) pe_int (fun _ _ => rfl)) pe_int) (pg_sub (pv 0) pe_int set_list))
      (pss_cons (ps_set (i := 4) sc_law_roll.nd rfl (Or.inl rfl) (pe_op op_mod (pe_op op_add (pe_ix ix_list (pv 0) pe_int (fun _ _ => rfl)) (pe_op op_mulA pe_int (pe_ix ix_list (pv 0) pe_int (fun _ _ => rfl)))) pe_int))
      (pss_cons (ps_set (i := 5) sc_law_roll.nd rfl (Or.inl rfl) (pe_op op_add (pe_op op_mulA (pe_op op_mod (pe_op op_mulA (pv 4) (pv 4)) pe_int) (pv 4)) (pe_op op_mulA pe_int (pe_ix ix_list (pv 0) pe_int (fun _ _ => rfl)))))
      (pss_cons (ps_set (i := 5) sc_law_roll.nd rfl (Or.inl rfl) (pe_op op_mod (pv 5) pe_int))
      (pss_one (ps_ret (pe_callTy call_int1 (by rfl) T.n_int (by decide +kernel) (pa_cons (pe_op op_mod (pe_op op_fdivW (pv 5) pe_int) (pv 2)) pa_nil)))))))))), ?_⟩
    walk_at "rd"
    refine ixM hd (v := .int l) rfl ⟨l, rfl, ite2 (fun hl0 => ?_) (fun hl0 => ?_)⟩
    · refine ixM hd (v := .int l) rfl ⟨l, rfl, h0, ixM hd (v := .int l) rfl ⟨l, rfl, divw 4000 h0 (by omega), setL hd (j := 0) rfl ?_⟩⟩
      exact q _ _ m n (mod_bd h0).1 (mod_bd h0).2 (Int.ediv_nonneg hl (by omega)) hm hn
    · refine ixM hd (v := .int n) rfl ⟨n, rfl, setL hd (j := 2) rfl (ixM upd_same (v := .int m) rfl (ixM upd_same (v := .int (n + 1)) rfl ⟨_, rfl, mulL (by decide), _, rfl, by decide, ?_⟩))⟩
      have b1 := mod_bd (a := m + 1000427 * (n + 1)) (b := 2305843009213693951) (by decide)
      generalize (m + 1000427 * (n + 1)) % 2305843009213693951 = one at b1 ⊢
      refine ⟨mulL (by omega), by decide, mulR (by omega), ixM upd_same (v := .int (n + 1)) rfl ⟨_, rfl, mulL (by decide), by decide, divw 20 (by decide) (by decide), h0, ?_⟩⟩
      exact q _ l m (n + 1) (mod_bd h0).1 (mod_bd h0).2 hl hm (by omega)
def sp_law_one_of (K : PySem.W.Frag) : Sp := fun vs H Q _ => ∃ (d a : Addr) (xs : List V), vs = [.ref d, .ref a] ∧ DiceAt H d ∧ d ≠ a ∧ SqL K H a xs ∧ 0 < xs.length ∧ xs.length ≤ 100000 ∧
  ∀ x l m n, x ∈ xs → 0 ≤ l → 0 ≤ m → 0 ≤ n → Q x (upd H d (dice3 l m n))
set_option maxHeartbeats 4000000 in
theorem ok_law_one_of (T : Txt K mg) : FnOk P w K mg base CX0 2 T.f_law_one_of T.d_law_one_of P_law_one_of (sp_law_one_of K) := by
  have G_law_roll := ok_law_roll (P := P) (w := w) (base := base) T
  refine T.F_law_one_of.ok sc_law_one_of (fun vs H Q E h => ?_) (fun cdv A outer s H vs Q E hr h => ?_)
  · obtain ⟨d, a, xs, rfl, _⟩ := h; rfl
  · obtain ⟨d, a, xs, rfl, hd, hda, hx, h0, h1, q⟩ := h
    refine ⟨_, (pss_one (ps_ret (pe_ix ix_list (pv 1) (pe_call G_law_roll (hr.mono (by decide)) (by rfl) T.m_law_roll T.F_law_roll.kp T.b_law_roll .nil pass0 (pa_cons (pv 0) (pa_cons (pe_callB call_len_seq (by rfl) T.n_len (by decide +kernel) (pa_cons (pv 1) pa_nil)) pa_nil))) (fun _ _ => rfl)))), ?_⟩
    walk_at "rd"
    refine ⟨xs, .inl hx, d, _, rfl, hd, by omega, Int.lt_of_le_of_lt (Int.ofNat_le.mpr h1) (by decide +kernel), fun i l m n hi hi2 hl hm hn => ?_⟩
    obtain ⟨k, rfl⟩ : ∃ k : Nat, i = k := ⟨i.toNat, by omega⟩
    have hk : k < xs.length := by omega
    exact ixL (sq_upd hda.symm hx) (atI_nat' hk) (q _ _ _ _ (List.getElem_mem hk) hl hm hn)
def sp_law_two_to (K : PySem.W.Frag) : Sp := fun vs H Q _ => ∃ n : Nat, vs = [.int n] ∧ n ≤ 100000 ∧ Q (.int (2 ^ n)) H
set_option maxHeartbeats 4000000 in
theorem ok_law_two_to (T : Txt K mg) : FnOk P w K mg base CX0 1 T.f_law_two_to T.d_law_two_to P_law_two_to (sp_law_two_to K) := by
  refine T.F_law_two_to.ok sc_law_two_to (fun vs H Q E h => ?_) (fun cdv A outer s H vs Q E hr h => ?_)
  · obtain ⟨n, rfl, _⟩ := h; rfl
  · obtain ⟨n, rfl, hn, q⟩ := h
    refine ⟨_, (pss_cons (ps_set (i := 1) sc_law_two_to.nd rfl (Or.inl rfl) pe_int)
      (pss_cons (ps_for PassesOwn.never rfl (pi_range1 (by rfl) T.n_range (pa_cons (pv 0) pa_nil)) (pg_name (i := 2) sc_law_two_to.nd rfl (Or.inl rfl)) (pss_one (ps_set (i := 1) sc_law_two_to.nd rfl (Or.inl rfl) (pe_op op_mulA pe_int (pv 1)))))
      (pss_one (ps_ret (pv 1))))), ?_⟩
    walk_at "rd"
    refine ⟨by omega, by omega, lpR n (fun i σ H' => H' = H ∧ ∃ t, σ = [some (.int n), some (.int (2 ^ i)), t]) ⟨rfl, _, rfl⟩ ?_ ?_⟩
    · rintro i σ H' hi ⟨rfl, t, rfl⟩
      walk_at "rd"
      exact ⟨mulL (by decide), by rw [Int.pow_succ, Int.mul_comm]⟩
    · rintro σ H' ⟨rfl, t, rfl⟩
      walk_at "rd"
      exact q
def sp_law_word_drawn (K : PySem.W.Frag) : Sp := fun vs H Q _ => ∃ (d : Addr) (w : Nat), vs = [.ref d, .int w] ∧ DiceAt H d ∧ 1 ≤ w ∧ w ≤ 64 ∧ ∀ i H', 0 ≤ i → i < 2 ^ w → ExD d H H' → DiceAt H' d → Q (.int i) H'
set_option maxHeartbeats 4000000 in
theorem ok_law_word_drawn (T : Txt K mg) : FnOk P w K mg base CX0 3 T.f_law_word_drawn T.d_law_word_drawn P_law_word_drawn (sp_law_word_drawn K) := by
  have G_law_two_to := ok_law_two_to (P := P) (w := w) (base := base) T
  have G_law_roll := ok_law_roll (P := P) (w := w) (base := base) T
  have G_law_one_of := ok_law_one_of (P := P) (w := w) (base := base) T
  refine T.F_law_word_drawn.ok sc_law_word_drawn (fun vs H Q E h => ?_) (fun cdv A outer s H vs Q E hr h => ?_)
  · obtain ⟨d, w, rfl, _⟩ := h; rfl
  · obtain ⟨d, w, rfl, hd, h1, h2, q⟩ := h
    refine ⟨_, (pss_cons (ps_set (i := 2) sc_law_word_drawn.nd rfl (Or.inl rfl) (pe_call G_law_two_to (hr.mono (by decide)) (by rfl) T.m_law_two_to T.F_law_two_to.kp T.b_law_two_to .nil pass0 (pa_cons (pv 1) pa_nil)))
      (pss_cons (ps_if (pt_cmpR op_eq (pe_call G_law_roll (hr.mono (by decide)) (by rfl) T.m_law_roll T.F_law_roll.kp T.b_law_roll .nil pass0 (pa_cons (pv 0) (pa_cons pe_int pa_nil))) pe_int (nomark _)) (pss_one (ps_ret (pe_call G_law_one_of (hr.mono (by decide)) (by rfl) T.m_law_one_of T.F_law_one_of.kp T.b_law_one_of .nil pass0 (pa_cons (pv 0) (pa_cons (pe_lst (pa_cons pe_int (pa_cons pe_int (pa_cons (pe_op op_sub (pv 2) pe_int) (pa_cons (pe_op op_fdivW (pv 2) pe_int) (pa_cons (pe_op op_sub (pe_op op_fdivW (pv 2) pe_int) pe_int) pa_nil)))))) pa_nil))))) pss_nil)
      (pss_one (ps_ret (pe_call G_law_roll (hr.mono (by decide)) (by rfl) T.m_law_roll T.F_law_roll.kp T.b_law_roll .nil pass0 (pa_cons (pv 0) (pa_cons (pv 2) pa_nil))))))), ?_⟩
    walk_at "rd"
    have hp := pow_pos' w
    have hp2 := pow64 h2
    have hp3 : (2 : Int) ≤ 2 ^ w := pow_le h1
    refine ⟨w, rfl, by omega, d, _, rfl, hd, by decide, by decide +kernel, fun i l m n hi hi2 hl hm hn => ?_⟩
    have ed := dice_upd hl hm hn (H := H) (d := d)
    have ex := exd_upd (H := H) (d := d) (o := dice3 l m n)
    walk_at "rd"
    refine ite2 (fun hz => ?_) (fun hz => ?_)
    · refine ⟨divw 3 (by decide) (by decide), divw 3 (by decide) (by decide), by decide, fun p hp' => ⟨d, p, _, rfl, ?_, ?_, .inl (.inl upd_same), by simp, by simp, fun x l' m' n' hx hl' hm' hn' => ?_⟩⟩
      · exact ed.new hp'
      · exact ed.ne hp'
      · simp only [List.mem_cons, List.mem_nil_iff, or_false] at hx
        have e2 := (ex.trans (exd_new (o := .lst [.int 0, .int 1, .int (2 ^ w - 1), .int (2 ^ w / 2), .int (2 ^ w / 2 - 1)]) hp')).trans (exd_upd (d := d) (o := dice3 l' m' n'))
        have e3 := dice_upd hl' hm' hn' (H := upd (upd H d (dice3 l m n)) p (.lst [.int 0, .int 1, .int (2 ^ w - 1), .int (2 ^ w / 2), .int (2 ^ w / 2 - 1)])) (d := d)
        rcases hx with rfl | rfl | rfl | rfl | rfl <;> exact q _ _ (by omega) (by omega) e2 e3
    · exact ⟨d, _, rfl, ed, hp, Int.lt_of_le_of_lt hp2 (by decide +kernel), fun i l' m' n' hi hi2 hl' hm' hn' => q _ _ hi hi2 (ex.trans exd_upd) (dice_upd hl' hm' hn')⟩
def sp_law_bits (K : PySem.W.Frag) : Sp := fun vs H Q _ => ∃ (n : Nat) (i : Int), vs = [.int n, .int i] ∧ n ≤ 10000 ∧ ∀ p, H p = none → Q (.ref p) (upd H p (.lst ((bitsL n i).map V.int)))
set_option maxHeartbeats 4000000 in
theorem ok_law_bits (T : Txt K mg) : FnOk P w K mg base CX0 1 T.f_law_bits T.d_law_bits P_law_bits (sp_law_bits K) := by
  refine T.F_law_bits.ok sc_law_bits (fun vs H Q E h => ?_) (fun cdv A outer s H vs Q E hr h => ?_)
  · obtain ⟨n, i, rfl, _⟩ := h; rfl
  · obtain ⟨n, i, rfl, hn, q⟩ := h
    refine ⟨_, (pss_cons (ps_par (i := 2) (j := 3) (by rfl) sc_law_bits.nd rfl rfl (by decide) rfl rfl (pa_cons (pe_lst pa_nil) (pa_cons (pv 1) pa_nil)) (by rfl))
      (pss_cons (ps_for PassesOwn.never rfl (pi_range1 (by rfl) T.n_range (pa_cons (pv 0) pa_nil)) (pg_name (i := 4) sc_law_bits.nd rfl (Or.inl rfl)) (pss_cons (ps_expr (pe_bm PySem.F.plainAttrs_list PySem.F.slot_list_append PySem.F.type_list_append mt_append (pv 2) (pa_cons (pe_op op_mod (pv 3) pe_int) pa_nil)))
      (pss_one (ps_set (i := 3) sc_law_bits.nd rfl (Or.inl rfl) (pe_op op_fdivW (pv 3) pe_int)))))
      (pss_one (ps_ret (pv 2))))), ?_⟩
    walk_at "rd"
    refine ⟨Nat.zero_le _, fun p hp => ⟨by omega, by omega, lpR n (fun k σ H' => H' = upd H p (.lst ((bitsL k i).map V.int)) ∧ ∃ t, σ = [some (.int n), some (.int i), some (.ref p), some (.int (i / 2 ^ k)), t]) ⟨rfl, none, by simp⟩ ?_ ?_⟩⟩
    · rintro k σ H' hk ⟨rfl, t, rfl⟩
      walk_at "rd"
      refine ⟨.inl ⟨rfl, _, .inl (.inl upd_same)⟩, by decide, p, _, _, rfl, rfl, upd_same, by rw [List.length_map, bitsL_len, sizeLine_eq]; omega, divw 2 (by decide) (by decide), ?_, ?_⟩
      · rw [upd_upd, bitsL_succ, List.map_append]; rfl
      · rw [Int.pow_succ, Int.ediv_ediv_of_nonneg (Int.le_of_lt (pow_pos' k))]
    · rintro σ H' ⟨rfl, t, rfl⟩
      walk_at "rd"
      exact q p hp
def sp_law_of_bits (K : PySem.W.Frag) : Sp := fun vs H Q _ => ∃ (a : Addr) (ns : List Int), vs = [.ref a] ∧ (SqL K H a (ns.map V.int) ∨ SqT K H a (ns.map V.int)) ∧ ns.length ≤ 10000 ∧ ∀ H', Ex H H' → Q (.int (ofB ns)) H'
set_option maxHeartbeats 4000000 in
theorem ok_law_of_bits (T : Txt K mg) : FnOk P w K mg base CX0 1 T.f_law_of_bits T.d_law_of_bits P_law_of_bits (sp_law_of_bits K) := by
  refine T.F_law_of_bits.ok sc_law_of_bits (fun vs H Q E h => ?_) (fun cdv A outer s H vs Q E hr h => ?_)
  · obtain ⟨a, ns, rfl, _⟩ := h; rfl
  · obtain ⟨a, ns, rfl, hx, hn, q⟩ := h
    refine ⟨_, (pss_cons (ps_set (i := 1) sc_law_of_bits.nd rfl (Or.inl rfl) pe_int)
      (pss_cons (ps_for PassesOwn.never rfl (pi_list (pe_revL (pe_callTy call_list_of (by rfl) T.n_list (by decide +kernel) (pa_cons (pv 0) pa_nil)))) (pg_name (i := 2) sc_law_of_bits.nd rfl (Or.inl rfl)) (pss_one (ps_set (i := 1) sc_law_of_bits.nd rfl (Or.inl rfl) (pe_op op_add (pe_op op_mulA pe_int (pv 1)) (pv 2)))))
      (pss_one (ps_ret (pv 1))))), ?_⟩
    walk_at "rd"
    refine ⟨_, hx, fun l hl => ⟨_, .inl (.inl upd_same), fun p hp => ⟨⟨_, .inl (.inl upd_same)⟩, ?_⟩⟩⟩
    have e1 : Ex H (upd (upd H l (.lst (ns.map V.int))) p (.lst (ns.map V.int).reverse)) := (ex_upd hl).trans (ex_upd hp)
    refine lpL (xs := (ns.map V.int).reverse) (fun k σ H' => H' = upd (upd H l (.lst (ns.map V.int))) p (.lst (ns.map V.int).reverse) ∧ ∃ t, σ = [some (.ref a), some (.int (ofB (ns.drop (ns.length - k)))), t]) ⟨rfl, none, by simp [ofB]⟩ (by rintro k σ' H' _ ⟨rfl, _⟩; exact .inl (.inl upd_same)) ?_ ?_
    · rintro k x σ H' hx ⟨rfl, t, rfl⟩
      rw [← List.map_reverse] at hx
      obtain ⟨z, hz, rfl⟩ := ints_get hx
      walk_at "rd"
      have hk : k < ns.length := by
        have := (List.getElem?_eq_some_iff.mp hz).1
        rwa [List.length_reverse] at this
      refine ⟨mulL (by decide), ?_⟩
      rw [List.getElem?_reverse hk] at hz
      have e2 : ns.length - k = ns.length - (k + 1) + 1 := by omega
      have e3 : ns.length - 1 - k = ns.length - (k + 1) := by omega
      rw [e3] at hz
      have h6 := (List.getElem?_eq_some_iff.mp hz).2
      have e4 : ns.drop (ns.length - (k + 1)) = z :: ns.drop (ns.length - k) := by
        rw [List.drop_eq_getElem_cons (show ns.length - (k + 1) < ns.length by omega), h6, ← e2]
      rw [e4]; rfl
    · rintro σ H' ⟨rfl, t, rfl⟩
      walk_at "rd"
      rw [List.length_reverse, List.length_map, Nat.sub_self, List.drop_zero]
      exact q _ e1
def sp_law_width_drawn (K : PySem.W.Frag) : Sp := fun vs H Q _ => ∃ (d : Addr), vs = [.ref d] ∧ DiceAt H d ∧ ∀ (w : Nat) H', 1 ≤ w → w ≤ 32 → ExD d H H' → DiceAt H' d → Q (.int w) H'
set_option maxHeartbeats 4000000 in
theorem ok_law_width_drawn (T : Txt K mg) : FnOk P w K mg base CX0 3 T.f_law_width_drawn T.d_law_width_drawn P_law_width_drawn (sp_law_width_drawn K) := by
  have G_law_one_of := ok_law_one_of (P := P) (w := w) (base := base) T
  have G_law_roll := ok_law_roll (P := P) (w := w) (base := base) T
  refine T.F_law_width_drawn.ok sc_law_width_drawn (fun vs H Q E h => ?_) (fun cdv A outer s H vs Q E hr h => ?_)
  · obtain ⟨d, rfl, _⟩ := h; rfl
  · obtain ⟨d, rfl, hd, q⟩ := h
    refine ⟨_, (pss_one (ps_ret (pe_call G_law_one_of (hr.mono (by decide)) (by rfl) T.m_law_one_of T.F_law_one_of.kp T.b_law_one_of .nil pass0 (pa_cons (pv 0) (pa_cons (pe_lst (pa_cons pe_int (pa_cons pe_int (pa_cons pe_int (pa_cons pe_int (pa_cons pe_int (pa_cons pe_int (pa_cons pe_int (pa_cons pe_int (pa_cons pe_int (pa_cons (pe_op op_add pe_int (pe_call G_law_roll (hr.mono (by decide)) (by rfl) T.m_law_roll T.F_law_roll.kp T.b_law_roll .nil pass0 (pa_cons (pv 0) (pa_cons pe_int pa_nil)))) pa_nil))))))))))) pa_nil))))), ?_⟩
    walk_at "rd"
    refine ⟨d, _, rfl, hd, by decide, by decide +kernel, fun i l m n hi hi2 hl hm hn => ?_⟩
    have ed := dice_upd hl hm hn (H := H) (d := d)
    have ex := exd_upd (H := H) (d := d) (o := dice3 l m n)
    walk_at "rd"
    refine ⟨by decide, fun p hp' => ⟨d, p, _, rfl, ed.new hp', ed.ne hp', .inl (.inl upd_same), by simp, by simp, fun x l' m' n' hx hl' hm' hn' => ?_⟩⟩
    have e2 := (ex.trans (exd_new (o := .lst [.int 1, .int 2, .int 3, .int 4, .int 5, .int 8, .int 16, .int 31, .int 32, .int (1 + i)]) hp')).trans (exd_upd (d := d) (o := dice3 l' m' n'))
    obtain ⟨k, rfl⟩ : ∃ k : Nat, i = k := ⟨i.toNat, by omega⟩
    simp only [List.mem_cons, List.mem_nil_iff, or_false] at hx
    have q' : ∀ j : Int, 1 ≤ j → j ≤ 32 → Q (.int j) _ := fun j h1 h2 => by
      have := q j.toNat _ (by omega) (by omega) e2 (dice_upd hl' hm' hn')
      rwa [Int.toNat_of_nonneg (by omega)] at this
    rcases hx with rfl | rfl | rfl | rfl | rfl | rfl | rfl | rfl | rfl | rfl <;> exact q' _ (by omega) (by omega)
def sp_law_product (K : PySem.W.Frag) : Sp := fun vs H Q _ => ∃ (n : Nat) (i j : Int), vs = [.int n, .int i, .int j] ∧ 1 ≤ n ∧ n ≤ 32 ∧ 0 ≤ i ∧ i < 2 ^ n ∧ 0 ≤ j ∧ j < 2 ^ n ∧
  ∀ p H', H p = none → Ex H H' → H' p = some (.tup [.int (i * j % 2 ^ n), .int (i * j / 2 ^ n)]) → Q (.ref p) H'
set_option maxHeartbeats 4000000 in
theorem ok_law_product (T : Txt K mg) : FnOk P w K mg base CX0 2 T.f_law_product T.d_law_product P_law_product (sp_law_product K) := by
  have G_law_bits := ok_law_bits (P := P) (w := w) (base := base) T
  have G_law_two_to := ok_law_two_to (P := P) (w := w) (base := base) T
  refine T.F_law_product.ok sc_law_product (fun vs H Q E h => ?_) (fun cdv A outer s H vs Q E hr h => ?_)
  · obtain ⟨n, i, j, rfl, _⟩ := h; rfl
  · obtain ⟨n, i, j, rfl, h1, h2, h3, h4, h5, h6, q⟩ := h
    refine ⟨_, (pss_cons (ps_set (i := 3) sc_law_product.nd rfl (Or.inl rfl) pe_int)
      (pss_cons (ps_for PassesOwn.never rfl (pi_enum (by rfl) T.n_enumerate (pa_cons (pe_call G_law_bits (hr.mono (by decide)) (by rfl) T.m_law_bits T.F_law_bits.kp T.b_law_bits .nil pass0 (pa_cons (pv 0) (pa_cons (pv 1) pa_nil))) pa_nil)) (pg_tup (n := 2) rfl (pgs_cons (pg_name (i := 4) sc_law_product.nd rfl (Or.inl rfl)) (pgs_cons (pg_name (i := 5) sc_law_product.nd rfl (Or.inl rfl)) pgs_nil))) (pss_one (ps_set (i := 3) sc_law_product.nd rfl (Or.inl rfl) (pe_op op_add (pv 3) (pe_op op_mulA (pe_op op_mulA (pv 5) (pe_call G_law_two_to (hr.mono (by decide)) (by rfl) T.m_law_two_to T.F_law_two_to.kp T.b_law_two_to .nil pass0 (pa_cons (pv 4) pa_nil))) (pv 2))))))
      (pss_one (ps_ret (pe_tup (pa_cons (pe_op op_mod (pv 3) (pe_call G_law_two_to (hr.mono (by decide)) (by rfl) T.m_law_two_to T.F_law_two_to.kp T.b_law_two_to .nil pass0 (pa_cons (pv 0) pa_nil))) (pa_cons (pe_op op_fdivW (pv 3) (pe_call G_law_two_to (hr.mono (by decide)) (by rfl) T.m_law_two_to T.F_law_two_to.kp T.b_law_two_to .nil pass0 (pa_cons (pv 0) pa_nil))) pa_nil))))))), ?_⟩
    walk_at "rd"
    have hp : (2 : Int) ^ n ≤ 2 ^ 32 := pow_le h2
    have hq := pow_pos' n
    refine ⟨n, i, rfl, by omega, fun b hb => ?_⟩
    walk_at "rd"
    refine ⟨⟨_, .inl (.inl upd_same)⟩, ?_⟩
    have ex0 : Ex H (upd H b (.lst ((bitsL n i).map V.int))) := ex_upd hb
    refine lpE (fun k σ H' => Ex (upd H b (.lst ((bitsL n i).map V.int))) H' ∧ ∃ t u, σ = [some (.int n), some (.int i), some (.int j), some (.int (i % 2 ^ k * j)), t, u]) ⟨Ex.refl _, none, none, by simp [Int.emod_one]⟩ (by rintro k σ' H' _ ⟨e, _⟩; exact e.seq (.inl (.inl upd_same))) ?_ ?_
    · rintro k x t σ H' hx ⟨e, t4, t5, rfl⟩ ht
      obtain ⟨z, hz, rfl⟩ := ints_get hx
      have hk : k < n := by
        have := (List.getElem?_eq_some_iff.mp hz).1
        rwa [bitsL_len] at this
      have ez : z = i / 2 ^ k % 2 := by
        unfold bitsL at hz
        rw [List.getElem?_map, List.getElem?_range hk] at hz
        exact (Option.some.inj hz).symm
      have hz2 : 0 ≤ z ∧ z < 2 := by rw [ez]; omega
      walk_at "rd"
      refine ⟨_, .inl (.inl upd_same), rfl, ?_⟩
      walk_at "rd"
      refine ⟨k, rfl, by omega, ?_⟩
      walk_at "rd"
      refine ⟨mulL (by omega), mulR (by omega), ?_⟩
      refine ⟨e.trans (ex_upd ht), ?_⟩
      rw [Int.pow_succ, emod_two_mul (pow_pos' k), ← ez, Int.add_mul, Int.mul_comm z]
    · rintro σ H' ⟨e, t4, t5, rfl⟩
      walk_at "rd"
      rw [List.length_map, bitsL_len, Int.emod_eq_of_lt h3 h4]
      refine ⟨n, rfl, by omega, ?_⟩
      walk_at "rd"
      refine ⟨hq, n, rfl, by omega, ?_⟩
      walk_at "rd"
      refine ⟨divw 33 hq (by omega), by decide, fun p hp => ?_⟩
      exact q p _ ((ex0.trans e).fresh hp) ((ex0.trans e).trans (ex_upd hp)) upd_same
def sp_law_quotient (K : PySem.W.Frag) : Sp := fun vs H Q _ => ∃ (n : Nat) (i j : Int), vs = [.int n, .int i, .int j] ∧ 1 ≤ n ∧ n ≤ 32 ∧ 0 ≤ i ∧ i < 2 ^ n ∧ 0 < j ∧ j < 2 ^ n ∧
  ∀ p H', H p = none → Ex H H' → H' p = some (.tup [.int (i / j), .int (i % j)]) → Q (.ref p) H'
set_option maxHeartbeats 4000000 in
theorem ok_law_quotient (T : Txt K mg) : FnOk P w K mg base CX0 2 T.f_law_quotient T.d_law_quotient P_law_quotient (sp_law_quotient K) := by
  have G_law_bits := ok_law_bits (P := P) (w := w) (base := base) T
  refine T.F_law_quotient.ok sc_law_quotient (fun vs H Q E h => ?_) (fun cdv A outer s H vs Q E hr h => ?_)
  · obtain ⟨n, i, j, rfl, _⟩ := h; rfl
  · obtain ⟨n, i, j, rfl, h1, h2, h3, h4, h5, h6, q⟩ := h
    refine ⟨_, (pss_cons (ps_asg (pe_tup (pa_cons pe_int (pa_cons pe_int pa_nil))) (pg_tup (n := 2) rfl (pgs_cons (pg_name (i := 3) sc_law_quotient.nd rfl (Or.inl rfl)) (pgs_cons (pg_name (i := 4) sc_law_quotient.nd rfl (Or.inl rfl)) pgs_nil))))
      (pss_cons (ps_for PassesOwn.never rfl (pi_list (pe_revL (pe_call G_law_bits (hr.mono (by decide)) (by rfl) T.m_law_bits T.F_law_bits.kp T.b_law_bits .nil pass0 (pa_cons (pv 0) (pa_cons (pv 1) pa_nil))))) (pg_name (i := 5) sc_law_quotient.nd rfl (Or.inl rfl)) (pss_cons (ps_set (i := 3) sc_law_quotient.nd rfl (Or.inl rfl) (pe_op op_add (pe_op op_mulA pe_int (pv 3)) (pv 5)))
      (pss_cons (ps_set (i := 4) sc_law_quotient.nd rfl (Or.inl rfl) (pe_op op_add (pe_op op_mulA pe_int (pv 4)) (pe_callTy call_int1 (by rfl) T.n_int (by decide +kernel) (pa_cons (pe_cmpR op_ge (pv 3) (pv 2) (nomark _)) pa_nil))))
      (pss_one (ps_set (i := 3) sc_law_quotient.nd rfl (Or.inl rfl) (pe_ifExp (pt_cmpR op_ge (pv 3) (pv 2) (nomark _)) (pe_op op_sub (pv 3) (pv 2)) (pv 3)))))))
      (pss_one (ps_ret (pe_tup (pa_cons (pv 4) (pa_cons (pv 3) pa_nil))))))), ?_⟩
    walk_at "rd"
    have hp : (2 : Int) ^ n ≤ 2 ^ 32 := pow_le h2
    have hq := pow_pos' n
    refine ⟨by decide, fun c hc => ⟨_, .inl (.inl upd_same), rfl, ?_⟩⟩
    walk_at "rd"
    refine ⟨n, i, rfl, by omega, fun b hb => ?_⟩
    walk_at "rd"
    refine ⟨_, .inl (.inl upd_same), fun r hr' => ⟨⟨_, .inl (.inl upd_same)⟩, ?_⟩⟩
    generalize hHc : upd H c (.tup [.int 0, .int 0]) = Hc at *
    have exc : Ex H Hc := by rw [← hHc]; exact ex_upd hc
    have ex0 : Ex H (upd (upd Hc b (.lst ((bitsL n i).map V.int))) r (.lst ((bitsL n i).map V.int).reverse)) := exc.trans ((ex_upd hb).trans (ex_upd hr'))
    generalize hH0 : upd (upd Hc b (.lst ((bitsL n i).map V.int))) r (.lst ((bitsL n i).map V.int).reverse) = H0 at *
    have hr0 : SqL K H0 r ((bitsL n i).map V.int).reverse := by rw [← hH0]; exact .inl (.inl upd_same)
    refine lpL (xs := ((bitsL n i).map V.int).reverse) (fun k σ H' => H' = H0 ∧ ∃ t, σ = [some (.int n), some (.int i), some (.int j), some (.int (i / 2 ^ (n - k) % j)), some (.int (i / 2 ^ (n - k) / j)), t]) ⟨rfl, none, ?_⟩ (by rintro k σ' H' _ ⟨rfl, _⟩; exact hr0) ?_ ?_
    · rw [Nat.sub_zero, Int.ediv_eq_zero_of_lt h3 h4, Int.zero_emod, Int.zero_ediv]
    · rintro k x σ H' hx ⟨rfl, t, rfl⟩
      rw [← List.map_reverse] at hx
      obtain ⟨z, hz, rfl⟩ := ints_get hx
      have hk : k < n := by
        have := (List.getElem?_eq_some_iff.mp hz).1
        rwa [List.length_reverse, bitsL_len] at this
      have ez : z = i / 2 ^ (n - (k + 1)) % 2 := by
        rw [List.getElem?_reverse (by rw [bitsL_len]; exact hk), bitsL_len] at hz
        unfold bitsL at hz
        rw [List.getElem?_map, List.getElem?_range (by omega)] at hz
        have e3 : n - 1 - k = n - (k + 1) := by omega
        rw [e3] at hz
        exact (Option.some.inj hz).symm
      have en : n - k = n - (k + 1) + 1 := by omega
      have ed : i / 2 ^ (n - k) = i / 2 ^ (n - (k + 1)) / 2 := by
        rw [en, Int.pow_succ, Int.ediv_ediv_of_nonneg (Int.le_of_lt (pow_pos' _))]
      have hx0 : 0 ≤ i / 2 ^ (n - (k + 1)) := Int.ediv_nonneg h3 (Int.le_of_lt (pow_pos' _))
      generalize hX : i / 2 ^ (n - (k + 1)) = X at *
      rw [ed]
      have st := quot_step X j h5
      rw [← ez] at st
      walk_at "rd"
      refine ⟨mulL (by decide), mulL (by decide), ?_⟩
      refine ite2 (fun hge => ?_) (fun hge => ?_)
      · exact ⟨by rw [st.1, if_pos hge], st.2.symm⟩
      · exact ⟨by rw [st.1, if_neg hge], st.2.symm⟩
    · rintro σ H' ⟨rfl, t, rfl⟩
      walk_at "rd"
      rw [List.length_reverse, List.length_map, bitsL_len, Nat.sub_self, Int.pow_zero, Int.ediv_one]
      exact ⟨by decide, fun p hp => q p _ (ex0.fresh hp) (ex0.trans (ex_upd hp)) upd_same⟩
def sp_law_moves_right (K : PySem.W.Frag) : Sp := fun vs H Q _ => ∃ (d : Addr) (n : Nat) (i : Int), vs = [.ref d, .int n, .int i] ∧ DiceAt H d ∧ 1 ≤ n ∧ n ≤ 32 ∧ 0 ≤ i ∧ i < 2 ^ n ∧ ∀ H', ExD d H H' → DiceAt H' d → Q (.bl true) H'
set_option maxHeartbeats 4000000 in
theorem ok_law_moves_right (T : Txt K mg) : FnOk P w K mg base CX0 7 T.f_law_moves_right T.d_law_moves_right P_law_moves_right (sp_law_moves_right K) := by
  have G_law_bits := ok_law_bits (P := P) (w := w) (base := base) T
  have G_law_roll := ok_law_roll (P := P) (w := w) (base := base) T
  have G_moved_left := ok_moved_left (P := P) (w := w) (base := base) T
  have G_law_of_bits := ok_law_of_bits (P := P) (w := w) (base := base) T
  have G_moved_right := ok_moved_right (P := P) (w := w) (base := base) T
  refine T.F_law_moves_right.ok sc_law_moves_right (fun vs H Q E h => ?_) (fun cdv A outer s H vs Q E hr h => ?_)
  · obtain ⟨d, n, i, rfl, _⟩ := h; rfl
  · obtain ⟨d, n, i, rfl, hd, h1, h2, h3, h4, q⟩ := h
    refine ⟨_, (pss_cons (ps_set (i := 3) sc_law_moves_right.nd rfl (Or.inl rfl) (pe_call G_law_bits (hr.mono (by decide)) (by rfl) T.m_law_bits T.F_law_bits.kp T.b_law_bits .nil pass0 (pa_cons (pv 1) (pa_cons (pv 2) pa_nil))))
      (pss_cons (ps_for PassesOwn.never rfl (pi_tup (pe_tup (pa_cons pe_int (pa_cons pe_int (pa_cons (pe_op op_sub (pv 1) pe_int) (pa_cons (pv 1) (pa_cons (pe_call G_law_roll (hr.mono (by decide)) (by rfl) T.m_law_roll T.F_law_roll.kp T.b_law_roll .nil pass0 (pa_cons (pv 0) (pa_cons pe_int pa_nil))) (pa_cons pe_int pa_nil)))))))) (pg_name (i := 4) sc_law_moves_right.nd rfl (Or.inl rfl)) (pss_cons (ps_if (pt_cmpR op_ne (pe_call G_moved_left (hr.mono (by decide)) (by rfl) T.m_moved_left T.F_moved_left.kp T.b_moved_left .nil pass0 (pa_cons (pv 1) (pa_cons (pv 2) (pa_cons (pv 4) pa_nil)))) (pe_call G_law_of_bits (hr.mono (by decide)) (by rfl) T.m_law_of_bits T.F_law_of_bits.kp T.b_law_of_bits .nil pass0 (pa_cons (pe_slice sl_list (pe_op op_cat (pe_op op_rep (pe_lst (pa_cons pe_int pa_nil)) (pv 4)) (pv 3)) po_none (po_some (pv 1))) pa_nil)) (nomark _)) (pss_one (ps_ret pe_bl)) pss_nil)
      (pss_one (ps_if (pt_cmpR op_ne (pe_call G_moved_right (hr.mono (by decide)) (by rfl) T.m_moved_right T.F_moved_right.kp T.b_moved_right .nil pass0 (pa_cons (pv 1) (pa_cons (pv 2) (pa_cons (pv 4) pa_nil)))) (pe_call G_law_of_bits (hr.mono (by decide)) (by rfl) T.m_law_of_bits T.F_law_of_bits.kp T.b_law_of_bits .nil pass0 (pa_cons (pe_slice sl_list (pv 3) (po_some (pv 4)) po_none) pa_nil)) (nomark _)) (pss_one (ps_ret pe_bl)) pss_nil))))
      (pss_one (ps_ret pe_bl)))), ?_⟩
    walk_at "rd"
    have hq := pow_pos' n
    refine ⟨n, i, rfl, by omega, fun b hb => ?_⟩
    walk_at "rd"
    have hd1 := hd.new (o := .lst ((bitsL n i).map V.int)) hb
    refine ⟨d, _, rfl, hd1, by decide, by decide +kernel, fun r l m n' hr0 hr1 hl hm hn => ?_⟩
    have ndb : d ≠ b := hd.ne hb
    have e1 : ExD d H (upd (upd H b (.lst ((bitsL n i).map V.int))) d (dice3 l m n')) := (exd_new hb).trans exd_upd
    have hb1 : (upd (upd H b (.lst ((bitsL n i).map V.int))) d (dice3 l m n')) b = some (.lst ((bitsL n i).map V.int)) := by rw [upd_ne ndb.symm, upd_same]
    have hd2 : DiceAt (upd (upd H b (.lst ((bitsL n i).map V.int))) d (dice3 l m n')) d := dice_upd hl hm hn
    generalize upd (upd H b (.lst ((bitsL n i).map V.int))) d (dice3 l m n') = H1 at e1 hb1 hd2 ⊢
    refine ⟨by decide, fun p hp => ⟨⟨_, .inl (.inl upd_same)⟩, ?_⟩⟩
    have hxs : ∃ ks : List Nat, [V.int 0, V.int 1, V.int ((n : Int) - 1), V.int n, V.int r, V.int 63] = ks.map (fun (k : Nat) => V.int (k : Int)) ∧ ∀ k ∈ ks, k ≤ 63 := by
      refine ⟨[0, 1, n - 1, n, r.toNat, 63], ?_, ?_⟩
      · have e1 : ((n - 1 : Nat) : Int) = (n : Int) - 1 := by omega
        have e2 : ((r.toNat : Nat) : Int) = r := by omega
        simp only [List.map_cons, List.map_nil, e1, e2]; rfl
      · intro k hk
        simp only [List.mem_cons, List.mem_nil_iff, or_false] at hk
        omega
    obtain ⟨ks, hks, hle⟩ := hxs
    rw [hks]
    have ex1 : Ex H1 (upd H1 p (.tup (ks.map (fun (k : Nat) => V.int (k : Int))))) := ex_upd hp
    have hp1 : SqT K (upd H1 p (.tup (ks.map (fun (k : Nat) => V.int (k : Int))))) p (ks.map (fun (k : Nat) => V.int (k : Int))) := .inl (.inl upd_same)
    generalize upd H1 p (.tup (ks.map (fun (k : Nat) => V.int (k : Int)))) = H2 at ex1 hp1 ⊢
    refine lpT (xs := ks.map (fun (k : Nat) => V.int (k : Int))) (fun k σ H' => Ex H2 H' ∧ ∃ t, σ = [some (.ref d), some (.int n), some (.int i), some (.ref b), t]) ⟨Ex.refl _, none, rfl⟩ (by rintro k σ' H' _ ⟨e, _⟩; exact Evl.ex_t e hp1) ?_ ?_
    · rintro j x σ H' hx ⟨e, t, rfl⟩
      obtain ⟨k, hk, rfl⟩ : ∃ k : Nat, k ∈ ks ∧ x = V.int (k : Int) := by
        have := List.mem_of_getElem? hx
        obtain ⟨k, h1, h2⟩ := List.mem_map.mp this
        exact ⟨k, h1, h2.symm⟩
      have hk63 := hle k hk
      have hb2 : H' b = some (.lst ((bitsL n i).map V.int)) := (ex1.trans e) _ _ hb1
      walk_at "rd"
      refine ⟨n, k, i, rfl, h1, h2, h3, h4, hk63, by decide, fun z hz => ?_⟩
      have hbz : b ≠ z := ne_of_none hb2 hz
      -- [0] * places + bits, cut
      refine ⟨z, k, _, rfl, rfl, upd_same, by omega, by omega, (by rw [sizeLine_eq]; simp; omega), fun y hy => ?_⟩
      rw [flat_rep, Int.toNat_natCast]
      have exz : Ex H' (upd H' z (.lst [.int 0])) := ex_upd hz
      have exy : Ex (upd H' z (.lst [.int 0])) (upd (upd H' z (.lst [.int 0])) y (.lst (List.replicate k (V.int 0)))) := ex_upd hy
      have hyy : (upd (upd H' z (.lst [.int 0])) y (.lst (List.replicate k (V.int 0)))) y = some (.lst (List.replicate k (V.int 0))) := upd_same
      have ex2 := exz.trans exy
      generalize upd (upd H' z (.lst [.int 0])) y (.lst (List.replicate k (V.int 0))) = H3 at ex2 hyy ⊢
      refine ⟨y, b, _, _, rfl, rfl, hyy, ex2 _ _ hb2, (by rw [sizeLine_eq, List.length_replicate, List.length_map, bitsL_len]; omega), fun u hu => ?_⟩
      have ex3 := ex2.trans (ex_upd (o := .lst (List.replicate k (V.int 0) ++ (bitsL n i).map V.int)) hu)
      have huu : (upd H3 u (.lst (List.replicate k (V.int 0) ++ (bitsL n i).map V.int))) u = some (.lst (List.replicate k (V.int 0) ++ (bitsL n i).map V.int)) := upd_same
      generalize upd H3 u (.lst (List.replicate k (V.int 0) ++ (bitsL n i).map V.int)) = H4 at ex3 huu ⊢
      refine ⟨u, _, rfl, .of huu, fun v hv => ?_⟩
      rw [cut_to, show List.replicate k (V.int 0) ++ (bitsL n i).map V.int = (List.replicate k 0 ++ bitsL n i).map V.int by rw [List.map_append, List.map_replicate], ← List.map_take, shl_bits]
      have ex4 := ex3.trans (ex_upd (o := .lst ((bitsL n (i * 2 ^ k)).map V.int)) hv)
      refine ⟨v, _, rfl, .inl (.inl (.inl upd_same)), by rw [bitsL_len]; omega, fun H5 e5 => ?_⟩
      have ex5 := ex4.trans e5
      walk_at "rd"
      rw [ofB_bits, if_pos rfl]
      refine ⟨n, k, i, rfl, h1, h2, h3, h4, hk63, ?_⟩
      walk_at "rd"
      refine ⟨b, _, rfl, .of (ex5 _ _ hb2), fun v2 hv2 => ?_⟩
      rw [cut_from, ← List.map_drop]
      have ex6 := ex5.trans (ex_upd (o := .lst (((bitsL n i).drop k).map V.int)) hv2)
      refine ⟨v2, _, rfl, .inl (.inl (.inl upd_same)), by rw [List.length_drop, bitsL_len]; omega, fun H7 e7 => ?_⟩
      have ex7 := ex6.trans e7
      walk_at "rd"
      rw [shr_bits n k i h3 h4, if_pos rfl]
      exact e.trans ex7
    · rintro σ H' ⟨e, t, rfl⟩
      walk_at "rd"
      exact q _ ((e1.trans (ExD.of ex1)).trans (ExD.of e)) ((hd2.ex ex1).ex e)
def sp_law_right (K : PySem.W.Frag) : Sp := fun vs H Q _ => ∃ d : Addr, vs = [.ref d] ∧ DiceAt H d ∧ ∀ H', ExD d H H' → DiceAt H' d → Q (.bl true) H'
set_option maxHeartbeats 4000000 in
theorem ok_law_right (T : Txt K mg) : FnOk P w K mg base CX0 8 T.f_law_right T.d_law_right P_law_right (sp_law_right K) := by
  have G_law_width_drawn := ok_law_width_drawn (P := P) (w := w) (base := base) T
  have G_multiplied := ok_multiplied (P := P) (w := w) (base := base) T
  have G_divided := ok_divided (P := P) (w := w) (base := base) T
  have G_law_word_drawn := ok_law_word_drawn (P := P) (w := w) (base := base) T
  have G_law_two_to := ok_law_two_to (P := P) (w := w) (base := base) T
  have G_wrapped := ok_wrapped (P := P) (w := w) (base := base) T
  have G_law_one_of := ok_law_one_of (P := P) (w := w) (base := base) T
  have G_law_moves_right := ok_law_moves_right (P := P) (w := w) (base := base) T
  have G_law_product := ok_law_product (P := P) (w := w) (base := base) T
  have G_law_quotient := ok_law_quotient (P := P) (w := w) (base := base) T
  have G_signed := ok_signed (P := P) (w := w) (base := base) T
  refine T.F_law_right.ok sc_law_right (fun vs H Q E h => ?_) (fun cdv A outer s H vs Q E hr h => ?_)
  · obtain ⟨d, rfl, _⟩ := h; rfl
  · obtain ⟨d, rfl, hd, q⟩ := h
    refine ⟨_, (pss_cons (ps_set (i := 1) sc_law_right.nd rfl (Or.inl rfl) (pe_call G_law_width_drawn (hr.mono (by decide)) (by rfl) T.m_law_width_drawn T.F_law_width_drawn.kp T.b_law_width_drawn .nil pass0 (pa_cons (pv 0) pa_nil)))
      (pss_cons (ps_par3 (i := 2) (j := 3) (l := 4) (by rfl) sc_law_right.nd rfl rfl rfl (by decide) (by decide) (by decide) rfl rfl rfl (pa_cons (pe_call G_law_word_drawn (hr.mono (by decide)) (by rfl) T.m_law_word_drawn T.F_law_word_drawn.kp T.b_law_word_drawn .nil pass0 (pa_cons (pv 0) (pa_cons (pv 1) pa_nil))) (pa_cons (pe_call G_law_word_drawn (hr.mono (by decide)) (by rfl) T.m_law_word_drawn T.F_law_word_drawn.kp T.b_law_word_drawn .nil pass0 (pa_cons (pv 0) (pa_cons (pv 1) pa_nil))) (pa_cons (pe_call G_law_two_to (hr.mono (by decide)) (by rfl) T.m_law_two_to T.F_law_two_to.kp T.b_law_two_to .nil pass0 (pa_cons (pv 1) pa_nil)) pa_nil))) (by rfl))
      (pss_cons (ps_set (i := 5) sc_law_right.nd rfl (Or.inl rfl) (pe_call G_multiplied (hr.mono (by decide)) (by rfl) T.m_multiplied T.F_multiplied.kp T.b_multiplied .nil pass0 (pa_cons (pv 1) (pa_cons (pv 2) (pa_cons (pv 3) pa_nil)))))
      (pss_cons (ps_if (PW.pt (pw_or (pt_cmpR (op_neD hr.units) (pv 5) (pe_call G_law_product (hr.mono (by decide)) (by rfl) T.m_law_product T.F_law_product.kp T.b_law_product .nil pass0 (pa_cons (pv 1) (pa_cons (pv 2) (pa_cons (pv 3) pa_nil)))) (nomark _)) (pw_or1 (pt_cmpR (op_neD hr.units) (pv 5) (pe_call G_multiplied (hr.mono (by decide)) (by rfl) T.m_multiplied T.F_multiplied.kp T.b_multiplied .nil pass0 (pa_cons (pv 1) (pa_cons (pv 3) (pa_cons (pv 2) pa_nil)))) (nomark _))))) (pss_one (ps_ret pe_bl)) pss_nil)
      (pss_cons (ps_if (pt_cmpR op_ne (pe_ix ix_tup (pv 5) pe_int (fun _ _ => rfl)) (pe_call G_wrapped (hr.mono (by decide)) (by rfl) T.m_wrapped T.F_wrapped.kp T.b_wrapped .nil pass0 (pa_cons (pv 1) (pa_cons (pe_op op_mulA (pe_call G_signed (hr.mono (by decide)) (by rfl) T.m_signed T.F_signed.kp T.b_signed .nil pass0 (pa_cons (pv 1) (pa_cons (pv 2) pa_nil))) (pe_call G_signed (hr.mono (by decide)) (by rfl) T.m_signed T.F_signed.kp T.b_signed .nil pass0 (pa_cons (pv 1) (pa_cons (pv 3) pa_nil)))) pa_nil))) (nomark _)) (pss_one (ps_ret pe_bl)) pss_nil)
      (pss_cons (ps_if (pt_cmpR op_ne (pe_op op_add (pe_ix ix_tup (pv 5) pe_int (fun _ _ => rfl)) (pe_op op_mulA (pv 4) (pe_ix ix_tup (pv 5) pe_int (fun _ _ => rfl)))) (pe_op op_mulA (pv 2) (pv 3)) (nomark _)) (pss_one (ps_ret pe_bl)) pss_nil)
      (pss_cons (ps_set (i := 6) sc_law_right.nd rfl (Or.inl rfl) (pe_callB (call_max2 rfl) (by rfl) T.n_max (by decide +kernel) (pa_cons pe_int (pa_cons (pe_call G_law_one_of (hr.mono (by decide)) (by rfl) T.m_law_one_of T.F_law_one_of.kp T.b_law_one_of .nil pass0 (pa_cons (pv 0) (pa_cons (pe_lst (pa_cons (pv 3) (pa_cons (pe_op op_mod (pv 3) pe_int) (pa_cons (pe_op op_fdivW (pv 3) pe_int) (pa_cons (pe_op op_fdivW (pv 4) pe_int) (pa_cons (pe_op op_sub (pv 4) pe_int) pa_nil)))))) pa_nil))) pa_nil))))
      (pss_cons (ps_set (i := 7) sc_law_right.nd rfl (Or.inl rfl) (pe_call G_divided (hr.mono (by decide)) (by rfl) T.m_divided T.F_divided.kp T.b_divided .nil pass0 (pa_cons (pv 1) (pa_cons (pv 2) (pa_cons (pv 6) pa_nil)))))
      (pss_cons (ps_if (PW.pt (pw_or (pt_cmpR (op_neD hr.units) (pv 7) (pe_call G_law_quotient (hr.mono (by decide)) (by rfl) T.m_law_quotient T.F_law_quotient.kp T.b_law_quotient .nil pass0 (pa_cons (pv 1) (pa_cons (pv 2) (pa_cons (pv 6) pa_nil)))) (nomark _)) (pw_or1 (pt_cmpR op_ne (pe_op op_add (pe_op op_mulA (pe_ix ix_tup (pv 7) pe_int (fun _ _ => rfl)) (pv 6)) (pe_ix ix_tup (pv 7) pe_int (fun _ _ => rfl))) (pv 2) (nomark _))))) (pss_one (ps_ret pe_bl)) pss_nil)
      (pss_one (ps_ret (pe_and (pe_chain op_le op_lt pe_int (pe_ix ix_tup (pv 7) pe_int (fun _ _ => rfl)) (pv 6)) (pe_one (pe_call G_law_moves_right (hr.mono (by decide)) (by rfl) T.m_law_moves_right T.F_law_moves_right.kp T.b_law_moves_right .nil pass0 (pa_cons (pv 0) (pa_cons (pv 1) (pa_cons (pv 2) pa_nil))))))))))))))))), ?_⟩
    walk_at "rd"
    refine ⟨d, rfl, hd, fun n H1 n1 n2 e1 d1 => ?_⟩
    walk_at "rd"
    refine ⟨d, n, rfl, d1, n1, by omega, fun i H2 i0 i1 e2 d2 => ?_⟩
    walk_at "rd"
    refine ⟨d, n, rfl, d2, n1, by omega, fun j H3 j0 j1 e3 d3 => ?_⟩
    walk_at "rd"
    have eH : ExD d H H3 := (e1.trans e2).trans e3
    have hq := pow_pos' n
    have hp32 : (2 : Int) ^ n ≤ 2 ^ 32 := pow_le n2
    have hp1 : (2 : Int) ≤ 2 ^ n := pow_le n1
    refine ⟨n, rfl, by omega, ?_⟩
    walk_at "rd"
    -- both
    refine ⟨n, i, j, rfl, n1, n2, i0, i1, j0, j1, fun p hp => ?_⟩
    have xp : Ex H3 (upd H3 p (.tup [.int (i * j % 2 ^ n), .int (i * j / 2 ^ n)])) := ex_upd hp
    have tp : (upd H3 p (.tup [.int (i * j % 2 ^ n), .int (i * j / 2 ^ n)])) p = some (.tup ([i * j % 2 ^ n, i * j / 2 ^ n].map V.int)) := upd_same
    generalize upd H3 p (.tup [.int (i * j % 2 ^ n), .int (i * j / 2 ^ n)]) = H4 at xp tp ⊢
    walk_at "rd"
    refine ⟨n, i, j, rfl, n1, n2, i0, i1, j0, j1, fun r H5 hr5 x5 t5 => ?_⟩
    walk_at "rd"
    refine neT (.of (x5.lst tp)) (.of (show H5 r = some (.tup ([i * j % 2 ^ n, i * j / 2 ^ n].map V.int)) from t5)) ?_
    rw [decide_eq_true rfl]
    walk_at "rd"
    refine ⟨n, j, i, rfl, n1, n2, j0, j1, i0, i1, fun p2 hp2 => ?_⟩
    have x6 := x5.trans (ex_upd (o := .tup [.int (j * i % 2 ^ n), .int (j * i / 2 ^ n)]) hp2)
    have t6 : (upd H5 p2 (.tup [.int (j * i % 2 ^ n), .int (j * i / 2 ^ n)])) p2 = some (.tup ([i * j % 2 ^ n, i * j / 2 ^ n].map V.int)) := by rw [upd_same, Int.mul_comm j i]; rfl
    generalize upd H5 p2 (.tup [.int (j * i % 2 ^ n), .int (j * i / 2 ^ n)]) = H6 at x6 t6 ⊢
    walk_at "rd"
    refine neT (.of (x6.lst tp)) (.of t6) ?_
    rw [decide_eq_true rfl]
    walk_at "rd"
    -- both[0] and the signed numbers
    have tb := x6.lst tp
    refine ixT (.of tb) (v := .int (i * j % 2 ^ n)) rfl ?_
    refine ⟨n, i, rfl, n1, n2, i0, i1, ?_⟩
    walk_at "rd"
    refine ⟨n, j, rfl, n1, n2, j0, j1, ?_⟩
    walk_at "rd"
    have si := sgn_bd n1 i0 i1
    have sj := sgn_bd n1 j0 j1
    have sb : (sgn n i * sgn n j).natAbs < 2 ^ (40 + 40) := wide_lt (by omega) (by omega)
    refine ⟨mulL (by omega), n, _, rfl, n1, n2, by omega, by omega, ?_⟩
    walk_at "rd"
    rw [sgn_mul, if_pos rfl]
    refine ixT (.of tb) (v := .int (i * j % 2 ^ n)) rfl ?_
    walk_at "rd"
    refine ixT (.of tb) (v := .int (i * j / 2 ^ n)) rfl ?_
    walk_at "rd"
    have d6 : DiceAt H6 d := (d3.ex xp).ex x6
    refine ⟨mulL (by omega), mulL (by omega), ?_⟩
    have em : i * j % 2 ^ n + 2 ^ n * (i * j / 2 ^ n) = i * j := by rw [Int.add_comm]; exact Int.mul_ediv_add_emod _ _
    rw [if_pos em]
    refine ⟨by decide, divw 3 (by decide) (by decide), divw 3 (by decide) (by decide), by decide, fun p7 hp7 => ?_⟩
    refine ⟨d, p7, _, rfl, d6.new hp7, d6.ne hp7, .inl (.inl upd_same), by simp, by simp, fun x l m o hx hl hm ho => ?_⟩
    have e7 : ExD d H (upd (upd H6 p7 (.lst [.int j, .int (j % 7), .int (j / 3), .int (2 ^ n / 2), .int (2 ^ n - 1)])) d (dice3 l m o)) := ((((eH.trans (ExD.of xp)).trans (ExD.of x6)).trans (exd_new hp7)).trans exd_upd)
    have d7 : DiceAt (upd (upd H6 p7 (.lst [.int j, .int (j % 7), .int (j / 3), .int (2 ^ n / 2), .int (2 ^ n - 1)])) d (dice3 l m o)) d := dice_upd hl hm ho
    generalize upd (upd H6 p7 (.lst [.int j, .int (j % 7), .int (j / 3), .int (2 ^ n / 2), .int (2 ^ n - 1)])) d (dice3 l m o) = H7 at e7 d7 ⊢
    have hx2 : ∃ y : Int, x = .int y ∧ y < 2 ^ n := by
      simp only [List.mem_cons, List.mem_nil_iff, or_false] at hx
      rcases hx with rfl | rfl | rfl | rfl | rfl <;> exact ⟨_, rfl, by omega⟩
    obtain ⟨y, rfl, hy⟩ := hx2
    walk_at "rd"
    have hz : 0 < (if y > 1 then y else 1) ∧ (if y > 1 then y else 1) < 2 ^ n := by
      by_cases h : y > 1
      · rw [if_pos h]; omega
      · rw [if_neg h]; omega
    generalize (if y > 1 then y else 1) = z at hz ⊢
    refine ⟨n, i, z, rfl, n1, n2, i0, i1, hz.1, hz.2, fun p8 hp8 => ?_⟩
    have x8 : Ex H7 (upd H7 p8 (.tup [.int (i / z), .int (i % z)])) := ex_upd hp8
    have t8 : (upd H7 p8 (.tup [.int (i / z), .int (i % z)])) p8 = some (.tup ([i / z, i % z].map V.int)) := upd_same
    generalize upd H7 p8 (.tup [.int (i / z), .int (i % z)]) = H8 at x8 t8 ⊢
    walk_at "rd"
    refine ⟨n, i, z, rfl, n1, n2, i0, i1, hz.1, hz.2, fun r9 H9 hr9 x9 t9 => ?_⟩
    walk_at "rd"
    refine neT (.of (x9.lst t8)) (.of (show H9 r9 = some (.tup ([i / z, i % z].map V.int)) from t9)) ?_
    rw [decide_eq_true rfl]
    walk_at "rd"
    have tc := x9.lst t8
    refine ixT (.of tc) (v := .int (i / z)) rfl ?_
    walk_at "rd"
    refine ⟨mulR (by omega), ixT (.of tc) (v := .int (i % z)) rfl ?_⟩
    walk_at "rd"
    have ed : i / z * z + i % z = i := by rw [Int.mul_comm]; exact Int.mul_ediv_add_emod _ _
    rw [if_pos ed]
    have mb := mod_bd (a := i) hz.1
    refine ixT (.of tc) (v := .int (i % z)) rfl ?_
    walk_at "rd"
    rw [if_pos mb.1]
    walk_at "rt"
    rw [if_pos mb.2]
    have d9 : DiceAt H9 d := (d7.ex x8).ex x9
    exact ⟨d, n, i, rfl, d9, n1, n2, i0, i1, fun H10 e10 d10 => q _ (((e7.trans (ExD.of x8)).trans (ExD.of x9)).trans e10) d10⟩
def sp_law (K : PySem.W.Frag) : Sp := fun vs H Q _ => ∃ (a : Addr) (ns : List Int), vs = [.ref a] ∧ SqL K H a (ns.map V.int) ∧ ns.length ≤ 63 ∧ ∀ H', Q (.bl true) H'
set_option maxHeartbeats 4000000 in
theorem ok_law (T : Txt K mg) : FnOk P w K mg base CX0 9 T.f_law T.d_law P_law (sp_law K) := by
  have G_law_dice := ok_law_dice (P := P) (w := w) (base := base) T
  have G_multiplied := ok_multiplied (P := P) (w := w) (base := base) T
  have G_divided := ok_divided (P := P) (w := w) (base := base) T
  have G_moved_right := ok_moved_right (P := P) (w := w) (base := base) T
  have G_law_right := ok_law_right (P := P) (w := w) (base := base) T
  refine T.F_law.ok sc_law (fun vs H Q E h => ?_) (fun cdv A outer s H vs Q E hr h => ?_)
  · obtain ⟨a, ns, rfl, _⟩ := h; rfl
  · obtain ⟨a, ns, rfl, hS, hn, q⟩ := h
    refine ⟨_, (pss_cons (ps_for PassesOwn.never rfl (pi_range1 (by rfl) T.n_range (pa_cons (pe_callB (call_max2 rfl) (by rfl) T.n_max (by decide +kernel) (pa_cons pe_int (pa_cons (pe_callB (call_min2 rfl) (by rfl) T.n_min (by decide +kernel) (pa_cons pe_int (pa_cons (pe_callB call_len_seq (by rfl) T.n_len (by decide +kernel) (pa_cons (pv 0) pa_nil)) pa_nil))) pa_nil))) pa_nil)) (pg_name (i := 1) sc_law.nd rfl (Or.inl rfl)) (pss_cons (ps_set (i := 2) sc_law.nd rfl (Or.inl rfl) (pe_call G_law_dice (hr.mono (by decide)) (by rfl) T.m_law_dice T.F_law_dice.kp T.b_law_dice .nil pass0 (pa_cons (pv 0) (pa_cons (pv 1) pa_nil))))
      (pss_one (ps_for PassesOwn.never rfl (pi_range1 (by rfl) T.n_range (pa_cons pe_int pa_nil)) (pg_name (i := 3) sc_law.nd rfl (Or.inl rfl)) (pss_one (ps_if (pt_not (pt_val (pe_call G_law_right (hr.mono (by decide)) (by rfl) T.m_law_right T.F_law_right.kp T.b_law_right .nil pass0 (pa_cons (pv 2) pa_nil)))) (pss_one (ps_ret pe_bl)) pss_nil))))))
      (pss_cons (ps_set (i := 4) sc_law.nd rfl (Or.inl rfl) (pe_lst (pa_cons (pe_call G_multiplied (hr.mono (by decide)) (by rfl) T.m_multiplied T.F_multiplied.kp T.b_multiplied .nil pass0 (pa_cons pe_int (pa_cons pe_int (pa_cons pe_int pa_nil)))) (pa_cons (pe_call G_multiplied (hr.mono (by decide)) (by rfl) T.m_multiplied T.F_multiplied.kp T.b_multiplied .nil pass0 (pa_cons pe_int (pa_cons pe_int (pa_cons pe_int pa_nil)))) (pa_cons (pe_call G_divided (hr.mono (by decide)) (by rfl) T.m_divided T.F_divided.kp T.b_divided .nil pass0 (pa_cons pe_int (pa_cons pe_int (pa_cons pe_int pa_nil)))) (pa_cons (pe_call G_divided (hr.mono (by decide)) (by rfl) T.m_divided T.F_divided.kp T.b_divided .nil pass0 (pa_cons pe_int (pa_cons pe_int (pa_cons pe_int pa_nil)))) pa_nil))))))
      (pss_one (ps_ret (pe_and (pe_cmpR (op_eqD hr.units) (pv 4) (pe_lst (pa_cons (pe_tup (pa_cons pe_int (pa_cons pe_int pa_nil))) (pa_cons (pe_tup (pa_cons pe_int (pa_cons pe_int pa_nil))) (pa_cons (pe_tup (pa_cons pe_int (pa_cons pe_int pa_nil))) (pa_cons (pe_tup (pa_cons pe_int (pa_cons pe_int pa_nil))) pa_nil))))) (nomark _)) (pe_one (pe_cmpR op_eq (pe_call G_moved_right (hr.mono (by decide)) (by rfl) T.m_moved_right T.F_moved_right.kp T.b_moved_right .nil pass0 (pa_cons pe_int (pa_cons pe_int (pa_cons pe_int pa_nil)))) pe_int (nomark _)))))))), ?_⟩
    walk_at "rd"
    refine ⟨_, .inl hS, ?_⟩
    rw [List.length_map]
    obtain ⟨c, hc, hc4⟩ : ∃ c : Nat, (if (if (ns.length : Int) < 4 then (ns.length : Int) else 4) > 1 then if (ns.length : Int) < 4 then (ns.length : Int) else 4 else 1) = (c : Int) ∧ c ≤ 64 := by
      by_cases h1 : (ns.length : Int) < 4
      · rw [if_pos h1]
        by_cases h2 : (ns.length : Int) > 1
        · exact ⟨ns.length, by rw [if_pos h2], by omega⟩
        · exact ⟨1, by rw [if_neg h2]; rfl, by omega⟩
      · rw [if_neg h1]
        exact ⟨4, by rw [if_pos (by decide)]; rfl, by omega⟩
    rw [hc]
    refine ⟨by omega, by omega, ?_⟩
    rw [Int.toNat_natCast]
    refine lpR c (fun k σ H' => Ex H H' ∧ ∃ t1 t2 t3 t4, σ = [some (.ref a), t1, t2, t3, t4]) ⟨Ex.refl _, none, none, none, none, rfl⟩ ?_ ?_
    · rintro k σ H1 hk ⟨e1, t1, t2, t3, t4, rfl⟩
      walk_at "rd"
      refine ⟨a, ns, k, rfl, e1.seq hS, by omega, fun l m d hl hm hd => ?_⟩
      walk_at "rd"
      refine ⟨by decide, by decide, lpR 3 (fun j σ H' => Ex H H' ∧ DiceAt H' d ∧ ∃ t3 t4, σ = [some (.ref a), some (.int k), some (.ref d), t3, t4]) ⟨e1.trans (ex_upd hd), dice_upd hl hm (by decide), _, _, rfl⟩ ?_ ?_⟩
      · rintro j σ H2 hj ⟨e2, d2, t3, t4, rfl⟩
        walk_at "rd"
        refine ⟨d, rfl, d2, fun H3 e3 d3 => ?_⟩
        walk_at "rd"
        refine ⟨fun b o hb => e3 b o ?_ (e2 b o hb), d3⟩
        exact ne_of_none (e1 b o hb) hd
      · rintro σ H2 ⟨e2, d2, t3, t4, rfl⟩
        walk_at "rd"
        exact e2
    · rintro σ H1 ⟨e1, t1, t2, t3, t4, rfl⟩
      walk_at "rd"
      refine ⟨4, 7, 7, rfl, by decide, by decide, by decide, by decide, by decide, by decide, fun p1 h1 => ?_⟩
      walk_at "rd"
      refine ⟨32, 4294967295, 4294967295, rfl, by decide, by decide, by decide, by decide, by decide, by decide, fun p2 h2 => ?_⟩
      walk_at "rd"
      refine ⟨4, 15, 4, rfl, by decide, by decide, by decide, by decide, by decide, by decide, fun p3 h3 => ?_⟩
      walk_at "rd"
      refine ⟨1, 1, 1, rfl, by decide, by decide, by decide, by decide, by decide, by decide, fun p4 h4 => ?_⟩
      walk_at "rd"
      refine ⟨by decide, fun p5 h5 => ⟨by decide, fun p6 h6 => ⟨by decide, fun p7 h7 => ⟨by decide, fun p8 h8 => ⟨by decide, fun p9 h9 => ⟨by decide, fun p10 h10 => ?_⟩⟩⟩⟩⟩⟩
      have x10 := ex_upd (o := .lst [.ref p6, .ref p7, .ref p8, .ref p9]) h10
      have x9 := (ex_upd (o := .tup [.int 1, .int 0]) h9).trans x10
      have x8 := (ex_upd (o := .tup [.int 3, .int 3]) h8).trans x9
      have x7 := (ex_upd (o := .tup [.int 1, .int 4294967294]) h7).trans x8
      have x6 := (ex_upd (o := .tup [.int 1, .int 3]) h6).trans x7
      have x5 := (ex_upd (o := .lst [.ref p1, .ref p2, .ref p3, .ref p4]) h5).trans x6
      have x4 := (ex_upd h4).trans x5
      have x3 := (ex_upd h3).trans x4
      have x2 := (ex_upd h2).trans x3
      refine eqD (d := .list [tupD [7 * 7 % 2 ^ 4, 7 * 7 / 2 ^ 4], tupD [4294967295 * 4294967295 % 2 ^ 32, 4294967295 * 4294967295 / 2 ^ 32], tupD [15 / 4, 15 % 4], tupD [1 / 1, 1 % 1]])
        (e := .list [tupD [1, 3], tupD [1, 4294967294], tupD [3, 3], tupD [1, 0]])
        (.lst (.of (x6.lst upd_same)) (.cons (dp_tup (.of (x2.lst upd_same))) (.cons (dp_tup (.of (x3.lst upd_same))) (.cons (dp_tup (.of (x4.lst upd_same))) (.cons (dp_tup (.of (x5.lst upd_same))) .nil)))))
        (.lst (.of upd_same) (.cons (dp_tup (.of (x7.lst upd_same))) (.cons (dp_tup (.of (x8.lst upd_same))) (.cons (dp_tup (.of (x9.lst upd_same))) (.cons (dp_tup (.of (x10.lst upd_same))) .nil)))))
        (by decide +kernel) (by decide +kernel) (b := true) (by decide +kernel) ⟨true, rfl, iteT ?_⟩
      walk_at "rt"
      refine ⟨4, 40, 13, rfl, by decide, by decide, by decide, by decide, by decide, ?_⟩
      walk_at "rd"
      rw [show (13 : Int) / 2 ^ 40 = 0 by decide]
      exact q _
end
theorem all_mk {l : PySem.W.OpenLaw} {w : World} {K : PySem.W.Frag} {h : Heap} {mg : Str → Option Value} {fa : Addr} (X : K.In h) (G : h.Ns mainGlobals mg) (hfa : mg "law" = some (.ref fa))
    {f0 : Addr} {od0 an0 : Option Addr} {sl0 : Array (Option Value)} {oc0 kV0 dc0 pm0 cd0 ct0 : Value}
    {f1 : Addr} {od1 an1 : Option Addr} {sl1 : Array (Option Value)} {oc1 kV1 dc1 pm1 cd1 ct1 : Value}
    {f2 : Addr} {od2 an2 : Option Addr} {sl2 : Array (Option Value)} {oc2 kV2 dc2 pm2 cd2 ct2 : Value}
    {f3 : Addr} {od3 an3 : Option Addr} {sl3 : Array (Option Value)} {oc3 kV3 dc3 pm3 cd3 ct3 : Value}
    {f4 : Addr} {od4 an4 : Option Addr} {sl4 : Array (Option Value)} {oc4 kV4 dc4 pm4 cd4 ct4 : Value}
    {f5 : Addr} {od5 an5 : Option Addr} {sl5 : Array (Option Value)} {oc5 kV5 dc5 pm5 cd5 ct5 : Value}
    {f6 : Addr} {od6 an6 : Option Addr} {sl6 : Array (Option Value)} {oc6 kV6 dc6 pm6 cd6 ct6 : Value}
    {f7 : Addr} {od7 an7 : Option Addr} {sl7 : Array (Option Value)} {oc7 kV7 dc7 pm7 cd7 ct7 : Value}
    {f8 : Addr} {od8 an8 : Option Addr} {sl8 : Array (Option Value)} {oc8 kV8 dc8 pm8 cd8 ct8 : Value}
    {f9 : Addr} {od9 an9 : Option Addr} {sl9 : Array (Option Value)} {oc9 kV9 dc9 pm9 cd9 ct9 : Value}
    {f10 : Addr} {od10 an10 : Option Addr} {sl10 : Array (Option Value)} {oc10 kV10 dc10 pm10 cd10 ct10 : Value}
    {f11 : Addr} {od11 an11 : Option Addr} {sl11 : Array (Option Value)} {oc11 kV11 dc11 pm11 cd11 ct11 : Value}
    {f12 : Addr} {od12 an12 : Option Addr} {sl12 : Array (Option Value)} {oc12 kV12 dc12 pm12 cd12 ct12 : Value}
    {f13 : Addr} {od13 an13 : Option Addr} {sl13 : Array (Option Value)} {oc13 kV13 dc13 pm13 cd13 ct13 : Value}
    {f14 : Addr} {od14 an14 : Option Addr} {sl14 : Array (Option Value)} {oc14 kV14 dc14 pm14 cd14 ct14 : Value}
    {f15 : Addr} {od15 an15 : Option Addr} {sl15 : Array (Option Value)} {oc15 kV15 dc15 pm15 cd15 ct15 : Value}
    {f16 : Addr} {od16 an16 : Option Addr} {sl16 : Array (Option Value)} {oc16 kV16 dc16 pm16 cd16 ct16 : Value}
    {f17 : Addr} {od17 an17 : Option Addr} {sl17 : Array (Option Value)} {oc17 kV17 dc17 pm17 cd17 ct17 : Value}
    {f18 : Addr} {od18 an18 : Option Addr} {sl18 : Array (Option Value)} {oc18 kV18 dc18 pm18 cd18 ct18 : Value}
    {f19 : Addr} {od19 an19 : Option Addr} {sl19 : Array (Option Value)} {oc19 kV19 dc19 pm19 cd19 ct19 : Value}
    {f20 : Addr} {od20 an20 : Option Addr} {sl20 : Array (Option Value)} {oc20 kV20 dc20 pm20 cd20 ct20 : Value}
    {f21 : Addr} {od21 an21 : Option Addr} {sl21 : Array (Option Value)} {oc21 kV21 dc21 pm21 cd21 ct21 : Value}
    {f22 : Addr} {od22 an22 : Option Addr} {sl22 : Array (Option Value)} {oc22 kV22 dc22 pm22 cd22 ct22 : Value}
    {f23 : Addr} {od23 an23 : Option Addr} {sl23 : Array (Option Value)} {oc23 kV23 dc23 pm23 cd23 ct23 : Value}
    {f24 : Addr} {od24 an24 : Option Addr} {sl24 : Array (Option Value)} {oc24 kV24 dc24 pm24 cd24 ct24 : Value}
    {f25 : Addr} {od25 an25 : Option Addr} {sl25 : Array (Option Value)} {oc25 kV25 dc25 pm25 cd25 ct25 : Value}
    {uc_LEAST_TOO_LONG : Value}
    {uc_MAX_WIDTH : Value}
    {uc_MAX_PLACES : Value}
    (a0 : PySem.W.nsIn K mainGlobals "is_integer" = some (some (.ref f0)))
    (l0 : K.lookup f0 = some ⟨oc0, od0, .func (PySem.W.fnOf "is_integer" "is_integer" (defArgs s_is_integer) (defBody s_is_integer) (defScope s_is_integer) .none kV0 dc0 pm0 an0 cd0 ct0), sl0⟩)
    (c0 : PySem.W.codeIn K cd0 "is_integer" = true) (k0 : PySem.W.keepIn K (.ref f0) = true)
    (a1 : PySem.W.nsIn K mainGlobals "is_between" = some (some (.ref f1)))
    (l1 : K.lookup f1 = some ⟨oc1, od1, .func (PySem.W.fnOf "is_between" "is_between" (defArgs s_is_between) (defBody s_is_between) (defScope s_is_between) .none kV1 dc1 pm1 an1 cd1 ct1), sl1⟩)
    (c1 : PySem.W.codeIn K cd1 "is_between" = true) (k1 : PySem.W.keepIn K (.ref f1) = true)
    (a2 : PySem.W.nsIn K mainGlobals "check_number" = some (some (.ref f2)))
    (l2 : K.lookup f2 = some ⟨oc2, od2, .func (PySem.W.fnOf "check_number" "check_number" (defArgs s_check_number) (defBody s_check_number) (defScope s_check_number) .none kV2 dc2 pm2 an2 cd2 ct2), sl2⟩)
    (c2 : PySem.W.codeIn K cd2 "check_number" = true) (k2 : PySem.W.keepIn K (.ref f2) = true)
    (a3 : PySem.W.nsIn K mainGlobals "check_width" = some (some (.ref f3)))
    (l3 : K.lookup f3 = some ⟨oc3, od3, .func (PySem.W.fnOf "check_width" "check_width" (defArgs s_check_width) (defBody s_check_width) (defScope s_check_width) .none kV3 dc3 pm3 an3 cd3 ct3), sl3⟩)
    (c3 : PySem.W.codeIn K cd3 "check_width" = true) (k3 : PySem.W.keepIn K (.ref f3) = true)
    (a4 : PySem.W.nsIn K mainGlobals "check_word" = some (some (.ref f4)))
    (l4 : K.lookup f4 = some ⟨oc4, od4, .func (PySem.W.fnOf "check_word" "check_word" (defArgs s_check_word) (defBody s_check_word) (defScope s_check_word) .none kV4 dc4 pm4 an4 cd4 ct4), sl4⟩)
    (c4 : PySem.W.codeIn K cd4 "check_word" = true) (k4 : PySem.W.keepIn K (.ref f4) = true)
    (a5 : PySem.W.nsIn K mainGlobals "check_one" = some (some (.ref f5)))
    (l5 : K.lookup f5 = some ⟨oc5, od5, .func (PySem.W.fnOf "check_one" "check_one" (defArgs s_check_one) (defBody s_check_one) (defScope s_check_one) .none kV5 dc5 pm5 an5 cd5 ct5), sl5⟩)
    (c5 : PySem.W.codeIn K cd5 "check_one" = true) (k5 : PySem.W.keepIn K (.ref f5) = true)
    (a6 : PySem.W.nsIn K mainGlobals "check_two" = some (some (.ref f6)))
    (l6 : K.lookup f6 = some ⟨oc6, od6, .func (PySem.W.fnOf "check_two" "check_two" (defArgs s_check_two) (defBody s_check_two) (defScope s_check_two) .none kV6 dc6 pm6 an6 cd6 ct6), sl6⟩)
    (c6 : PySem.W.codeIn K cd6 "check_two" = true) (k6 : PySem.W.keepIn K (.ref f6) = true)
    (a7 : PySem.W.nsIn K mainGlobals "wrapped" = some (some (.ref f7)))
    (l7 : K.lookup f7 = some ⟨oc7, od7, .func (PySem.W.fnOf "wrapped" "wrapped" (defArgs s_wrapped) (defBody s_wrapped) (defScope s_wrapped) .none kV7 dc7 pm7 an7 cd7 ct7), sl7⟩)
    (c7 : PySem.W.codeIn K cd7 "wrapped" = true) (k7 : PySem.W.keepIn K (.ref f7) = true)
    (a8 : PySem.W.nsIn K mainGlobals "signed" = some (some (.ref f8)))
    (l8 : K.lookup f8 = some ⟨oc8, od8, .func (PySem.W.fnOf "signed" "signed" (defArgs s_signed) (defBody s_signed) (defScope s_signed) .none kV8 dc8 pm8 an8 cd8 ct8), sl8⟩)
    (c8 : PySem.W.codeIn K cd8 "signed" = true) (k8 : PySem.W.keepIn K (.ref f8) = true)
    (a9 : PySem.W.nsIn K mainGlobals "multiplied" = some (some (.ref f9)))
    (l9 : K.lookup f9 = some ⟨oc9, od9, .func (PySem.W.fnOf "multiplied" "multiplied" (defArgs s_multiplied) (defBody s_multiplied) (defScope s_multiplied) .none kV9 dc9 pm9 an9 cd9 ct9), sl9⟩)
    (c9 : PySem.W.codeIn K cd9 "multiplied" = true) (k9 : PySem.W.keepIn K (.ref f9) = true)
    (a10 : PySem.W.nsIn K mainGlobals "divided" = some (some (.ref f10)))
    (l10 : K.lookup f10 = some ⟨oc10, od10, .func (PySem.W.fnOf "divided" "divided" (defArgs s_divided) (defBody s_divided) (defScope s_divided) .none kV10 dc10 pm10 an10 cd10 ct10), sl10⟩)
    (c10 : PySem.W.codeIn K cd10 "divided" = true) (k10 : PySem.W.keepIn K (.ref f10) = true)
    (a11 : PySem.W.nsIn K mainGlobals "moved_left" = some (some (.ref f11)))
    (l11 : K.lookup f11 = some ⟨oc11, od11, .func (PySem.W.fnOf "moved_left" "moved_left" (defArgs s_moved_left) (defBody s_moved_left) (defScope s_moved_left) .none kV11 dc11 pm11 an11 cd11 ct11), sl11⟩)
    (c11 : PySem.W.codeIn K cd11 "moved_left" = true) (k11 : PySem.W.keepIn K (.ref f11) = true)
    (a12 : PySem.W.nsIn K mainGlobals "moved_right" = some (some (.ref f12)))
    (l12 : K.lookup f12 = some ⟨oc12, od12, .func (PySem.W.fnOf "moved_right" "moved_right" (defArgs s_moved_right) (defBody s_moved_right) (defScope s_moved_right) .none kV12 dc12 pm12 an12 cd12 ct12), sl12⟩)
    (c12 : PySem.W.codeIn K cd12 "moved_right" = true) (k12 : PySem.W.keepIn K (.ref f12) = true)
    (a13 : PySem.W.nsIn K mainGlobals "_law_dice" = some (some (.ref f13)))
    (l13 : K.lookup f13 = some ⟨oc13, od13, .func (PySem.W.fnOf "_law_dice" "_law_dice" (defArgs s_law_dice) (defBody s_law_dice) (defScope s_law_dice) .none kV13 dc13 pm13 an13 cd13 ct13), sl13⟩)
    (c13 : PySem.W.codeIn K cd13 "_law_dice" = true) (k13 : PySem.W.keepIn K (.ref f13) = true)
    (a14 : PySem.W.nsIn K mainGlobals "_law_roll" = some (some (.ref f14)))
    (l14 : K.lookup f14 = some ⟨oc14, od14, .func (PySem.W.fnOf "_law_roll" "_law_roll" (defArgs s_law_roll) (defBody s_law_roll) (defScope s_law_roll) .none kV14 dc14 pm14 an14 cd14 ct14), sl14⟩)
    (c14 : PySem.W.codeIn K cd14 "_law_roll" = true) (k14 : PySem.W.keepIn K (.ref f14) = true)
    (a15 : PySem.W.nsIn K mainGlobals "_law_one_of" = some (some (.ref f15)))
    (l15 : K.lookup f15 = some ⟨oc15, od15, .func (PySem.W.fnOf "_law_one_of" "_law_one_of" (defArgs s_law_one_of) (defBody s_law_one_of) (defScope s_law_one_of) .none kV15 dc15 pm15 an15 cd15 ct15), sl15⟩)
    (c15 : PySem.W.codeIn K cd15 "_law_one_of" = true) (k15 : PySem.W.keepIn K (.ref f15) = true)
    (a16 : PySem.W.nsIn K mainGlobals "_law_two_to" = some (some (.ref f16)))
    (l16 : K.lookup f16 = some ⟨oc16, od16, .func (PySem.W.fnOf "_law_two_to" "_law_two_to" (defArgs s_law_two_to) (defBody s_law_two_to) (defScope s_law_two_to) .none kV16 dc16 pm16 an16 cd16 ct16), sl16⟩)
    (c16 : PySem.W.codeIn K cd16 "_law_two_to" = true) (k16 : PySem.W.keepIn K (.ref f16) = true)
    (a17 : PySem.W.nsIn K mainGlobals "_law_word_drawn" = some (some (.ref f17)))
    (l17 : K.lookup f17 = some ⟨oc17, od17, .func (PySem.W.fnOf "_law_word_drawn" "_law_word_drawn" (defArgs s_law_word_drawn) (defBody s_law_word_drawn) (defScope s_law_word_drawn) .none kV17 dc17 pm17 an17 cd17 ct17), sl17⟩)
    (c17 : PySem.W.codeIn K cd17 "_law_word_drawn" = true) (k17 : PySem.W.keepIn K (.ref f17) = true)
    (a18 : PySem.W.nsIn K mainGlobals "_law_bits" = some (some (.ref f18)))
    (l18 : K.lookup f18 = some ⟨oc18, od18, .func (PySem.W.fnOf "_law_bits" "_law_bits" (defArgs s_law_bits) (defBody s_law_bits) (defScope s_law_bits) .none kV18 dc18 pm18 an18 cd18 ct18), sl18⟩)
    (c18 : PySem.W.codeIn K cd18 "_law_bits" = true) (k18 : PySem.W.keepIn K (.ref f18) = true)
    (a19 : PySem.W.nsIn K mainGlobals "_law_of_bits" = some (some (.ref f19)))
    (l19 : K.lookup f19 = some ⟨oc19, od19, .func (PySem.W.fnOf "_law_of_bits" "_law_of_bits" (defArgs s_law_of_bits) (defBody s_law_of_bits) (defScope s_law_of_bits) .none kV19 dc19 pm19 an19 cd19 ct19), sl19⟩)
    (c19 : PySem.W.codeIn K cd19 "_law_of_bits" = true) (k19 : PySem.W.keepIn K (.ref f19) = true)
    (a20 : PySem.W.nsIn K mainGlobals "_law_width_drawn" = some (some (.ref f20)))
    (l20 : K.lookup f20 = some ⟨oc20, od20, .func (PySem.W.fnOf "_law_width_drawn" "_law_width_drawn" (defArgs s_law_width_drawn) (defBody s_law_width_drawn) (defScope s_law_width_drawn) .none kV20 dc20 pm20 an20 cd20 ct20), sl20⟩)
    (c20 : PySem.W.codeIn K cd20 "_law_width_drawn" = true) (k20 : PySem.W.keepIn K (.ref f20) = true)
    (a21 : PySem.W.nsIn K mainGlobals "_law_product" = some (some (.ref f21)))
    (l21 : K.lookup f21 = some ⟨oc21, od21, .func (PySem.W.fnOf "_law_product" "_law_product" (defArgs s_law_product) (defBody s_law_product) (defScope s_law_product) .none kV21 dc21 pm21 an21 cd21 ct21), sl21⟩)
    (c21 : PySem.W.codeIn K cd21 "_law_product" = true) (k21 : PySem.W.keepIn K (.ref f21) = true)
    (a22 : PySem.W.nsIn K mainGlobals "_law_quotient" = some (some (.ref f22)))
    (l22 : K.lookup f22 = some ⟨oc22, od22, .func (PySem.W.fnOf "_law_quotient" "_law_quotient" (defArgs s_law_quotient) (defBody s_law_quotient) (defScope s_law_quotient) .none kV22 dc22 pm22 an22 cd22 ct22), sl22⟩)
    (c22 : PySem.W.codeIn K cd22 "_law_quotient" = true) (k22 : PySem.W.keepIn K (.ref f22) = true)
    (a23 : PySem.W.nsIn K mainGlobals "_law_moves_right" = some (some (.ref f23)))
    (l23 : K.lookup f23 = some ⟨oc23, od23, .func (PySem.W.fnOf "_law_moves_right" "_law_moves_right" (defArgs s_law_moves_right) (defBody s_law_moves_right) (defScope s_law_moves_right) .none kV23 dc23 pm23 an23 cd23 ct23), sl23⟩)
    (c23 : PySem.W.codeIn K cd23 "_law_moves_right" = true) (k23 : PySem.W.keepIn K (.ref f23) = true)
    (a24 : PySem.W.nsIn K mainGlobals "_law_right" = some (some (.ref f24)))
    (l24 : K.lookup f24 = some ⟨oc24, od24, .func (PySem.W.fnOf "_law_right" "_law_right" (defArgs s_law_right) (defBody s_law_right) (defScope s_law_right) .none kV24 dc24 pm24 an24 cd24 ct24), sl24⟩)
    (c24 : PySem.W.codeIn K cd24 "_law_right" = true) (k24 : PySem.W.keepIn K (.ref f24) = true)
    (a25 : PySem.W.nsIn K mainGlobals "law" = some (some (.ref f25)))
    (l25 : K.lookup f25 = some ⟨oc25, od25, .func (PySem.W.fnOf "law" "law" (defArgs s_law) (defBody s_law) (defScope s_law) .none kV25 dc25 pm25 an25 cd25 ct25), sl25⟩)
    (c25 : PySem.W.codeIn K cd25 "law" = true) (k25 : PySem.W.keepIn K (.ref f25) = true)
    (z_abs : PySem.W.nsIn K mainGlobals "abs" = some none)
    (z_bool : PySem.W.nsIn K mainGlobals "bool" = some none)
    (z_enumerate : PySem.W.nsIn K mainGlobals "enumerate" = some none)
    (z_int : PySem.W.nsIn K mainGlobals "int" = some none)
    (z_isinstance : PySem.W.nsIn K mainGlobals "isinstance" = some none)
    (z_len : PySem.W.nsIn K mainGlobals "len" = some none)
    (z_list : PySem.W.nsIn K mainGlobals "list" = some none)
    (z_max : PySem.W.nsIn K mainGlobals "max" = some none)
    (z_min : PySem.W.nsIn K mainGlobals "min" = some none)
    (z_range : PySem.W.nsIn K mainGlobals "range" = some none)
    (g_LEAST_TOO_LONG : PySem.W.nsIn K mainGlobals "LEAST_TOO_LONG" = some (some uc_LEAST_TOO_LONG)) (gr_LEAST_TOO_LONG : RelV (.int 1000000000000000000000000000000000000000000000000000000000000) uc_LEAST_TOO_LONG)
    (g_MAX_WIDTH : PySem.W.nsIn K mainGlobals "MAX_WIDTH" = some (some uc_MAX_WIDTH)) (gr_MAX_WIDTH : RelV (.int 32) uc_MAX_WIDTH)
    (g_MAX_PLACES : PySem.W.nsIn K mainGlobals "MAX_PLACES" = some (some uc_MAX_PLACES)) (gr_MAX_PLACES : RelV (.int 63) uc_MAX_PLACES)
    : ∃ fd : FuncData, (∀ (s : Shared) (v : Value), BindsTo s fd ⟨[v], []⟩ [("script", v)]) ∧ ∀ base : Heap, K.In base → base.Ns mainGlobals mg → FnOk l.prog w K mg base CX0 9 fa fd ["script"] (sp_law K) := by
  have e := hfa.symm.trans (PySem.W.mg_of X G a25)
  cases e
  have F0 := fun_mk (st := s_is_integer) l0 c0 k0
  have b0 := F0.binds (ps := P_is_integer) fun _ _ _ _ _ _ us hl => match us, hl with | [_], _ => rfl
  have F1 := fun_mk (st := s_is_between) l1 c1 k1
  have b1 := F1.binds (ps := P_is_between) fun _ _ _ _ _ _ us hl => match us, hl with | [_, _, _], _ => rfl
  have F2 := fun_mk (st := s_check_number) l2 c2 k2
  have b2 := F2.binds (ps := P_check_number) fun _ _ _ _ _ _ us hl => match us, hl with | [_, _, _], _ => rfl
  have F3 := fun_mk (st := s_check_width) l3 c3 k3
  have b3 := F3.binds (ps := P_check_width) fun _ _ _ _ _ _ us hl => match us, hl with | [_], _ => rfl
  have F4 := fun_mk (st := s_check_word) l4 c4 k4
  have b4 := F4.binds (ps := P_check_word) fun _ _ _ _ _ _ us hl => match us, hl with | [_, _], _ => rfl
  have F5 := fun_mk (st := s_check_one) l5 c5 k5
  have b5 := F5.binds (ps := P_check_one) fun _ _ _ _ _ _ us hl => match us, hl with | [_, _], _ => rfl
  have F6 := fun_mk (st := s_check_two) l6 c6 k6
  have b6 := F6.binds (ps := P_check_two) fun _ _ _ _ _ _ us hl => match us, hl with | [_, _, _], _ => rfl
  have F7 := fun_mk (st := s_wrapped) l7 c7 k7
  have b7 := F7.binds (ps := P_wrapped) fun _ _ _ _ _ _ us hl => match us, hl with | [_, _], _ => rfl
  have F8 := fun_mk (st := s_signed) l8 c8 k8
  have b8 := F8.binds (ps := P_signed) fun _ _ _ _ _ _ us hl => match us, hl with | [_, _], _ => rfl
  have F9 := fun_mk (st := s_multiplied) l9 c9 k9
  have b9 := F9.binds (ps := P_multiplied) fun _ _ _ _ _ _ us hl => match us, hl with | [_, _, _], _ => rfl
  have F10 := fun_mk (st := s_divided) l10 c10 k10
  have b10 := F10.binds (ps := P_divided) fun _ _ _ _ _ _ us hl => match us, hl with | [_, _, _], _ => rfl
  have F11 := fun_mk (st := s_moved_left) l11 c11 k11
  have b11 := F11.binds (ps := P_moved_left) fun _ _ _ _ _ _ us hl => match us, hl with | [_, _, _], _ => rfl
  have F12 := fun_mk (st := s_moved_right) l12 c12 k12
  have b12 := F12.binds (ps := P_moved_right) fun _ _ _ _ _ _ us hl => match us, hl with | [_, _, _], _ => rfl
  have F13 := fun_mk (st := s_law_dice) l13 c13 k13
  have b13 := F13.binds (ps := P_law_dice) fun _ _ _ _ _ _ us hl => match us, hl with | [_, _], _ => rfl
  have F14 := fun_mk (st := s_law_roll) l14 c14 k14
  have b14 := F14.binds (ps := P_law_roll) fun _ _ _ _ _ _ us hl => match us, hl with | [_, _], _ => rfl
  have F15 := fun_mk (st := s_law_one_of) l15 c15 k15
  have b15 := F15.binds (ps := P_law_one_of) fun _ _ _ _ _ _ us hl => match us, hl with | [_, _], _ => rfl
  have F16 := fun_mk (st := s_law_two_to) l16 c16 k16
  have b16 := F16.binds (ps := P_law_two_to) fun _ _ _ _ _ _ us hl => match us, hl with | [_], _ => rfl
  have F17 := fun_mk (st := s_law_word_drawn) l17 c17 k17
  have b17 := F17.binds (ps := P_law_word_drawn) fun _ _ _ _ _ _ us hl => match us, hl with | [_, _], _ => rfl
  have F18 := fun_mk (st := s_law_bits) l18 c18 k18
  have b18 := F18.binds (ps := P_law_bits) fun _ _ _ _ _ _ us hl => match us, hl with | [_, _], _ => rfl
  have F19 := fun_mk (st := s_law_of_bits) l19 c19 k19
  have b19 := F19.binds (ps := P_law_of_bits) fun _ _ _ _ _ _ us hl => match us, hl with | [_], _ => rfl
  have F20 := fun_mk (st := s_law_width_drawn) l20 c20 k20
  have b20 := F20.binds (ps := P_law_width_drawn) fun _ _ _ _ _ _ us hl => match us, hl with | [_], _ => rfl
  have F21 := fun_mk (st := s_law_product) l21 c21 k21
  have b21 := F21.binds (ps := P_law_product) fun _ _ _ _ _ _ us hl => match us, hl with | [_, _, _], _ => rfl
  have F22 := fun_mk (st := s_law_quotient) l22 c22 k22
  have b22 := F22.binds (ps := P_law_quotient) fun _ _ _ _ _ _ us hl => match us, hl with | [_, _, _], _ => rfl
  have F23 := fun_mk (st := s_law_moves_right) l23 c23 k23
  have b23 := F23.binds (ps := P_law_moves_right) fun _ _ _ _ _ _ us hl => match us, hl with | [_, _, _], _ => rfl
  have F24 := fun_mk (st := s_law_right) l24 c24 k24
  have b24 := F24.binds (ps := P_law_right) fun _ _ _ _ _ _ us hl => match us, hl with | [_], _ => rfl
  have F25 := fun_mk (st := s_law) l25 c25 k25
  have b25 := F25.binds (ps := P_law) fun _ _ _ _ _ _ us hl => match us, hl with | [_], _ => rfl
  let T : Txt K mg := { f_is_integer := f0, d_is_integer := _, F_is_integer := F0, b_is_integer := b0, m_is_integer := PySem.W.mg_of X G a0, f_is_between := f1, d_is_between := _, F_is_between := F1, b_is_between := b1, m_is_between := PySem.W.mg_of X G a1, f_check_number := f2, d_check_number := _, F_check_number := F2, b_check_number := b2, m_check_number := PySem.W.mg_of X G a2, f_check_width := f3, d_check_width := _, F_check_width := F3, b_check_width := b3, m_check_width := PySem.W.mg_of X G a3, f_check_word := f4, d_check_word := _, F_check_word := F4, b_check_word := b4, m_check_word := PySem.W.mg_of X G a4, f_check_one := f5, d_check_one := _, F_check_one := F5, b_check_one := b5, m_check_one := PySem.W.mg_of X G a5, f_check_two := f6, d_check_two := _, F_check_two := F6, b_check_two := b6, m_check_two := PySem.W.mg_of X G a6, f_wrapped := f7, d_wrapped := _, F_wrapped := F7, b_wrapped := b7, m_wrapped := PySem.W.mg_of X G a7, f_signed := f8, d_signed := _, F_signed := F8, b_signed := b8, m_signed := PySem.W.mg_of X G a8, f_multiplied := f9, d_multiplied := _, F_multiplied := F9, b_multiplied := b9, m_multiplied := PySem.W.mg_of X G a9, f_divided := f10, d_divided := _, F_divided := F10, b_divided := b10, m_divided := PySem.W.mg_of X G a10, f_moved_left := f11, d_moved_left := _, F_moved_left := F11, b_moved_left := b11, m_moved_left := PySem.W.mg_of X G a11, f_moved_right := f12, d_moved_right := _, F_moved_right := F12, b_moved_right := b12, m_moved_right := PySem.W.mg_of X G a12, f_law_dice := f13, d_law_dice := _, F_law_dice := F13, b_law_dice := b13, m_law_dice := PySem.W.mg_of X G a13, f_law_roll := f14, d_law_roll := _, F_law_roll := F14, b_law_roll := b14, m_law_roll := PySem.W.mg_of X G a14, f_law_one_of := f15, d_law_one_of := _, F_law_one_of := F15, b_law_one_of := b15, m_law_one_of := PySem.W.mg_of X G a15, f_law_two_to := f16, d_law_two_to := _, F_law_two_to := F16, b_law_two_to := b16, m_law_two_to := PySem.W.mg_of X G a16, f_law_word_drawn := f17, d_law_word_drawn := _, F_law_word_drawn := F17, b_law_word_drawn := b17, m_law_word_drawn := PySem.W.mg_of X G a17, f_law_bits := f18, d_law_bits := _, F_law_bits := F18, b_law_bits := b18, m_law_bits := PySem.W.mg_of X G a18, f_law_of_bits := f19, d_law_of_bits := _, F_law_of_bits := F19, b_law_of_bits := b19, m_law_of_bits := PySem.W.mg_of X G a19, f_law_width_drawn := f20, d_law_width_drawn := _, F_law_width_drawn := F20, b_law_width_drawn := b20, m_law_width_drawn := PySem.W.mg_of X G a20, f_law_product := f21, d_law_product := _, F_law_product := F21, b_law_product := b21, m_law_product := PySem.W.mg_of X G a21, f_law_quotient := f22, d_law_quotient := _, F_law_quotient := F22, b_law_quotient := b22, m_law_quotient := PySem.W.mg_of X G a22, f_law_moves_right := f23, d_law_moves_right := _, F_law_moves_right := F23, b_law_moves_right := b23, m_law_moves_right := PySem.W.mg_of X G a23, f_law_right := f24, d_law_right := _, F_law_right := F24, b_law_right := b24, m_law_right := PySem.W.mg_of X G a24, f_law := fa, d_law := _, F_law := F25, b_law := b25, m_law := PySem.W.mg_of X G a25, n_abs := PySem.W.mg_none_of X G z_abs, n_bool := PySem.W.mg_none_of X G z_bool, n_enumerate := PySem.W.mg_none_of X G z_enumerate, n_int := PySem.W.mg_none_of X G z_int, n_isinstance := PySem.W.mg_none_of X G z_isinstance, n_len := PySem.W.mg_none_of X G z_len, n_list := PySem.W.mg_none_of X G z_list, n_max := PySem.W.mg_none_of X G z_max, n_min := PySem.W.mg_none_of X G z_min, n_range := PySem.W.mg_none_of X G z_range, u_LEAST_TOO_LONG := uc_LEAST_TOO_LONG, c_LEAST_TOO_LONG := PySem.W.mg_of X G g_LEAST_TOO_LONG, r_LEAST_TOO_LONG := gr_LEAST_TOO_LONG, u_MAX_WIDTH := uc_MAX_WIDTH, c_MAX_WIDTH := PySem.W.mg_of X G g_MAX_WIDTH, r_MAX_WIDTH := gr_MAX_WIDTH, u_MAX_PLACES := uc_MAX_PLACES, c_MAX_PLACES := PySem.W.mg_of X G g_MAX_PLACES, r_MAX_PLACES := gr_MAX_PLACES }
  exact ⟨_, fun s v => .of_eq rfl, fun base _ _ => ok_law T⟩
end TB
open PySem PySem.W PyProof.Rows
set_option maxRecDepth 100000 in
set_option maxHeartbeats 0 in
theorem PySem.Challenge.cw_truebeat_k02_whole_products_and_quotient_holds : PySem.Challenge.rw_truebeat_k02_whole_products_and_quotient.Holds := by
  w_on; o_law; k_head; (case hw => w_witness2)
  k_fill
  refine L2.walk_of (l := PySem.Challenge.rw_truebeat_k02_whole_products_and_quotient) (n := 63) (k := 9) (x := "script") (CX := fun _ => L2.CX0) (sp := fun w => TB.sp_law _) rfl (by decide) rfl ⟨rfl, by decide, by decide⟩ (fun w h Y => PySem.W.kIn_of Y) ?F (fun _ _ a ns hl _ hS => ⟨a, ns, rfl, hS, hl, fun _ => rfl⟩) (fun _ _ _ _ _ h => h)
  case F =>
    intro w mg fa h KX G hmg
    refine' TB.all_mk KX G hmg ?a0 ?l0 ?c0 ?k0 ?a1 ?l1 ?c1 ?k1 ?a2 ?l2 ?c2 ?k2 ?a3 ?l3 ?c3 ?k3 ?a4 ?l4 ?c4 ?k4 ?a5 ?l5 ?c5 ?k5 ?a6 ?l6 ?c6 ?k6 ?a7 ?l7 ?c7 ?k7 ?a8 ?l8 ?c8 ?k8 ?a9 ?l9 ?c9 ?k9 ?a10 ?l10 ?c10 ?k10 ?a11 ?l11 ?c11 ?k11 ?a12 ?l12 ?c12 ?k12 ?a13 ?l13 ?c13 ?k13 ?a14 ?l14 ?c14 ?k14 ?a15 ?l15 ?c15 ?k15 ?a16 ?l16 ?c16 ?k16 ?a17 ?l17 ?c17 ?k17 ?a18 ?l18 ?c18 ?k18 ?a19 ?l19 ?c19 ?k19 ?a20 ?l20 ?c20 ?k20 ?a21 ?l21 ?c21 ?k21 ?a22 ?l22 ?c22 ?k22 ?a23 ?l23 ?c23 ?k23 ?a24 ?l24 ?c24 ?k24 ?a25 ?l25 ?c25 ?k25 ?z_abs ?z_bool ?z_enumerate ?z_int ?z_isinstance ?z_len ?z_list ?z_max ?z_min ?z_range ?g_LEAST_TOO_LONG ?gr_LEAST_TOO_LONG ?g_MAX_WIDTH ?gr_MAX_WIDTH ?g_MAX_PLACES ?gr_MAX_PLACES
    (case a0 => k_is)
    (case l0 => k_is)
    (case c0 => k_is)
    (case k0 => k_is)
    (case a1 => k_is)
    (case l1 => k_is)
    (case c1 => k_is)
    (case k1 => k_is)
    (case a2 => k_is)
    (case l2 => k_is)
    (case c2 => k_is)
    (case k2 => k_is)
    (case a3 => k_is)
    (case l3 => k_is)
    (case c3 => k_is)
    (case k3 => k_is)
    (case a4 => k_is)
    (case l4 => k_is)
    (case c4 => k_is)
    (case k4 => k_is)
    (case a5 => k_is)
    (case l5 => k_is)
    (case c5 => k_is)
    (case k5 => k_is)
    (case a6 => k_is)
    (case l6 => k_is)
    (case c6 => k_is)
    (case k6 => k_is)
    (case a7 => k_is)
    (case l7 => k_is)
    (case c7 => k_is)
    (case k7 => k_is)
    (case a8 => k_is)
    (case l8 => k_is)
    (case c8 => k_is)
    (case k8 => k_is)
    (case a9 => k_is)
    (case l9 => k_is)
    (case c9 => k_is)
    (case k9 => k_is)
    (case a10 => k_is)
    (case l10 => k_is)
    (case c10 => k_is)
    (case k10 => k_is)
    (case a11 => k_is)
    (case l11 => k_is)
    (case c11 => k_is)
    (case k11 => k_is)
    (case a12 => k_is)
    (case l12 => k_is)
    (case c12 => k_is)
    (case k12 => k_is)
    (case a13 => k_is)
    (case l13 => k_is)
    (case c13 => k_is)
    (case k13 => k_is)
    (case a14 => k_is)
    (case l14 => k_is)
    (case c14 => k_is)
    (case k14 => k_is)
    (case a15 => k_is)
    (case l15 => k_is)
    (case c15 => k_is)
    (case k15 => k_is)
    (case a16 => k_is)
    (case l16 => k_is)
    (case c16 => k_is)
    (case k16 => k_is)
    (case a17 => k_is)
    (case l17 => k_is)
    (case c17 => k_is)
    (case k17 => k_is)
    (case a18 => k_is)
    (case l18 => k_is)
    (case c18 => k_is)
    (case k18 => k_is)
    (case a19 => k_is)
    (case l19 => k_is)
    (case c19 => k_is)
    (case k19 => k_is)
    (case a20 => k_is)
    (case l20 => k_is)
    (case c20 => k_is)
    (case k20 => k_is)
    (case a21 => k_is)
    (case l21 => k_is)
    (case c21 => k_is)
    (case k21 => k_is)
    (case a22 => k_is)
    (case l22 => k_is)
    (case c22 => k_is)
    (case k22 => k_is)
    (case a23 => k_is)
    (case l23 => k_is)
    (case c23 => k_is)
    (case k23 => k_is)
    (case a24 => k_is)
    (case l24 => k_is)
    (case c24 => k_is)
    (case k24 => k_is)
    (case a25 => k_is)
    (case l25 => k_is)
    (case c25 => k_is)
    (case k25 => k_is)
    (case z_abs => k_is)
    (case z_bool => k_is)
    (case z_enumerate => k_is)
    (case z_int => k_is)
    (case z_isinstance => k_is)
    (case z_len => k_is)
    (case z_list => k_is)
    (case z_max => k_is)
    (case z_min => k_is)
    (case z_range => k_is)
    (case g_LEAST_TOO_LONG => k_is)
    (case gr_LEAST_TOO_LONG => exact ⟨_, rfl⟩)
    (case g_MAX_WIDTH => k_is)
    (case gr_MAX_WIDTH => exact ⟨_, rfl⟩)
    (case g_MAX_PLACES => k_is)
    (case gr_MAX_PLACES => exact ⟨_, rfl⟩)
#print axioms PySem.Challenge.cw_truebeat_k02_whole_products_and_quotient_holds
