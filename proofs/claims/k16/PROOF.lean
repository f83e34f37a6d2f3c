import PyProof.Rows.All
import Wide.All
import OpenK.AllK
import Wide.FinOn
import HandS.ForMost
import HandS.Wide
import HandS.Evl
import HandS.Defaults
import HandS.Style
import HandS.Walk
import HandS.IsInst
import HandS.WideBits
import HandS.TupAny
import KE.GoesEnum
import HandS.TupMul
import KE.KDictDisplayH
import KE.DataMinMax
import HandS.DictComp
import HandS.Conv
import HandS.More
import HandS.CallLocal
import PySem.Challenge.RW_truebeat_k16_whole_plans_by_name
set_option Elab.async false
set_option linter.all false
set_option maxRecDepth 100000
set_option maxHeartbeats 1000000
namespace TB
open PySem L2 PySem.W
theorem cxK {CX : CXT} {P : Program} {w : World} {K : PySem.W.Frag} {mg : Str → Option Value} {base : Heap} {N : List Str} {qual : Str} {scope : Scope} {f : Addr} {cd : Value} {A : Around} {outer : List Env} {s : Shared} {H : Hp} {E : XK} : (cxOf CX P w K mg base N qual scope f cd A outer s H E).K = K := rfl
/-! ### what is read off by rewriting -/
theorem ex_eq_l {α : Sort _} {a : α} {p : α → Prop} : (∃ x, a = x ∧ p x) = p a := propext ⟨fun ⟨_, e, h⟩ => e ▸ h, fun h => ⟨_, rfl, h⟩⟩
theorem lit_eq {p q : V} : (some (some p) = some (some q)) = (p = q) := by simp
theorem scal_ii {i j : Int} : scal (.int i) (.int j) = true := rfl
theorem scal_bb {i j : Bool} : scal (.bl i) (.bl j) = true := rfl
theorem scal_ss {i j : Str} : scal (.str i) (.str j) = true := rfl
theorem scal_nn {v : V} : scal .non v = scal .non v := rfl
abbrev Ex := Evl.Ex
theorem Ex.refl (H : Hp) : Ex H H := fun _ _ h => h
theorem ex_upd {H : Hp} {p : Addr} {o : HO} (h : H p = none) : Ex H (upd H p o) := Evl.Ex.new h
/-! ### values and their kinds -/
def isI : V → Bool
  | .int i => decide (-(10 ^ 60) < i ∧ i < 10 ^ 60)
  | _ => false
def kinds : List String := ["int", "bool", "NoneType", "str", "list", "tuple", "dict"]
/-- a value whose type is known -/
def Typd (K : PySem.W.Frag) (H : Hp) (v : V) : Prop := ∃ n, n ∈ kinds ∧ TyX K H v (.type n)
theorem Typd.int {K : PySem.W.Frag} {H : Hp} {i : Int} : Typd K H (.int i) := ⟨"int", by decide, .base (.int i)⟩
def vInt : V → Int
  | .int i => i
  | _ => 0
/-- between two bounds -/
def btw (v : V) (lo hi : Int) : Bool := isI v && (decide (lo ≤ vInt v) && decide (vInt v ≤ hi))
theorem isi_to {K : PySem.W.Frag} {H : Hp} {v : V} {n m : String} {b : Bool} {Q : VK} (hv : TyX K H v (.type n)) (e : kitB n m = some b) (h : Q (.bl b) H) : rIsi K [v, .ty m] H Q :=
  ⟨v, .ty m, .type n, .type m, b, rfl, ClsV.ty m, hv, kit_ty e, h⟩
theorem ty_ne {a b : String} (h : Value.type a = Value.type b) (d : a ≠ b) : False := d (by injection h)
theorem isI_not {K : PySem.W.Frag} {H : Hp} {v : V} {n : String} (h : TyX K H v (.type n)) (hn : n ≠ "int") : isI v = false := by
  cases v with
  | int i =>
    generalize hT : Value.type n = T at h
    cases h with
    | base h =>
      cases h with
      | int => exact (ty_ne hT hn).elim
  | _ => rfl
theorem int_of {K : PySem.W.Frag} {H : Hp} {v : V} (h : TyX K H v (.type "int")) : ∃ i, v = .int i := by
  generalize hT : Value.type "int" = T at h
  cases h with
  | base h =>
    cases h with
    | int i => exact ⟨i, rfl⟩
    | ins => cases hT
    | _ => exact (ty_ne hT (by decide)).elim
  | _ => exact (ty_ne hT (by decide)).elim
theorem btw_if {i lo hi : Int} (e : isI (.int i) = true) : btw (.int i) lo hi = if lo ≤ i then decide (i ≤ hi) else false := by
  unfold btw
  rw [e]
  show (true && (decide (lo ≤ i) && decide (i ≤ hi))) = _
  by_cases h : lo ≤ i
  · rw [decide_eq_true h, if_pos h]; rfl
  · rw [decide_eq_false h, if_neg h]; rfl
theorem btw_not {v : V} {lo hi : Int} (e : isI v = false) : btw v lo hi = false := by
  unfold btw
  rw [e]; rfl
/-- an int within its bounds -/
theorem btw_ok {i lo hi : Int} (h1 : lo ≤ i) (h2 : i ≤ hi) (h3 : -(10 ^ 60) < i) (h4 : i < 10 ^ 60) : btw (.int i) lo hi = true := by
  rw [btw_if (decide_eq_true ⟨h3, h4⟩), if_pos h1]
  exact decide_eq_true h2
theorem pow_le {n m : Nat} (h : n ≤ m) : (2 : Int) ^ n ≤ 2 ^ m := by
  have := Nat.pow_le_pow_right (show 0 < 2 by decide) h
  exact_mod_cast this
theorem pow_pos' (n : Nat) : (0 : Int) < 2 ^ n := by
  have := Nat.pow_pos (n := n) (show 0 < 2 by decide)
  exact_mod_cast this
theorem pow64 {n : Nat} (h : n ≤ 64) : (2 : Int) ^ n ≤ 18446744073709551616 := Int.le_trans (pow_le h) (by decide)
/-! ### powers of great numbers -/
def CPowW (i j : Int) : Prop := 0 ≤ j ∧ (Builtin.Int.intBits i : Int) * j ≤ 2 ^ 27
theorem op_powW {X : Cx} : OpR X (binaryOp .Pow) (rI CPowW fun i j => .int (i ^ j.toNat)) := opI fun _ _ _ _ _ _ _ hc q => PyProof.Rows.pow_int hc.1 hc.2 q
/-! ### dice -/
def dice3 (l m n : Int) : HO := .lst [.int l, .int m, .int n]
def DiceAt (H : Hp) (d : Addr) : Prop := ∃ l m n : Int, 0 ≤ l ∧ 0 ≤ m ∧ 0 ≤ n ∧ H d = some (dice3 l m n)
theorem mulw {i j : Int} (a b : Nat) (ha : i.natAbs < 2 ^ a) (hb : j.natAbs < 2 ^ b) (h0 : 0 < a := by decide) (h1 : 0 < b := by decide) (h : a + b ≤ 1000000 := by decide) : CMulW i j := wide_mul ha hb h0 h1 h
theorem divw {i j : Int} (b : Nat) (h : 0 < j) (hb : j.natAbs < 2 ^ b) (h0 : 0 < b := by decide) (h9 : b ≤ 9000 := by decide) : CDivW i j := wide_div h hb h0 h9
def CMulA (i j : Int) : Prop := CMul i j ∨ CMulW i j
theorem op_mulA {X : Cx} : OpR X (binaryOp .Mult) (rI CMulA fun i j => .int (i * j)) := opI fun _ _ _ _ _ _ _ hc q => by
  rcases hc with h | h
  · exact PyProof.Rows.mul_int q h.ok
  · exact PyProof.Rows.mul_int q h.ok
theorem mulL {i j : Int} (h : i.natAbs < 2 ^ 64) : CMulA i j := .inl (.inl ⟨by omega, by omega⟩)
theorem mulR {i j : Int} (h : j.natAbs < 2 ^ 64) : CMulA i j := .inl (.inr ⟨by omega, by omega⟩)
theorem mulA {i j : Int} (a b : Nat) (ha : i.natAbs < 2 ^ a) (hb : j.natAbs < 2 ^ b) (h0 : 0 < a := by decide) (h1 : 0 < b := by decide) (h : a + b ≤ 1000000 := by decide) : CMulA i j := .inr (wide_mul ha hb h0 h1 h)
theorem ixL {K : PySem.W.Frag} {a : Addr} {H : Hp} {xs : List V} {k : Int} {v : V} {Q : VK} (h : SqL K H a xs) (hv : atI xs k = some v) (q : Q v H) : rIxL K (.ref a) (.int k) H Q := ⟨a, xs, k, v, rfl, rfl, h, hv, q⟩
theorem ixM {K : PySem.W.Frag} {a : Addr} {H : Hp} {xs : List V} {k : Int} {v : V} {Q : VK} (h : H a = some (.lst xs)) (hv : atI xs k = some v) (q : Q v H) : rIxL K (.ref a) (.int k) H Q := ixL (SqL.of h) hv q
theorem ixT {K : PySem.W.Frag} {a : Addr} {H : Hp} {xs : List V} {k : Int} {v : V} {Q : VK} (h : SqT K H a xs) (hv : atI xs k = some v) (q : Q v H) : rIxT K (.ref a) (.int k) H Q := ⟨a, xs, k, v, rfl, rfl, h, hv, q⟩
theorem setL {a : Addr} {H : Hp} {xs : List V} {k : Int} {j : Nat} {v : V} {Q : Hp → Prop} (h : H a = some (.lst xs)) (hj : ixN xs.length k = some j) (q : Q (upd H a (.lst (xs.set j v)))) : rSetL (.ref a) (.int k) v H Q := ⟨a, xs, k, j, rfl, rfl, h, hj, q⟩
theorem mod_bd {a b : Int} (h : 0 < b) : 0 ≤ a % b ∧ a % b < b := ⟨Int.emod_nonneg _ (by omega), Int.emod_lt_of_pos _ h⟩
/-! ### loops -/
/-- what is left of a for once its walk is told -/
def Lp (J : It) (g : TG) (tb : TS) (D : Ends) (σ : St) (H : Hp) : Prop := ∃ W : Nat → Nat → St → Hp → Prop, (∃ m, W 0 m σ H) ∧ ∀ i m σ H, W i m σ H →
  (J.stop i H ∧ D.nx σ H) ∨ (J.go i H ∧ ∃ N : St → Hp → Prop, (∀ σ' H', N σ' H' → ∃ m', m' < m ∧ W (i + 1) m' σ' H') ∧ ∀ x H', J.yld i H x H' → g x σ H' fun σ2 H2 => tb { D with nx := N, ct := N, bk := D.nx } σ2 H2)
theorem tFor_eq {wi : TI} {g : TG} {tb : TS} {D : Ends} {σ : St} {H : Hp} : tFor wi g tb D σ H = wi σ H (fun J H1 => Lp J g tb D σ H1) := rfl
section
variable {K : PySem.W.Frag} {g : TG} {tb : TS} {D : Ends} {σ : St} {H : Hp}
theorem lpR (n : Nat) (Pv : Nat → St → Hp → Prop) (h0 : Pv 0 σ H) (hs : ∀ (i : Nat) σ' H', i < n → Pv i σ' H' → g (.int i) σ' H' fun σ2 H2 => tb { D with nx := Pv (i + 1), ct := Pv (i + 1), bk := D.nx } σ2 H2)
    (hd : ∀ σ' H', Pv n σ' H' → D.nx σ' H') : Lp (Itr 0 n) g tb D σ H :=
  for_range (lo := 0) (n := n) Pv h0 (fun i σ' H' hi p => by rw [Int.zero_add]; exact hs i σ' H' hi p) hd
theorem lpR2 (lo : Int) (n : Nat) (Pv : Nat → St → Hp → Prop) (h0 : Pv 0 σ H) (hs : ∀ (i : Nat) σ' H', i < n → Pv i σ' H' → g (.int (lo + i)) σ' H' fun σ2 H2 => tb { D with nx := Pv (i + 1), ct := Pv (i + 1), bk := D.nx } σ2 H2)
    (hd : ∀ σ' H', Pv n σ' H' → D.nx σ' H') : Lp (Itr lo n) g tb D σ H := for_range (lo := lo) (n := n) Pv h0 hs hd
theorem lpL {a : Addr} {xs : List V} (Pv : Nat → St → Hp → Prop) (h0 : Pv 0 σ H) (hl : ∀ i σ' H', i ≤ xs.length → Pv i σ' H' → SqL K H' a xs)
    (hs : ∀ i x σ' H', xs[i]? = some x → Pv i σ' H' → g x σ' H' fun σ2 H2 => tb { D with nx := Pv (i + 1), ct := Pv (i + 1), bk := D.nx } σ2 H2) (hd : ∀ σ' H', Pv xs.length σ' H' → D.nx σ' H') : Lp (Itl K a) g tb D σ H := for_list Pv h0 hl hs hd
theorem lpT {a : Addr} {xs : List V} (Pv : Nat → St → Hp → Prop) (h0 : Pv 0 σ H) (hl : ∀ i σ' H', i ≤ xs.length → Pv i σ' H' → SqT K H' a xs)
    (hs : ∀ i x σ' H', xs[i]? = some x → Pv i σ' H' → g x σ' H' fun σ2 H2 => tb { D with nx := Pv (i + 1), ct := Pv (i + 1), bk := D.nx } σ2 H2) (hd : ∀ σ' H', Pv xs.length σ' H' → D.nx σ' H') : Lp (Itt K a) g tb D σ H := for_tup Pv h0 hl hs hd
/-- for i, x in enumerate(list): the pair is a new tuple -/
theorem lpE {a : Addr} {xs : List V} (Pv : Nat → St → Hp → Prop) (h0 : Pv 0 σ H) (hl : ∀ i σ' H', i ≤ xs.length → Pv i σ' H' → SqL K H' a xs)
    (hs : ∀ i x T σ' H', xs[i]? = some x → Pv i σ' H' → H' T = none → g (.ref T) σ' (upd H' T (.tup [.int i, x])) fun σ2 H2 => tb { D with nx := Pv (i + 1), ct := Pv (i + 1), bk := D.nx } σ2 H2) (hd : ∀ σ' H', Pv xs.length σ' H' → D.nx σ' H') : Lp (Ite K a) g tb D σ H :=
  for_it walk_enum Pv h0 hl (fun i x σ' H' H2 hi p y => by
    obtain ⟨T, x1, x2, rfl, hT, rfl, e1, e2⟩ := y
    cases e1
    exact hs i x2 T σ' H' e2 p hT) hd
/-- for x, y in zip(list, list) -/
theorem lpZ {a b : Addr} {xs ys : List V} (he : xs.length = ys.length) (Pv : Nat → St → Hp → Prop) (h0 : Pv 0 σ H)
    (hl : ∀ i σ' H', i ≤ xs.length → Pv i σ' H' → SqL K H' a xs ∧ SqL K H' b ys)
    (hs : ∀ i x y T σ' H', xs[i]? = some x → ys[i]? = some y → Pv i σ' H' → H' T = none → g (.ref T) σ' (upd H' T (.tup [x, y])) fun σ2 H2 => tb { D with nx := Pv (i + 1), ct := Pv (i + 1), bk := D.nx } σ2 H2) (hd : ∀ σ' H', Pv xs.length σ' H' → D.nx σ' H') : Lp (Itz K a b) g tb D σ H :=
  for_it (walk_zip (n := xs.length) (by omega)) Pv h0 hl (fun i x σ' H' H2 hi p z => by
    obtain ⟨T, x1, x2, rfl, hT, rfl, e1, e2⟩ := z
    exact hs i x1 x2 T σ' H' e1 e2 p hT) hd
end
/-! ### bits -/
def bitsL (n : Nat) (i : Int) : List Int := (List.range n).map fun k => i / 2 ^ k % 2
theorem bitsL_succ (n : Nat) (i : Int) : bitsL (n + 1) i = bitsL n i ++ [i / 2 ^ n % 2] := by
  unfold bitsL
  rw [List.range_succ, List.map_append]; rfl
theorem bitsL_len (n : Nat) (i : Int) : (bitsL n i).length = n := by
  unfold bitsL
  rw [List.length_map, List.length_range]
/-- the number with these bits, the lowest one first -/
def ofB : List Int → Int
  | [] => 0
  | b :: bs => 2 * ofB bs + b
/-- a list of ints at a -/
abbrev LI (K : PySem.W.Frag) (H : Hp) (a : Addr) (ns : List Int) : Prop := SqL K H a (ns.map V.int)

theorem ofB_app (xs : List Int) (b : Int) : ofB (xs ++ [b]) = ofB xs + 2 ^ xs.length * b := by
  induction xs with
  | nil => show 2 * 0 + b = 0 + 1 * b; omega
  | cons x xs ih =>
    show 2 * ofB (xs ++ [b]) + x = 2 * ofB xs + x + 2 ^ (xs.length + 1) * b
    rw [ih, Int.pow_succ, Int.mul_add, Int.mul_comm (2 ^ xs.length) 2, Int.mul_assoc]
    omega
theorem emod_two_mul {i A : Int} (h : 0 < A) : i % (A * 2) = i % A + A * (i / A % 2) := by
  have h1 : i / (A * 2) = i / A / 2 := (Int.ediv_ediv_of_nonneg (Int.le_of_lt h)).symm
  rw [Int.emod_def i (A * 2), Int.emod_def i A, Int.emod_def (i / A) 2, h1, Int.mul_sub, ← Int.mul_assoc]
  omega
theorem ofB_bits (n : Nat) (i : Int) : ofB (bitsL n i) = i % 2 ^ n := by
  induction n with
  | zero => show (0 : Int) = i % 1; omega
  | succ n ih =>
    rw [bitsL_succ, ofB_app, ih, bitsL_len, Int.pow_succ]
    have hp := pow_pos' n
    exact (emod_two_mul (i := i) hp).symm
theorem atI_nat' {α : Type} {xs : List α} {j : Nat} (h : j < xs.length) : atI xs (j : Int) = some xs[j] := atI_nat (by simp [h])
/-- ints read out of a list of ints -/
theorem ints_get {ns : List Int} {i : Nat} {x : V} (h : (ns.map V.int)[i]? = some x) : ∃ z, ns[i]? = some z ∧ x = .int z := by
  rw [List.getElem?_map] at h
  cases e : ns[i]? with
  | none => rw [e] at h; cases h
  | some z => rw [e] at h; exact ⟨z, rfl, (Option.some.inj h).symm⟩
/-! ### data compared -/
def tupD (ns : List Int) : PyData := .tuple (ns.map .int)
def lstD (ns : List Int) : PyData := .list (ns.map .int)
theorem dpAll_ints {K : PySem.W.Frag} {H : Hp} : ∀ ns : List Int, DpAll K H (ns.map V.int) (ns.map PyData.int)
  | [] => .nil
  | n :: ns => .cons (.int n) (dpAll_ints ns)
theorem dp_tup {K : PySem.W.Frag} {H : Hp} {a : Addr} {ns : List Int} (h : SqT K H a (ns.map V.int)) : Dp K H (.ref a) (tupD ns) := .tup h (dpAll_ints ns)
theorem dp_lst {K : PySem.W.Frag} {H : Hp} {a : Addr} {ns : List Int} (h : SqL K H a (ns.map V.int)) : Dp K H (.ref a) (lstD ns) := .lst h (dpAll_ints ns)
theorem eqvAll_ints : ∀ ns ms : List Int, PyData.eqvAll (ns.map PyData.int) (ms.map PyData.int) = decide (ns = ms)
  | [], [] => rfl
  | [], _ :: _ => rfl
  | _ :: _, [] => rfl
  | n :: ns, m :: ms => by
    show ((n == m) && PyData.eqvAll (ns.map PyData.int) (ms.map PyData.int)) = _
    rw [eqvAll_ints ns ms]
    by_cases h : n = m
    · subst h; simp
    · simp [h]
theorem eqv_tupD (ns ms : List Int) : PyData.eqv (tupD ns) (tupD ms) = decide (ns = ms) := eqvAll_ints ns ms
theorem eqv_lstD (ns ms : List Int) : PyData.eqv (lstD ns) (lstD ms) = decide (ns = ms) := eqvAll_ints ns ms
/-! ### heaps that differ at the dice alone -/
def ExD (d : Addr) (H H' : Hp) : Prop := ∀ a o, a ≠ d → H a = some o → H' a = some o
theorem ExD.refl {d : Addr} (H : Hp) : ExD d H H := fun _ _ _ h => h
theorem ExD.trans {d : Addr} {H H1 H2 : Hp} (a : ExD d H H1) (b : ExD d H1 H2) : ExD d H H2 := fun x o n h => b x o n (a x o n h)
theorem exd_upd {d : Addr} {H : Hp} {o : HO} : ExD d H (upd H d o) := fun a u n h => by rw [upd_ne n]; exact h
theorem exd_new {d p : Addr} {H : Hp} {o : HO} (h : H p = none) : ExD d H (upd H p o) := fun a u n e => by rw [upd_ne (ne_of_none e h)]; exact e
theorem ExD.of {d : Addr} {H H' : Hp} (e : Ex H H') : ExD d H H' := fun a o _ h => e a o h
theorem dice_upd {H : Hp} {d : Addr} {l m n : Int} (hl : 0 ≤ l) (hm : 0 ≤ m) (hn : 0 ≤ n) : DiceAt (upd H d (dice3 l m n)) d := ⟨l, m, n, hl, hm, hn, upd_same⟩
theorem DiceAt.ne {H : Hp} {d p : Addr} (h : DiceAt H d) (hp : H p = none) : d ≠ p := by
  obtain ⟨l, m, n, _, _, _, e⟩ := h
  exact ne_of_none e hp
theorem DiceAt.ex {H H' : Hp} {d : Addr} (h : DiceAt H d) (e : Ex H H') : DiceAt H' d := by
  obtain ⟨l, m, n, a, b, c, x⟩ := h
  exact ⟨l, m, n, a, b, c, e _ _ x⟩
theorem DiceAt.new {H : Hp} {d p : Addr} {o : HO} (h : DiceAt H d) (hp : H p = none) : DiceAt (upd H p o) d := h.ex (ex_upd hp)
theorem sq_upd {K : PySem.W.Frag} {H : Hp} {a d : Addr} {o : HO} {xs : List V} (n : a ≠ d) (h : SqL K H a xs) : SqL K (upd H d o) a xs := by
  rcases h with (h | ⟨u, h⟩) | h
  · exact .inl (.inl (by rw [upd_ne n]; exact h))
  · exact .inl (.inr ⟨u, by rw [upd_ne n]; exact h⟩)
  · exact .inr h
theorem ExD.seq {K : PySem.W.Frag} {H H' : Hp} {a d : Addr} {xs : List V} (e : ExD d H H') (n : a ≠ d) (h : SqL K H a xs) : SqL K H' a xs := by
  rcases h with (h | ⟨u, h⟩) | h
  · exact .inl (.inl (e _ _ n h))
  · exact .inl (.inr ⟨u, e _ _ n h⟩)
  · exact .inr h
theorem _root_.Evl.Ex.seq {K : PySem.W.Frag} {H H' : Hp} {a : Addr} {xs : List V} (e : Ex H H') (h : SqL K H a xs) : SqL K H' a xs := Evl.ex_l e h
/-- the signed number of a word -/
def sgn (n : Nat) (i : Int) : Int := i - i / 2 ^ (n - 1) * 2 ^ n
theorem _root_.Evl.Ex.fresh {H H' : Hp} {p : Addr} (e : Evl.Ex H H') (h : H' p = none) : H p = none := Evl.fresh_back e h
/-- one step of a division, bit by bit: x's rest and quotient from those of x / 2 -/
theorem quot_step (x j : Int) (h : 0 < j) : x % j = (if j ≤ 2 * (x / 2 % j) + x % 2 then 2 * (x / 2 % j) + x % 2 - j else 2 * (x / 2 % j) + x % 2) ∧
    x / j = 2 * (x / 2 / j) + (if j ≤ 2 * (x / 2 % j) + x % 2 then 1 else 0) := by
  have h1 := mod_bd (a := x / 2) h
  have h2 := Int.mul_ediv_add_emod (x / 2) j
  have h3 : x % 2 = 0 ∨ x % 2 = 1 := by omega
  have h4 : x = 2 * (x / 2) + x % 2 := by omega
  generalize x / 2 % j = r at *
  generalize x / 2 / j = q at *
  generalize x % 2 = b at *
  generalize x / 2 = y at *
  by_cases hc : j ≤ 2 * r + b
  · rw [if_pos hc, if_pos hc]
    have e : x = (2 * r + b - j) + j * (2 * q + 1) := by rw [Int.mul_add, Int.mul_one, ← Int.mul_assoc, Int.mul_comm j 2, Int.mul_assoc]; omega
    constructor
    · rw [e, Int.add_mul_emod_self_left, Int.emod_eq_of_lt (by omega) (by omega)]
    · rw [e, Int.add_mul_ediv_left _ _ (by omega), Int.ediv_eq_zero_of_lt (by omega) (by omega)]; omega
  · rw [if_neg hc, if_neg hc]
    have e : x = (2 * r + b) + j * (2 * q) := by rw [← Int.mul_assoc, Int.mul_comm j 2, Int.mul_assoc]; omega
    constructor
    · rw [e, Int.add_mul_emod_self_left, Int.emod_eq_of_lt (by omega) (by omega)]
    · rw [e, Int.add_mul_ediv_left _ _ (by omega), Int.ediv_eq_zero_of_lt (by omega) (by omega)]; omega
/-! ### cuts -/
theorem cut_to {xs : List V} (k : Nat) : cutV xs none (some (k : Int)) = xs.take k := by
  unfold cutV
  rw [HT.sIx_nat, HT.sIx_none, List.drop_zero, Nat.sub_zero]
  by_cases h : k ≤ xs.length
  · rw [Nat.min_eq_left h]
  · rw [Nat.min_eq_right (by omega), List.take_of_length_le (Nat.le_refl _), List.take_of_length_le (by omega)]
theorem cut_from {xs : List V} (k : Nat) : cutV xs (some (k : Int)) none = xs.drop k := by
  unfold cutV
  rw [HT.sIx_nat, HT.sIx_none]
  by_cases h : k ≤ xs.length
  · rw [Nat.min_eq_left h, List.take_of_length_le (by rw [List.length_drop]; omega)]
  · rw [Nat.min_eq_right (by omega), Nat.sub_self, List.take_zero, List.drop_of_length_le (by omega)]
theorem bitsL_get {n k : Nat} {i : Int} (h : k < n) : (bitsL n i)[k]? = some (i / 2 ^ k % 2) := by
  unfold bitsL
  rw [List.getElem?_map, List.getElem?_range h]; rfl
theorem bitsL_none {n k : Nat} {i : Int} (h : n ≤ k) : (bitsL n i)[k]? = none := List.getElem?_eq_none (by rw [bitsL_len]; exact h)
theorem pow_split {a b : Nat} (h : a ≤ b) : (2 : Int) ^ b = 2 ^ a * 2 ^ (b - a) := by
  rw [← Int.pow_add]; congr 1; omega
theorem shl_bits (n k : Nat) (i : Int) : (List.replicate k 0 ++ bitsL n i).take n = bitsL n (i * 2 ^ k) := by
  apply List.ext_getElem?
  intro m
  rw [List.getElem?_take]
  by_cases hm : m < n
  · rw [if_pos hm, bitsL_get hm]
    by_cases hk : m < k
    · rw [List.getElem?_append_left (by rw [List.length_replicate]; exact hk), List.getElem?_replicate, if_pos hk]
      have e : k - m = (k - m - 1) + 1 := by omega
      rw [pow_split (Nat.le_of_lt hk), Int.mul_comm (2 ^ m), ← Int.mul_assoc, Int.mul_ediv_cancel _ (Int.ne_of_gt (pow_pos' m)), e, Int.pow_succ, ← Int.mul_assoc, Int.mul_emod_left]
    · rw [List.getElem?_append_right (by rw [List.length_replicate]; omega), List.length_replicate, bitsL_get (by omega)]
      rw [pow_split (show k ≤ m by omega), Int.mul_comm i, Int.mul_ediv_mul_of_pos _ _ (pow_pos' k)]
  · rw [if_neg hm, bitsL_none (by omega)]
theorem shr_bits (n k : Nat) (i : Int) (h0 : 0 ≤ i) (h : i < 2 ^ n) : ofB ((bitsL n i).drop k) = i / 2 ^ k := by
  by_cases hk : k ≤ n
  · have e : (bitsL n i).drop k = bitsL (n - k) (i / 2 ^ k) := by
      apply List.ext_getElem?
      intro m
      rw [List.getElem?_drop]
      by_cases hm : m < n - k
      · rw [bitsL_get hm, bitsL_get (by omega), Int.ediv_ediv_of_nonneg (Int.le_of_lt (pow_pos' k)), Int.pow_add]
      · rw [bitsL_none (by omega), bitsL_none (by omega)]
    rw [e, ofB_bits]
    refine Int.emod_eq_of_lt (Int.ediv_nonneg h0 (Int.le_of_lt (pow_pos' k))) ?_
    refine Int.ediv_lt_of_lt_mul (pow_pos' k) ?_
    rw [Int.mul_comm, ← pow_split hk]; exact h
  · rw [List.drop_of_length_le (by rw [bitsL_len]; omega)]
    rw [Int.ediv_eq_zero_of_lt h0 (Int.lt_of_lt_of_le h (pow_le (by omega)))]; rfl
theorem flat_rep {α : Type} (k : Nat) (x : α) : (List.replicate k [x]).flatten = List.replicate k x := by
  induction k with
  | zero => rfl
  | succ k ih => rw [List.replicate_succ, List.flatten_cons, ih, List.replicate_succ]; rfl
theorem sh_tup (ns : List Int) : SeqAt.shaped (tupD ns) = true := by
  unfold SeqAt.shaped tupD
  have h1 : (PyData.tuple (ns.map .int)).canLay0 = true := PyProof.Rows.canLayAll_ints ns
  have h2 : (PyData.tuple (ns.map .int)).depth = 1 + 0 := by simp only [PyData.depth, PyProof.Rows.depthAll_ints]
  rw [h1, h2]; rfl
theorem sh_lst (ns : List Int) : SeqAt.shaped (lstD ns) = true := by
  unfold SeqAt.shaped lstD
  have h1 : (PyData.list (ns.map .int)).canLay0 = true := PyProof.Rows.canLayAll_ints ns
  have h2 : (PyData.list (ns.map .int)).depth = 1 + 0 := by simp only [PyData.depth, PyProof.Rows.depthAll_ints]
  rw [h1, h2]; rfl
theorem neT {K : PySem.W.Frag} {H : Hp} {a b : Addr} {ns ms : List Int} {Q : VK} (h1 : SqT K H a (ns.map V.int)) (h2 : SqT K H b (ms.map V.int)) (q : Q (.bl (!decide (ns = ms))) H) : rNeD K (.ref a) (.ref b) H Q :=
  ⟨_, _, dp_tup h1, dp_tup h2, sh_tup _, sh_tup _, by rw [eqv_tupD]; exact q⟩
theorem eqT {K : PySem.W.Frag} {H : Hp} {a b : Addr} {ns ms : List Int} {Q : VK} (h1 : SqT K H a (ns.map V.int)) (h2 : SqT K H b (ms.map V.int)) (q : Q (.bl (decide (ns = ms))) H) : rEqD K (.ref a) (.ref b) H Q :=
  ⟨_, _, dp_tup h1, dp_tup h2, sh_tup _, sh_tup _, by rw [eqv_tupD]; exact q⟩
/-- data that is told by itself -/
theorem eqD {K : PySem.W.Frag} {H : Hp} {x y : V} {d e : PyData} {Q : VK} (h1 : Dp K H x d) (h2 : Dp K H y e) (s1 : SeqAt.shaped d = true) (s2 : SeqAt.shaped e = true) {b : Bool} (hb : PyData.eqv d e = b) (q : Q (.bl b) H) : rEqD K x y H Q :=
  ⟨_, _, h1, h2, s1, s2, by rw [hb]; exact q⟩
theorem neD {K : PySem.W.Frag} {H : Hp} {x y : V} {d e : PyData} {Q : VK} (h1 : Dp K H x d) (h2 : Dp K H y e) (s1 : SeqAt.shaped d = true) (s2 : SeqAt.shaped e = true) {b : Bool} (hb : PyData.eqv d e = b) (q : Q (.bl (!b)) H) : rNeD K x y H Q :=
  ⟨_, _, h1, h2, s1, s2, by rw [hb]; exact q⟩
theorem _root_.Evl.Ex.lst {H H' : Hp} {a : Addr} {o : HO} (e : Evl.Ex H H') (h : H a = some o) : H' a = some o := e a o h
/-- the signed numbers' product is that of the words -/
theorem sgn_mul (n : Nat) (i j : Int) : sgn n i * sgn n j % 2 ^ n = i * j % 2 ^ n := by
  have a1 : sgn n i % 2 ^ n = i % 2 ^ n := by unfold sgn; rw [Int.sub_emod, Int.mul_emod_left, Int.sub_zero, Int.emod_emod]
  have a2 : sgn n j % 2 ^ n = j % 2 ^ n := by unfold sgn; rw [Int.sub_emod, Int.mul_emod_left, Int.sub_zero, Int.emod_emod]
  rw [Int.mul_emod, a1, a2, ← Int.mul_emod]
theorem sgn_bd {n : Nat} {i : Int} (h1 : 1 ≤ n) (h0 : 0 ≤ i) (h : i < 2 ^ n) : -(2 ^ n) ≤ sgn n i ∧ sgn n i < 2 ^ n := by
  unfold sgn
  have hq := pow_pos' (n - 1)
  have e : (2 : Int) ^ n = 2 ^ (n - 1) * 2 := by rw [← Int.pow_succ]; congr 1; omega
  have b1 : 0 ≤ i / 2 ^ (n - 1) := Int.ediv_nonneg h0 (Int.le_of_lt hq)
  have b2 : i / 2 ^ (n - 1) < 2 := Int.ediv_lt_of_lt_mul hq (by rw [Int.mul_comm, ← e]; exact h)
  have b3 : i / 2 ^ (n - 1) = 0 ∨ i / 2 ^ (n - 1) = 1 := by omega
  rcases b3 with b | b <;> rw [b] <;> omega
/-! ### the lowest bit -/
theorem op_and1 {X : Cx} : OpR X (binaryOp .BitAnd) (fun x y H Q => ∃ i : Int, x = .int i ∧ y = .int 1 ∧ Q (.int (i % 2)) H) := by
  intro pins s σ H x y v u Q I rx ry h
  obtain ⟨i, rfl, rfl, q⟩ := h
  exact op_andM pins s σ H (.int i) (.int 1) v u Q I rx ry ⟨i, 1, rfl, rfl, q⟩
/-! ### carries -/
def cy (i j c : Int) (k : Nat) : Int := (i % 2 ^ k + j % 2 ^ k + c) / 2 ^ k
def cyL (n : Nat) (i j c : Int) : List Int := (List.range n).map (cy i j c)
theorem cyL_len (n : Nat) (i j c : Int) : (cyL n i j c).length = n := by unfold cyL; rw [List.length_map, List.length_range]
theorem cyL_succ (n : Nat) (i j c : Int) : cyL (n + 1) i j c = cyL n i j c ++ [cy i j c n] := by
  unfold cyL; rw [List.range_succ, List.map_append]; rfl
theorem cyL_get {n k : Nat} {i j c : Int} (h : k < n) : (cyL n i j c)[k]? = some (cy i j c k) := by
  unfold cyL; rw [List.getElem?_map, List.getElem?_range h]; rfl
theorem cy_zero (i j c : Int) : cy i j c 0 = c := by
  unfold cy; rw [Int.pow_zero, Int.emod_one, Int.emod_one, Int.ediv_one]; omega
theorem cy_succ (i j c : Int) (k : Nat) : cy i j c (k + 1) = (i / 2 ^ k % 2 + j / 2 ^ k % 2 + cy i j c k) / 2 := by
  unfold cy
  have hp := pow_pos' k
  rw [Int.pow_succ, emod_two_mul hp, emod_two_mul hp, ← Int.ediv_ediv_of_nonneg (Int.le_of_lt hp)]
  have e : i % 2 ^ k + 2 ^ k * (i / 2 ^ k % 2) + (j % 2 ^ k + 2 ^ k * (j / 2 ^ k % 2)) + c = (i % 2 ^ k + j % 2 ^ k + c) + 2 ^ k * (i / 2 ^ k % 2 + j / 2 ^ k % 2) := by
    rw [Int.mul_add]; omega
  rw [e, Int.add_mul_ediv_left _ _ (Int.ne_of_gt hp)]
  congr 1; omega
/-- the bits of a sum, by its carries -/
theorem sum_bit (i j c : Int) (k : Nat) : (i / 2 ^ k % 2 + j / 2 ^ k % 2 + cy i j c k) % 2 = (i + j + c) / 2 ^ k % 2 := by
  unfold cy
  have hp := pow_pos' k
  have e : i + j + c = (i % 2 ^ k + j % 2 ^ k + c) + 2 ^ k * (i / 2 ^ k + j / 2 ^ k) := by
    have h1 := Int.mul_ediv_add_emod i (2 ^ k)
    have h2 := Int.mul_ediv_add_emod j (2 ^ k)
    rw [Int.mul_add]; omega
  rw [e, Int.add_mul_ediv_left _ _ (Int.ne_of_gt hp)]
  omega
theorem cy_bd {i j c : Int} (h0 : 0 ≤ c) (h1 : c ≤ 1) (k : Nat) : 0 ≤ cy i j c k ∧ cy i j c k ≤ 1 := by
  unfold cy
  have hp := pow_pos' k
  have a := mod_bd (a := i) hp
  have b := mod_bd (a := j) hp
  constructor
  · exact Int.ediv_nonneg (by omega) (Int.le_of_lt hp)
  · have := Int.ediv_lt_of_lt_mul (a := i % 2 ^ k + j % 2 ^ k + c) (b := 2) hp (by omega)
    omega
theorem cy_top {i j c : Int} {n : Nat} (hi0 : 0 ≤ i) (hi : i < 2 ^ n) (hj0 : 0 ≤ j) (hj : j < 2 ^ n) : cy i j c n = (i + j + c) / 2 ^ n := by
  unfold cy; rw [Int.emod_eq_of_lt hi0 hi, Int.emod_eq_of_lt hj0 hj]
/-- words with their top bits turned -/
theorem sgn_turned {n : Nat} {i : Int} (h1 : 1 ≤ n) (h0 : 0 ≤ i) (h : i < 2 ^ n) : sgn n i = (i + 2 ^ (n - 1)) % 2 ^ n - 2 ^ (n - 1) := by
  unfold sgn
  have hq := pow_pos' (n - 1)
  have e : (2 : Int) ^ n = 2 ^ (n - 1) * 2 := by rw [← Int.pow_succ]; congr 1; omega
  have b1 : 0 ≤ i / 2 ^ (n - 1) := Int.ediv_nonneg h0 (Int.le_of_lt hq)
  have b2 : i / 2 ^ (n - 1) < 2 := Int.ediv_lt_of_lt_mul hq (by rw [Int.mul_comm, ← e]; exact h)
  have b3 : i / 2 ^ (n - 1) = 0 ∨ i / 2 ^ (n - 1) = 1 := by omega
  have h2 := Int.mul_ediv_add_emod i (2 ^ (n - 1))
  have h3 := mod_bd (a := i) hq
  rcases b3 with b | b
  · rw [b] at h2 ⊢
    have : (i + 2 ^ (n - 1)) % 2 ^ n = i + 2 ^ (n - 1) := Int.emod_eq_of_lt (by omega) (by omega)
    rw [this]; omega
  · rw [b] at h2 ⊢
    have : (i + 2 ^ (n - 1)) % 2 ^ n = i + 2 ^ (n - 1) - 2 ^ n := by
      rw [show i + 2 ^ (n - 1) = (i + 2 ^ (n - 1) - 2 ^ n) + 2 ^ n by omega, Int.add_emod_right]
      rw [Int.emod_eq_of_lt (by omega) (by omega)]
      omega
    rw [this]; omega
/-! ### comprehensions -/
def Lc (J : It) (g : TG) (tt : TT) (te : TE) (vs : List Nat) (σ : St) (H1 : Hp) (D : Addr) (Qd : Hp → Prop) : Prop := ∃ W : Nat → Nat → Hp → Prop, (∃ m, W 0 m (upd H1 D (.lst []))) ∧ ∀ i m H, W i m H →
  (J.stop i H ∧ Qd H) ∨ (J.go i H ∧ ∃ Nx : Hp → Prop, (∀ H', Nx H' → ∃ m', m' < m ∧ W (i + 1) m' H') ∧ ∀ x H', J.yld i H x H' → g x (wipe σ vs) H' fun σ2 H2 => wipe σ2 vs = wipe σ vs ∧ tt σ2 H2 fun b H3 =>
    if b = true then te σ2 H3 fun y H4 => ∃ acc, H4 D = some (.lst acc) ∧ acc.length < sizeLine ∧ Nx (upd H4 D (.lst (acc ++ [y]))) else Nx H3)
theorem tLc_eq {wi : TI} {g : TG} {tt : TT} {te : TE} {vs : List Nat} {σ : St} {H : Hp} {Q : VK} : tLc wi g tt te vs σ H Q = wi σ H (fun J H1 => ∀ D, H1 D = none → Lc J g tt te vs σ H1 D (fun H' => Q (.ref D) H')) := rfl
/-- what is kept of n turns -/
def kept (n : Nat) (keep : Nat → Bool) (f : Nat → V) : List V := ((List.range n).filter keep).map f
theorem kept_yes {n : Nat} {k : Nat → Bool} {f : Nat → V} (h : k n = true) : kept (n + 1) k f = kept n k f ++ [f n] := by
  unfold kept
  rw [List.range_succ, List.filter_append, List.map_append, List.filter_cons, if_pos h] <;> rfl
theorem kept_no {n : Nat} {k : Nat → Bool} {f : Nat → V} (h : k n = false) : kept (n + 1) k f = kept n k f := by
  unfold kept
  rw [List.range_succ, List.filter_append, List.map_append, List.filter_cons, if_neg (by rw [h]; decide)]
  show _ ++ [] = _
  rw [List.append_nil]
theorem kept_len (n : Nat) (k : Nat → Bool) (f : Nat → V) : (kept n k f).length ≤ n := by
  unfold kept
  rw [List.length_map]
  have h := List.length_filter_le k (List.range n)
  rwa [List.length_range] at h
theorem kept_all {n : Nat} {f : Nat → V} : kept n (fun _ => true) f = (List.range n).map f := by
  unfold kept
  rw [List.filter_eq_self.mpr (fun _ _ => rfl)]
theorem lc_go {J : It} {n : Nat} {G : Hp → Prop} {Y : Nat → Hp → V → Hp → Prop} {g : TG} {tt : TT} {te : TE} {vs : List Nat} {σ : St} {H1 : Hp} {D : Addr} {Qd : Hp → Prop} (w : Walk J n G Y) (keep : Nat → Bool) (f : Nat → V) (hn : n ≤ 50000) (hD : H1 D = none) (hG : ∀ H', Ex H1 H' → G H')
    (hs : ∀ i x H' H2, i < n → Ex H1 H' → Y i H' x H2 → ∀ (Qe : VK) (Qn : Hp → Prop), (∀ H5, Ex H' H5 → keep i = true → Qe (f i) H5) → (∀ H5, Ex H' H5 → keep i = false → Qn H5) →
      g x (wipe σ vs) H2 fun σ2 H3 => wipe σ2 vs = wipe σ vs ∧ tt σ2 H3 fun b H4 => if b = true then te σ2 H4 Qe else Qn H4)
    (hd : ∀ H', Ex H1 H' → H' D = some (.lst (kept n keep f)) → Qd H') : Lc J g tt te vs σ H1 D Qd := by
  refine lc_it w (fun i H' => Ex H1 H' ∧ H' D = some (.lst (kept i keep f))) ⟨ex_upd hD, upd_same⟩ (fun i H' _ p => hG H' p.1) (fun i x H' H2 hi p y => ?_) (fun H' p => hd H' p.1 p.2)
  have hlen : (kept i keep f).length < sizeLine := Nat.lt_of_le_of_lt (kept_len i keep f) (by rw [sizeLine_eq]; omega)
  refine hs i x H' H2 hi p.1 y _ _ (fun H5 e5 hk => ⟨_, e5 _ _ p.2, hlen, (p.1.trans e5).mut hD, ?_⟩) (fun H5 e5 hk => ⟨p.1.trans e5, ?_⟩)
  · rw [upd_same, kept_yes hk]
  · rw [kept_no hk]; exact e5 _ _ p.2
/-- all turns kept -/
theorem lc_map {J : It} {n : Nat} {G : Hp → Prop} {Y : Nat → Hp → V → Hp → Prop} {g : TG} {te : TE} {vs : List Nat} {σ : St} {H1 : Hp} {D : Addr} {Qd : Hp → Prop} (w : Walk J n G Y) (f : Nat → V) (hn : n ≤ 50000) (hD : H1 D = none) (hG : ∀ H', Ex H1 H' → G H')
    (hs : ∀ i x H' H2, i < n → Ex H1 H' → Y i H' x H2 → ∀ (Qe : VK), (∀ H5, Ex H' H5 → Qe (f i) H5) → g x (wipe σ vs) H2 fun σ2 H3 => wipe σ2 vs = wipe σ vs ∧ te σ2 H3 Qe)
    (hd : ∀ H', Ex H1 H' → H' D = some (.lst ((List.range n).map f)) → Qd H') : Lc J g tYes te vs σ H1 D Qd := by
  refine lc_it w (fun i H' => Ex H1 H' ∧ H' D = some (.lst ((List.range i).map f))) ⟨ex_upd hD, upd_same⟩ (fun i H' _ p => hG H' p.1) (fun i x H' H2 hi p y => ?_) (fun H' p => hd H' p.1 p.2)
  have hlen : ((List.range i).map f).length < sizeLine := by rw [List.length_map, List.length_range, sizeLine_eq]; omega
  refine hs i x H' H2 hi p.1 y _ (fun H5 e5 => ⟨_, e5 _ _ p.2, hlen, (p.1.trans e5).mut hD, ?_⟩)
  rw [upd_same, List.range_succ, List.map_append]; rfl
theorem call_repr_bl {X : Cx} : CallR X (.builtin "repr") (fun xs H Q => ∃ b, xs = [.bl b] ∧ Q (.str (if b then "True" else "False")) H) := by
  intro pins s σ H xs us Q I r h
  obtain ⟨b, rfl, q⟩ := h
  obtain ⟨u, rfl, rfl⟩ := vals1 r
  exact PySem.P.repr_of_bool ⟨.str _, H, I.tok _, ⟨_, rfl⟩, q⟩
section
open PySem.Spec PyProof.Rows
/-! ### enumerate over what an iterator begins (a tuple) -/
theorem enumB_new {v : Value} {o : Obj} {G : Heap → Prop} (B : Begins v o G) : Meets (Builtin.«enumerate.__new__» ⟨[.type "enumerate", v], []⟩) (fun _ R s => G s.heap ∧
    R (.ok (.ret (.ref (s.heap.push o).objs.size))) { s with heap := (s.heap.push o).push { cls := .type "enumerate", data := .fields #[.none, .bool false, .ref s.heap.objs.size, rawInt 0, .none, .none] } }) := by
  refine .of_wp fun pr wo Ar R s hh => ?_
  obtain ⟨hp, gs, dr, tk, os⟩ := s
  obtain ⟨g0, hk⟩ := hh
  have sub := sub_enumerate
  have go : ∀ {Ax : Around} {Ex' : Value → Shared → Prop} {Qx : Value → Shared → Prop}, Qx (.ref hp.objs.size) ⟨hp.push o, gs, dr, tk, os⟩ → wpAny (model pr wo) Ax (pyIter v) Qx Ex' ⟨hp, gs, dr, tk, os⟩ :=
    fun z => B.iter pr wo _ _ ⟨hp, gs, dr, tk, os⟩ _ g0 z
  wp_walk using go
  refine wpAny_stack_any fun st => wpAny_pure ?_
  split
  · rename_i c _ _ _ _ _
    cases (c == Value.type "enumerate") <;> (wp_walk using go; exact ⟨_, rfl, hk⟩)
  · wp_walk using go
    exact ⟨_, rfl, hk⟩
theorem enumT_call {prog : Program} {w : World} {A : Around} {E : Value → Shared → Prop} {s : Shared} {t : Addr} {its : Array Value} {Q : Value → Shared → Prop} (ht : s.heap.IsTuple t its)
    (k : ∀ h', IsEnum h' (s.heap.objs.size + 1) s.heap.objs.size 0 .none → h'.IsTupleIter s.heap.objs.size t 0 → (∀ b o, s.heap.get? b = some o → h'.get? b = some o) → Q (.ref (s.heap.objs.size + 1)) { s with heap := h' }) :
    wpAny (model prog w) A (call (.type "enumerate") [.ref t]) Q E s := by
  refine callType_new F.called_enumerate (by decide) (F.typeCall_enumerate_1 _) (F.newCall_enumerate_1 _) (fun ob => F.args_object_init_2 ob _) F.entry_enumerate_new (enumB_new (begins_tuple t its)) ⟨ht, ?_⟩
  generalize ho : ({ cls := .type "tuple_iterator", data := .fields #[.ref t, .int 0 0] } : Obj) = o1
  have fr : o1.isFreed = false := by rw [← ho]; rfl
  have hz : (s.heap.push o1).objs.size = s.heap.objs.size + 1 := Heap.size_push ..
  show _ ∧ _
  rw [hz]
  have he : ((s.heap.push o1).push { cls := .type "enumerate", data := .fields #[.none, .bool false, .ref s.heap.objs.size, rawInt 0, .none, .none] }).get? (s.heap.objs.size + 1) = some { cls := .type "enumerate", data := .fields #[.none, .bool false, .ref s.heap.objs.size, rawInt 0, .none, .none] } := by
    rw [← hz]; exact Heap.get?_push_size _ rfl
  refine ⟨⟨_, he, rfl⟩, k _ he ⟨o1, Heap.get?_push_of_some _ (Heap.get?_push_size _ fr), ?_, ?_⟩ fun b o hb => Heap.get?_push_of_some _ (Heap.get?_push_of_some _ hb)⟩
  · rw [← ho]
  · rw [← ho]; rfl
/-- the tuple at a as it stands at each turn, each item in a new pair -/
def IteT (K : PySem.W.Frag) (a : Addr) : It where
  go := fun i H => ∃ (xs : List V) (x : V), SqT K H a xs ∧ xs[i]? = some x
  yld := fun i H v H' => ∃ q x, v = .ref q ∧ H q = none ∧ H' = upd H q (.tup [.int (i : Nat), x]) ∧ ∀ xs, SqT K H a xs → xs[i]? = some x
  stop := fun i H => ∃ xs : List V, SqT K H a xs ∧ xs.length = i
theorem turn_enumT {P : Program} {w : World} {K : PySem.W.Frag} {elts : List Expr} {kk : Nat} {tp : Pos} (a e it : Addr) :
    Turn P w K (.Tuple elts kk tp) (IteT K a) [e, it] e (fun i h => (∃ old, IsEnum h e it ((i : Nat) : Int) old) ∧ h.IsTupleIter it a i ∧ e ≠ it ∧ a ≠ it ∧ a ≠ e) where
  mem := List.mem_cons_self ..
  obj := fun i h st b hb => by
    obtain ⟨⟨old, he⟩, ⟨o, ho, _, hd⟩, _⟩ := st
    rcases List.mem_cons.mp hb with z | z
    · rw [z]; exact ⟨_, he, fun v q => nomatch q⟩
    · rw [List.mem_singleton.mp z]; exact ⟨o, ho, fun v q => by rw [hd] at q; cases q⟩
  keep := fun i h h' st k => ⟨let ⟨old, he⟩ := st.1; ⟨old, k e (by simp) _ he⟩, st.2.1.at fun o q => k it (by simp) o q, st.2.2⟩
  item := by
    intro X hP hw hK hc i pins s σ H E I hf st hg
    subst hP hw hK
    obtain ⟨⟨old, he⟩, hit, hne, na, nb⟩ := st
    obtain ⟨xs, x, hq, hx⟩ := hg
    obtain ⟨its, rv, p, hz⟩ := I.tuple hq
    obtain ⟨u, hu, ru⟩ := rv.get hx
    have le : e < s.heap.objs.size := Heap.lt_size he
    have li : it < s.heap.objs.size := by obtain ⟨_, q, _⟩ := hit; exact Heap.lt_size q
    have hi : i < its.toArray.size := by
      have := (List.getElem?_eq_some_iff.mp hu).1
      simpa using this
    have hh : X.A.in1.handled = none := I.ok.hd hc
    refine wpAny_pyNext_enum_itemD (Draws.tuple hh it a na its.toArray) he ⟨hit, p⟩ hi hne (by simp; exact ⟨hne, Ne.symm nb⟩) fun x' h' tk hP ho hst hT hsz hk => ?_
    have ex : x' = u := by
      have h2 : its[i]? = some x' := by simpa using hP
      rw [hu] at h2; exact (Option.some.inj h2).symm
    subst ex
    refine ⟨_, rfl, wpAny_letOwnedTupleGo_enum (s := { s with heap := h', toks := tk + 1 }) ho fun h2 he2 sb => ?_⟩
    have hT2 : h2.get? s.heap.objs.size = some { cls := .type "tuple", data := .seq #[.int i tk, x'] } := (sb.2 _ (Nat.ne_of_gt le)).trans hT
    have new : ObjOk X.prog X.w (upd H s.heap.objs.size (.tup [.int (i : Nat), x])) h2 s.heap.objs.size (.tup [.int (i : Nat), x]) :=
      ⟨(by decide : 2 ≤ sizeLine), [.int i tk, x'], .cons ⟨_, rfl⟩ (.cons ru .nil), _, hT2, rfl, _, rfl⟩
    have I1 : Inv X pins σ (upd H s.heap.objs.size (.tup [.int (i : Nat), x])) { s with heap := h2, toks := tk + 1 } :=
      I.turnedNew (ch := [e, it]) (fun b ob hb q => (sb.2 b (fun z => hb (by simp [z]))).trans (hk b ob (fun z => hb (by simp [z])) (fun z => hb (by simp [z])) q)) hf (Nat.le_refl _) new
    refine ⟨.ref s.heap.objs.size, _, I1, rfl, ⟨_, x, rfl, I.hok.fresh (Nat.le_refl _), rfl, fun ys hy => by rw [I.tuple_inj hy hq]; exact hx⟩, ⟨⟨x', ?_⟩, hst.1.at fun o q => (sb.2 it (Ne.symm hne)).trans q, hne, na, nb⟩, fun b hb => ?_⟩
    · rw [show ((i + 1 : Nat) : Int) = (i : Int) + 1 by omega]; exact he2
    · have lb : b < s.heap.objs.size := by
        rcases List.mem_cons.mp hb with z | z
        · rw [z]; exact le
        · rw [List.mem_singleton.mp z]; exact li
      rw [upd_ne (Nat.ne_of_lt lb)]
      exact (hf b hb).1
  done := by
    intro X hP hw hK hc i pins s σ H E I hf st hg
    subst hP hw hK
    obtain ⟨⟨old, he⟩, hit, hne, na, nb⟩ := st
    obtain ⟨xs, hq, hx⟩ := hg
    obtain ⟨its, rv, p, hz⟩ := I.tuple hq
    obtain ⟨f0, f1, f2, f3, f4, f5⟩ := hf it (by simp)
    have hl := rv.length
    have hh : X.A.in1.handled = none := I.ok.hd hc
    have hs : its.toArray.size = i := by rw [List.size_toArray]; omega
    exact wpAny_pyNext_enum_endD (Draws.tuple hh it a na its.toArray) he ⟨by rw [hs]; exact hit, p⟩ fun h' eb => ⟨rfl, I.turned (t' := s.toks) (fun b o hb q => eb b o hb q) f0 f1 f3 f4 f5⟩
  self := fun A i s Q E st h => let ⟨⟨_, he⟩, _⟩ := st; wpAny_pyIter_enum he h
def iEnumT (K : PySem.W.Frag) (ta : TA) : TI := fun σ H R => ta σ H fun vs H1 => ∃ a xs, vs = [.ref a] ∧ SqT K H1 a xs ∧ R (IteT K a) H1
theorem pi_enumT {X : Cx} {e : Expr} {ta : TA} {p pos tp : Pos} {elts : List Expr} {kk : Nat} (hg : Gl X "enumerate") (hm : X.mg "enumerate" = none) (ha : PA X [e] ta) (hs : starEach [e] X.env = [(false, eval e X.env)] := by rfl) :
    PI X (.Tuple elts kk tp) (.Call (.Name "enumerate" p) [e] [] pos) (iEnumT X.K ta) := by
  refine ⟨fun pins s σ H R I h => ?_⟩
  refine Call_ (ld_blt I hg hm boot_enumerate (PyProof.Rows.callWith_type1 (thn (ha.run pos pins s σ H _ I h) fun us s1 ⟨vs, H1, I1, r1, a, xs, ex, hq, q⟩ => ?_) hs rfl))
  subst ex
  obtain ⟨u, rfl, ru⟩ := vals1 r1
  cases ru
  obtain ⟨its, rv, p', hz⟩ := I1.tuple hq
  refine enumT_call (its := its.toArray) p' fun h' he hit hk => wpAny_pyIter_enum he ?_
  have I2 : Inv X pins σ H1 { s1 with heap := h' } := I1.kept (t' := s1.toks) hk
  have la : a < s1.heap.objs.size := IsTup.lt p'
  refine ⟨s1.heap.objs.size + 1, [s1.heap.objs.size + 1, s1.heap.objs.size], _, _, H1, rfl, I2, turn_enumT a (s1.heap.objs.size + 1) s1.heap.objs.size, ⟨⟨.none, he⟩, hit, Nat.succ_ne_self _, Nat.ne_of_lt la, Nat.ne_of_lt (Nat.lt_succ_of_lt la)⟩, fun b hb => ?_, q⟩
  have lb : s1.heap.objs.size ≤ b := by
    rcases List.mem_cons.mp hb with z | z
    · rw [z]; exact Nat.le_add_right _ _
    · rw [List.mem_singleton.mp z]; exact Nat.le_refl _
  exact I1.fpOk lb (I1.hok.fresh lb)
theorem walk_enumT {K : PySem.W.Frag} {a : Addr} {xs : List V} : Walk (IteT K a) xs.length (fun H => SqT K H a xs) (YPair (fun i => some (.int (i : Nat))) (fun i => xs[i]?)) := by
  refine ⟨fun i _ hi q => ⟨xs, xs[i], q, by simp [hi]⟩, fun _ q => ⟨xs, q, rfl⟩, fun i H v H' _ q y => ?_⟩
  obtain ⟨T, x, h1, h2, h3, h4⟩ := y
  exact ⟨T, .int (i : Nat), x, h1, h2, h3, rfl, h4 xs q⟩
end
/-- for i, x in enumerate(tuple) -/
theorem lpET {K : PySem.W.Frag} {g : TG} {tb : TS} {D : Ends} {σ : St} {H : Hp} {a : Addr} {xs : List V} (Pv : Nat → St → Hp → Prop) (h0 : Pv 0 σ H) (hl : ∀ i σ' H', i ≤ xs.length → Pv i σ' H' → SqT K H' a xs)
    (hs : ∀ i x T σ' H', xs[i]? = some x → Pv i σ' H' → H' T = none → g (.ref T) σ' (upd H' T (.tup [.int i, x])) fun σ2 H2 => tb { D with nx := Pv (i + 1), ct := Pv (i + 1), bk := D.nx } σ2 H2) (hd : ∀ σ' H', Pv xs.length σ' H' → D.nx σ' H') : Lp (IteT K a) g tb D σ H :=
  for_it walk_enumT Pv h0 hl (fun i x σ' H' H2 hi p y => by
    obtain ⟨T, x1, x2, rfl, hT, rfl, e1, e2⟩ := y
    cases e1
    exact hs i x2 T σ' H' e2 p hT) hd
theorem whW {c : TT} {tb : TS} {D : Ends} {σ : St} {H : Hp} (W : Nat → St → Hp → Prop) (m0 : Nat) (h0 : W m0 σ H)
    (hs : ∀ m σ' H', W m σ' H' → c σ' H' fun b H1 => if b = true then ∃ N : St → Hp → Prop, (∀ s2 H2, N s2 H2 → ∃ m', m' < m ∧ W m' s2 H2) ∧ tb { D with nx := N, ct := N, bk := D.nx } σ' H1 else D.nx σ' H1) : tWhile c tb D σ H := ⟨W, ⟨m0, h0⟩, hs⟩
/-! ### parts put together -/
def joinP : List (Nat × Int) → Int
  | [] => 0
  | p :: r => p.2 + 2 ^ p.1 * joinP r
def wideP (ps : List (Nat × Int)) : Nat := (ps.map (·.1)).sum
theorem wideP_app (ps : List (Nat × Int)) (p : Nat × Int) : wideP (ps ++ [p]) = wideP ps + p.1 := by
  unfold wideP; rw [List.map_append, List.sum_append]; simp
theorem joinP_app (ps : List (Nat × Int)) (p : Nat × Int) : joinP (ps ++ [p]) = joinP ps + 2 ^ wideP ps * p.2 := by
  induction ps with
  | nil => show p.2 + 2 ^ p.1 * 0 = 0 + 1 * p.2; omega
  | cons q r ih =>
    show q.2 + 2 ^ q.1 * joinP (r ++ [p]) = q.2 + 2 ^ q.1 * joinP r + 2 ^ (wideP (q :: r)) * p.2
    have e : wideP (q :: r) = q.1 + wideP r := by unfold wideP; rw [List.map_cons, List.sum_cons]
    rw [ih, e, Int.pow_add, Int.mul_add, ← Int.mul_assoc]; omega
/-- each a pair (width, word) that stands in the heap -/
def PartsAt (H : Hp) (xs : List V) (ps : List (Nat × Int)) : Prop := Paired (fun (v : V) (p : Nat × Int) => (∃ q, v = .ref q ∧ H q = some (.tup [.int p.1, .int p.2])) ∧ 1 ≤ p.1 ∧ p.1 ≤ 32 ∧ 0 ≤ p.2 ∧ p.2 < 2 ^ p.1) xs ps
theorem PartsAt.ex {H H' : Hp} {xs : List V} {ps : List (Nat × Int)} (e : Ex H H') (h : PartsAt H xs ps) : PartsAt H' xs ps := Paired.mapP h fun _ _ ⟨⟨q, e1, e2⟩, r⟩ => ⟨⟨q, e1, e _ _ e2⟩, r⟩
theorem Paired.at' {α β : Type} {R : α → β → Prop} : ∀ {xs : List α} {ys : List β} {i : Nat} {x : α}, Paired R xs ys → xs[i]? = some x → ∃ y, ys[i]? = some y ∧ R x y
  | _, _, _, _, .nil, h => by simp at h
  | _, _, 0, _, .cons r _, h => by simp at h; subst h; exact ⟨_, rfl, r⟩
  | _, _, i + 1, x, .cons _ t, h => by
    obtain ⟨y, h1, h2⟩ := Paired.at' (i := i) t (by simpa using h)
    exact ⟨y, by simpa using h1, h2⟩
theorem Paired.app' {α β : Type} {R : α → β → Prop} : ∀ {xs : List α} {ys : List β} {x : α} {y : β}, Paired R xs ys → R x y → Paired R (xs ++ [x]) (ys ++ [y])
  | _, _, _, _, .nil, r => .cons r .nil
  | _, _, _, _, .cons q t, r => .cons q (Paired.app' t r)
theorem Paired.len' {α β : Type} {R : α → β → Prop} : ∀ {xs : List α} {ys : List β}, Paired R xs ys → xs.length = ys.length
  | _, _, .nil => rfl
  | _, _, .cons _ t => congrArg Nat.succ (Paired.len' t)
theorem range_take {α : Type} (xs : List α) (d : α) : (List.range xs.length).map (fun i => xs.getD i d) = xs := by
  apply List.ext_getElem
  · simp
  · intro i h1 h2
    have h3 : i < xs.length := by simpa using h1
    simp [h3]
theorem all_true {K : PySem.W.Frag} {H : Hp} {D : Addr} {n : Nat} {f : Nat → V} {Q : VK} (h : H D = some (.lst ((List.range n).map f))) (hf : ∀ i, i < n → f i = .bl true) (q : Q (.bl true) H) : rAll K [.ref D] H Q := by
  refine ⟨D, (List.range n).map fun _ => true, rfl, .of ?_, ?_⟩
  · rw [h, List.map_map]
    congr 2
    apply List.map_congr_left
    intro i hi
    exact hf i (List.mem_range.mp hi)
  · have : ((List.range n).map fun _ => true).all id = true := by simp
    rw [this]; exact q
theorem ofB_sum (bs : List Int) : ((List.range bs.length).map fun k => bs.getD k 0 * 2 ^ k).sum = ofB bs := by
  have gen : ∀ (n : Nat), n ≤ bs.length → ((List.range n).map fun k => bs.getD k 0 * 2 ^ k).sum = ofB (bs.take n) := by
    intro n
    induction n with
    | zero => intro _; rfl
    | succ n ih =>
      intro hn
      have e : bs.take (n + 1) = bs.take n ++ [bs.getD n 0] := by
        rw [List.take_add_one, List.getElem?_eq_getElem (by omega)]
        simp [List.getD, List.getElem?_eq_getElem (show n < bs.length by omega)]
      rw [List.range_succ, List.map_append, List.sum_append, ih (by omega), e, ofB_app, List.length_take, Nat.min_eq_left (by omega)]
      simp [Int.mul_comm]
  rw [gen bs.length (Nat.le_refl _), List.take_length]
/-! ### rules whose fragment is told apart (within comprehensions) -/
section
variable {X : Cx} {K : PySem.W.Frag}
theorem k_ix_tup (e : X.K = K) : IxR X (rIxT K) := e ▸ ix_tup
theorem k_ix_list (e : X.K = K) : IxR X (rIxL K) := e ▸ ix_list
theorem k_call_isi (e : X.K = K) : CallR X (.builtin "isinstance") (rIsi K) := e ▸ call_isi
theorem k_call_len (e : X.K = K) : CallR X (.builtin "len") (fun xs H Q => ∃ p ys, xs = [.ref p] ∧ (SqL K H p ys ∨ SqT K H p ys) ∧ Q (.int ys.length) H) := e ▸ call_len_seq
theorem k_call_tuple (e : X.K = K) : CallR X (.type "tuple") (fun xs H Q => ∃ p ys, xs = [.ref p] ∧ ((SqL K H p ys ∧ ∀ l, H l = none → Q (.ref l) (upd H l (.tup ys))) ∨ (SqT K H p ys ∧ Q (.ref p) H))) := e ▸ call_tuple_of
theorem k_op_in (e : X.K = K) : OpR X (compareOp .In) (rIn K false) := e ▸ op_in_seq
theorem k_op_notin (e : X.K = K) : OpR X (compareOp .NotIn) (rIn K true) := e ▸ op_notIn_seq
theorem k_op_eqD (hu : X.A.units + 64 < cLine) (e : X.K = K) : OpR X (compareOp .Eq) (rEqD K) := e ▸ op_eqD hu
theorem k_op_neD (hu : X.A.units + 64 < cLine) (e : X.K = K) : OpR X (compareOp .NotEq) (rNeD K) := e ▸ op_neD hu
theorem k_sl_list (e : X.K = K) : SlR X (rSlL K) := e ▸ sl_list
theorem k_sl_tup (e : X.K = K) : SlR X (rSlT K) := e ▸ sl_tup
end
section
open PySem.Spec PyProof.Rows
/-! ### a tuple taken once, taken not at all -/
theorem tup_times_one (l : Addr) (items : Array Value) (n : Nat) (dd : Option Addr) (sl : Array (Option Value)) (u : Tok) :
    Meets (Builtin.«tuple.__mul__» ⟨[.ref l, .int 1 u], []⟩) (fun _ R s => s.heap.get? l = some { cls := .type "tuple", dict := dd, data := .seq items n, slots := sl } ∧ R (.ok (.ret (Value.ref l))) s) := by
  refine .of_wp fun pr wo Ar R s hh => ?_
  obtain ⟨hp, gs, dr, tk, os⟩ := s
  obtain ⟨hl, hk⟩ := hh
  have f1 := AutoSeq1.idx_int
  have c1 : (items.isEmpty || (1 : Int) == 1) = true := by simp
  wp_walk using AutoSeq1.wpAny_loadPart' hl
  exact ⟨_, rfl, hk⟩
theorem tup_times_no (l : Addr) (items : Array Value) (n : Nat) (dd : Option Addr) (sl : Array (Option Value)) (u : Tok) (hi : items.isEmpty = false) :
    Meets (Builtin.«tuple.__mul__» ⟨[.ref l, .int 0 u], []⟩) (fun _ R s => s.heap.get? l = some { cls := .type "tuple", dict := dd, data := .seq items n, slots := sl } ∧ R (.ok (.ret (Value.ref s.heap.objs.size))) { s with heap := s.heap.push { cls := Value.type "tuple", data := Data.seq #[] } }) := by
  refine .of_wp fun pr wo Ar R s hh => ?_
  obtain ⟨hp, gs, dr, tk, os⟩ := s
  obtain ⟨hl, hk⟩ := hh
  have f1 := AutoSeq1.idx_int
  have c1 : (items.isEmpty || (0 : Int) == 1) = false := by rw [hi]; rfl
  wp_walk using AutoSeq1.wpAny_loadPart' hl
  all_goals (first | exact ⟨_, rfl, hk⟩ | (refine wpAny_ite_false (by rw [c1]; exact Bool.false_ne_true) ?_) | (refine wpAny_ite_false (decide_eq_false (by rw [c1]; exact Bool.false_ne_true)) ?_) | skip)
def rRepA (K : PySem.W.Frag) : R2 := fun x y H Q => ∃ l k xs, x = .ref l ∧ y = .int k ∧ SqT K H l xs ∧ xs ≠ [] ∧ 0 ≤ k ∧ k ≤ 1000 ∧ xs.length ≤ 1000 ∧ (k = 1 → Q (.ref l) H) ∧ (k ≠ 1 → ∀ p, H p = none → Q (.ref p) (upd H p (.tup (List.replicate k.toNat xs).flatten)))
theorem op_repA {X : Cx} : OpR X (binaryOp .Mult) (rRepA X.K) := by
  intro pins s σ H x y v u Q I rx ry h
  obtain ⟨l, k, xs, rfl, rfl, hT, hne, h0, h1, hz, q1, q2⟩ := h
  by_cases h2 : 2 ≤ k
  · exact op_repT pins s σ H _ _ v u Q I rx ry ⟨l, k, xs, rfl, rfl, hT, hne, h2, h1, hz, q2 (by omega)⟩
  cases rx
  obtain ⟨t, rfl⟩ := ry
  obtain ⟨its, r, ⟨⟨cl, dd, da, sl⟩, ho, hc, n, hd⟩, hs⟩ := I.tuple hT
  simp only at hc hd
  subst hc hd
  have hi : its.toArray.isEmpty = false := by
    cases its with
    | nil => exact absurd (List.eq_nil_of_length_eq_zero r.length) hne
    | cons a b => rfl
  have road : ∀ {Qx : Value → Shared → Prop}, wpAny (model X.prog X.w) X.A (call (.builtin "tuple.__mul__") [.ref l, .int k t]) Qx X.xe s → wpAny (model X.prog X.w) X.A (binaryOp .Mult (.ref l) (.int k t)) Qx X.xe s := fun hx =>
    wpAny_binaryOp_repeat_ref (T := "tuple") (U := "int") (by decide) ⟨_, ho, rfl⟩ (fun s' => typeIs_int s' k t) noFill_tuple_mul F.fills_int_mul F.slot_int_rmul repeat_tuple F.slot_int_index.lookup
      (call_meets F.slot_int_rmul (typeIs_int s k t) F.entry_int_rmul (F.args_int_rmul_2 _ _) (int_rmul_tuple k t l its.toArray n dd sl) ⟨ho, rfl, ⟨_, ho, rfl⟩, hx⟩)
  have hk : k = 0 ∨ k = 1 := by omega
  rcases hk with rfl | rfl
  · refine road (call_meets F.slot_tuple_mul ⟨_, ho, rfl⟩ F.entry_tuple_mul (F.args_tuple_mul_2 _ _) (tup_times_no l its.toArray n dd sl t hi) ⟨ho, ?_⟩)
    refine ⟨.ref s.heap.objs.size, _, I.laid (t' := s.toks) (o := .tup []) (fun b ob z => Heap.get?_push_of_some _ z) (Nat.le_refl _) ?_, rfl, q2 (by decide) _ (I.hok.fresh (Nat.le_refl _))⟩
    exact ⟨Nat.zero_le _, [], .nil, IsTup.new _ _⟩
  · refine road (call_meets F.slot_tuple_mul ⟨_, ho, rfl⟩ F.entry_tuple_mul (F.args_tuple_mul_2 _ _) (tup_times_one l its.toArray n dd sl t) ⟨ho, ?_⟩)
    exact ⟨.ref l, H, I, rfl, q1 rfl⟩
end
/-! ### signed numbers of wider words; parts of lists -/
theorem sgn_if {n : Nat} {i : Int} (h1 : 1 ≤ n) (h0 : 0 ≤ i) (h : i < 2 ^ n) : sgn n i = if 2 ^ n ≤ 2 * i then i - 2 ^ n else i := by
  unfold sgn
  have hq := pow_pos' (n - 1)
  have e : (2 : Int) ^ n = 2 ^ (n - 1) * 2 := by rw [← Int.pow_succ]; congr 1; omega
  by_cases hc : 2 ^ n ≤ 2 * i
  · have : i / 2 ^ (n - 1) = 1 := by
      have h5 : i = (i - 2 ^ (n - 1)) + 2 ^ (n - 1) * 1 := by omega
      rw [h5, Int.add_mul_ediv_left _ _ (Int.ne_of_gt hq), Int.ediv_eq_zero_of_lt (by omega) (by omega)]; omega
    rw [if_pos hc, this, Int.one_mul]
  · have : i / 2 ^ (n - 1) = 0 := Int.ediv_eq_zero_of_lt h0 (by omega)
    rw [if_neg hc, this, Int.zero_mul, Int.sub_zero]
theorem sgn_half {n : Nat} {i : Int} (h1 : 1 ≤ n) (h0 : 0 ≤ i) (h : i < 2 ^ n) : -(2 ^ (n - 1)) ≤ sgn n i ∧ sgn n i < 2 ^ (n - 1) := by
  have e : (2 : Int) ^ n = 2 ^ (n - 1) * 2 := by rw [← Int.pow_succ]; congr 1; omega
  rw [sgn_if h1 h0 h]
  by_cases hc : 2 ^ n ≤ 2 * i
  · rw [if_pos hc]; omega
  · rw [if_neg hc]; omega
theorem sgn_mod {n : Nat} {i : Int} (h0 : 0 ≤ i) (h : i < 2 ^ n) : sgn n i % 2 ^ n = i := by
  unfold sgn; rw [Int.sub_emod, Int.mul_emod_left, Int.sub_zero, Int.emod_emod, Int.emod_eq_of_lt h0 h]
theorem sgn_back {m : Nat} {z : Int} (h1 : 1 ≤ m) (h2 : -(2 ^ (m - 1)) ≤ z) (h3 : z < 2 ^ (m - 1)) : sgn m (z % 2 ^ m) = z := by
  have hq := pow_pos' m
  have e : (2 : Int) ^ m = 2 ^ (m - 1) * 2 := by rw [← Int.pow_succ]; congr 1; omega
  have b := mod_bd (a := z) hq
  rw [sgn_if h1 b.1 b.2]
  by_cases hz : 0 ≤ z
  · rw [Int.emod_eq_of_lt hz (by omega), if_neg (by omega)]
  · have : z % 2 ^ m = z + 2 ^ m := by
      rw [show z = (z + 2 ^ m) + 2 ^ m * (-1) by omega, Int.add_mul_emod_self_left, Int.emod_eq_of_lt (by omega) (by omega)]; omega
    rw [this, if_pos (by omega)]; omega
theorem long_bits {n m : Nat} {i : Int} (h1 : 1 ≤ n) (hm : n ≤ m) (h0 : 0 ≤ i) (h : i < 2 ^ n) : bitsL n i ++ List.replicate (m - n) (i / 2 ^ (n - 1) % 2) = bitsL m (sgn n i) := by
  apply List.ext_getElem?
  intro k
  by_cases hk : k < n
  · rw [List.getElem?_append_left (by rw [bitsL_len]; exact hk), bitsL_get hk, bitsL_get (by omega)]
    unfold sgn
    have e : i - i / 2 ^ (n - 1) * 2 ^ n = i + 2 ^ k * (-(i / 2 ^ (n - 1) * 2 ^ (n - k))) := by
      have e1 : i / 2 ^ (n - 1) * 2 ^ n = 2 ^ k * (i / 2 ^ (n - 1) * 2 ^ (n - k)) := by
        rw [pow_split (Nat.le_of_lt hk), Int.mul_left_comm]
      rw [e1, Int.mul_neg]; omega
    rw [e, Int.add_mul_ediv_left _ _ (Int.ne_of_gt (pow_pos' k))]
    have e2 : (2 : Int) ^ (n - k) = 2 ^ (n - k - 1) * 2 := by rw [← Int.pow_succ]; congr 1; omega
    rw [e2, ← Int.mul_assoc]
    congr 1
    omega
  · rw [List.getElem?_append_right (by rw [bitsL_len]; omega), bitsL_len, List.getElem?_replicate]
    by_cases hk2 : k < m
    · rw [if_pos (by omega), bitsL_get hk2]
      have hs := sgn_half h1 h0 h
      have hp : (2 : Int) ^ (n - 1) ≤ 2 ^ k := pow_le (by omega)
      have e : (2 : Int) ^ n = 2 ^ (n - 1) * 2 := by rw [← Int.pow_succ]; congr 1; omega
      rw [sgn_if h1 h0 h] at hs ⊢
      by_cases hc : 2 ^ n ≤ 2 * i
      · rw [if_pos hc] at hs ⊢
        have t1 : i / 2 ^ (n - 1) = 1 := by
          have h5 : i = (i - 2 ^ (n - 1)) + 2 ^ (n - 1) * 1 := by omega
          rw [h5, Int.add_mul_ediv_left _ _ (Int.ne_of_gt (pow_pos' (n - 1))), Int.ediv_eq_zero_of_lt (by omega) (by omega)]; omega
        have t2 : (i - 2 ^ n) / 2 ^ k = -1 := by
          have h5 : i - 2 ^ n = (i - 2 ^ n + 2 ^ k) + 2 ^ k * (-1) := by omega
          rw [h5, Int.add_mul_ediv_left _ _ (Int.ne_of_gt (pow_pos' k)), Int.ediv_eq_zero_of_lt (by omega) (by omega)]; omega
        rw [t1, t2]; rfl
      · rw [if_neg hc] at hs ⊢
        rw [Int.ediv_eq_zero_of_lt h0 (by omega), Int.ediv_eq_zero_of_lt h0 (by omega)]
    · rw [if_neg (by omega), bitsL_none (by omega)]
theorem cut_mid {xs : List V} (a b : Nat) : cutV xs (some (a : Int)) (some ((a : Int) + (b : Int))) = (xs.drop a).take b := by
  have e : ((a : Int) + (b : Int)) = ((a + b : Nat) : Int) := by omega
  unfold cutV
  rw [e, HT.sIx_nat, HT.sIx_nat]
  by_cases h : a ≤ xs.length
  · rw [Nat.min_eq_left h]
    by_cases h2 : a + b ≤ xs.length
    · rw [Nat.min_eq_left h2]; congr 1; omega
    · rw [Nat.min_eq_right (by omega), List.take_of_length_le (by rw [List.length_drop]; omega), List.take_of_length_le (by rw [List.length_drop]; omega)]
  · rw [Nat.min_eq_right (by omega), Nat.min_eq_right (by omega), Nat.sub_self, List.take_zero, List.drop_of_length_le (by omega)]; simp
theorem mid_bits {n a b : Nat} {i : Int} (h : a + b ≤ n) : ((bitsL n i).drop a).take b = bitsL b (i / 2 ^ a) := by
  apply List.ext_getElem?
  intro m
  rw [List.getElem?_take]
  by_cases hm : m < b
  · rw [if_pos hm, List.getElem?_drop, bitsL_get (by omega), bitsL_get hm, Int.ediv_ediv_of_nonneg (Int.le_of_lt (pow_pos' a)), Int.pow_add]
  · rw [if_neg hm, bitsL_none (by omega)]
theorem ExD.mut {d p : Addr} {H H' : Hp} {o : HO} (e : ExD d H H') (h : H p = none) : ExD d H (upd H' p o) := fun a u n x => by
  rw [upd_ne (ne_of_none x h)]; exact e a u n x
theorem DiceAt.mut {d p : Addr} {H : Hp} {o : HO} (h : DiceAt H d) (n : d ≠ p) : DiceAt (upd H p o) d := by
  obtain ⟨l, m, q, a, b, c, e⟩ := h
  exact ⟨l, m, q, a, b, c, by rw [upd_ne n]; exact e⟩
theorem PartsAt.exd {d : Addr} {H H' : Hp} {xs : List V} {ps : List (Nat × Int)} (hd : DiceAt H d) (e : ExD d H H') (h : PartsAt H xs ps) : PartsAt H' xs ps := Paired.mapP h fun _ _ ⟨⟨q, e1, e2⟩, r⟩ => ⟨⟨q, e1, e _ _ (fun z => by
  obtain ⟨l, m, o, _, _, _, hh⟩ := hd
  rw [z, hh] at e2; cases e2) e2⟩, r⟩
theorem PartsAt.mut {H : Hp} {p : Addr} {ys : List V} {o : HO} {xs : List V} {ps : List (Nat × Int)} (hp : H p = some (.lst ys)) (h : PartsAt H xs ps) : PartsAt (upd H p o) xs ps := Paired.mapP h fun _ _ ⟨⟨q, e1, e2⟩, r⟩ => ⟨⟨q, e1, by
  rw [upd_ne (fun z => by rw [z, hp] at e2; cases e2)]; exact e2⟩, r⟩
theorem repA_use {K : PySem.W.Frag} {H : Hp} {l : Addr} {x : V} {k : Nat} {Q : VK} (h : H l = some (.tup [x])) (hk : k ≤ 1000) (q : ∀ v H', Ex H H' → H' v = some (.tup (List.replicate k x)) → Q (.ref v) H') : rRepA K (.ref l) (.int k) H Q := by
  refine ⟨l, k, [x], rfl, rfl, .of h, List.cons_ne_nil _ _, by omega, by omega, by simp, fun e => ?_, fun e p hp => ?_⟩
  · have : k = 1 := by omega
    subst this
    exact q l H (Ex.refl H) h
  · refine q p _ (ex_upd hp) ?_
    rw [upd_same, Int.toNat_natCast, flat_rep]
theorem catA_use {K : PySem.W.Frag} {H : Hp} {a b : Addr} {xs ys : List V} {Q : VK} (ha : H a = some (.tup xs)) (hb : H b = some (.tup ys)) (hz : xs.length + ys.length ≤ 100000) (q : ∀ v H', Ex H H' → H' v = some (.tup (xs ++ ys)) → Q (.ref v) H') : rCatA K (.ref a) (.ref b) H Q := by
  refine ⟨a, b, xs, ys, rfl, rfl, .of ha, .of hb, by rw [sizeLine_eq]; omega, fun e => ?_, fun e1 e2 => ?_, fun e1 e2 p hp => ?_⟩
  · subst e; exact q b H (Ex.refl H) hb
  · subst e2; exact q a H (Ex.refl H) (by rw [List.append_nil]; exact ha)
  · exact q p _ (ex_upd hp) upd_same
theorem emod_mul' {i A B : Int} (h : 0 < A) : i % (A * B) = i % A + A * (i / A % B) := by
  have h1 : i / (A * B) = i / A / B := (Int.ediv_ediv_of_nonneg (Int.le_of_lt h)).symm
  rw [Int.emod_def i (A * B), Int.emod_def i A, Int.emod_def (i / A) B, h1, Int.mul_sub, ← Int.mul_assoc]
  omega
theorem tSeq_go {t u : TS} {D : Ends} {σ : St} {H : Hp} (h : t { D with nx := u D } σ H) : tSeq t u D σ H := h
/-! ### a conditional expression with one value told, whichever way is taken -/
def tIfV (t : TT) (ta tb : TE) : TE := fun σ H Q => ∃ v, (t σ H fun c H1 => if c = true then ta σ H1 (fun x H2 => x = v ∧ H2 = H) else tb σ H1 (fun x H2 => x = v ∧ H2 = H)) ∧ Q v H
theorem pe_ifV {X : Cx} {c a b : Expr} {pos : Pos} {t : TT} {ta tb : TE} (hc : PT X c t) (ha : PE X a ta) (hb : PE X b tb) : PE X (.IfExp c a b pos) (tIfV t ta tb) := by
  refine ⟨fun pins s σ H Q I h => ?_⟩
  obtain ⟨v, h1, q⟩ := h
  refine thn ((pe_ifExp hc ha hb).run pins s σ H (fun x H2 => x = v ∧ H2 = H) I h1) fun u s1 hu => ?_
  obtain ⟨x, H1, I1, r, rfl, rfl⟩ := hu
  exact ⟨x, H1, I1, r, q⟩
theorem kept_none {n : Nat} {f : Nat → V} : kept n (fun _ => false) f = [] := by
  unfold kept
  rw [List.filter_eq_nil_iff.mpr (fun _ _ => Bool.false_ne_true)]; rfl
/-- a list of texts at a -/
def strD (ss : List Str) : PyData := .list (ss.map .str)
theorem dpAll_strs {K : PySem.W.Frag} {H : Hp} : ∀ ss : List Str, DpAll K H (ss.map V.str) (ss.map PyData.str)
  | [] => .nil
  | x :: xs => .cons (.str x) (dpAll_strs xs)
theorem dp_strs {K : PySem.W.Frag} {H : Hp} {a : Addr} {ss : List Str} (h : SqL K H a (ss.map V.str)) : Dp K H (.ref a) (strD ss) := .lst h (dpAll_strs ss)
def boolS (b : Bool) : Str := if b then "True" else "False"
/-- a comprehension whose items are new: what stands of each -/
theorem lc_rel {J : It} {n : Nat} {G : Hp → Prop} {Y : Nat → Hp → V → Hp → Prop} {g : TG} {te : TE} {vs : List Nat} {σ : St} {H1 : Hp} {D : Addr} {Qd : Hp → Prop} (w : Walk J n G Y) (R : Hp → V → Nat → Prop) (hR : ∀ H H' v i, Ex H H' → R H v i → R H' v i) (hM : ∀ H p o ys v i, H p = some (.lst ys) → R H v i → R (upd H p o) v i) (hn : n ≤ 50000) (hD : H1 D = none) (hG : ∀ H', Ex H1 H' → G H')
    (hs : ∀ i x H' H2, i < n → Ex H1 H' → Y i H' x H2 → ∀ (Qe : VK), (∀ v H5, Ex H' H5 → R H5 v i → Qe v H5) → g x (wipe σ vs) H2 fun σ2 H3 => wipe σ2 vs = wipe σ vs ∧ te σ2 H3 Qe)
    (hd : ∀ H' ys, Ex H1 H' → H' D = some (.lst ys) → Paired (R H') ys (List.range n) → Qd H') : Lc J g tYes te vs σ H1 D Qd := by
  refine lc_it w (fun i H' => Ex H1 H' ∧ ∃ ys, H' D = some (.lst ys) ∧ Paired (R H') ys (List.range i)) ⟨ex_upd hD, [], upd_same, .nil⟩ (fun i H' _ p => hG H' p.1) (fun i x H' H2 hi p y => ?_) (fun H' p => by obtain ⟨e, ys, h1, h2⟩ := p; exact hd H' ys e h1 h2)
  obtain ⟨e, ys, h1, h2⟩ := p
  have hlen : ys.length < sizeLine := by have := Paired.len' h2; rw [List.length_range] at this; rw [sizeLine_eq]; omega
  refine hs i x H' H2 hi e y _ (fun v H5 e5 r5 => ⟨_, e5 _ _ h1, hlen, (e.trans e5).mut hD, _, upd_same, ?_⟩)
  rw [List.range_succ]
  have h5 := e5 _ _ h1
  exact Paired.app' (Paired.mapP h2 fun _ _ r => hM _ _ _ _ _ _ h5 (hR _ _ _ _ e5 r)) (hM _ _ _ _ _ _ h5 r5)
theorem Paired.mapR {α β γ : Type} {R : α → β → Prop} {S : α → γ → Prop} {f : β → γ} (h : ∀ x y, R x y → S x (f y)) : ∀ {xs : List α} {ys : List β}, Paired R xs ys → Paired S xs (ys.map f)
  | _, _, .nil => .nil
  | _, _, .cons r t => .cons (h _ _ r) (Paired.mapR h t)
theorem seqIx_nat {n k : Nat} (h : k < n) : seqIndex? (k : Int) n = some k := by
  unfold seqIndex?
  simp [show ¬ ((k : Int) < 0) by omega, h]
theorem Paired.erase {α β : Type} {R : α → β → Prop} : ∀ {xs : List α} {ys : List β} (k : Nat), Paired R xs ys → Paired R (xs.eraseIdx k) (ys.eraseIdx k)
  | _, _, _, .nil => .nil
  | _, _, 0, .cons _ t => t
  | _, _, k + 1, .cons r t => .cons r (Paired.erase k t)
theorem Paired.set' {α β : Type} {R : α → β → Prop} {x : α} {y : β} (r : R x y) : ∀ {xs : List α} {ys : List β} (k : Nat), Paired R xs ys → Paired R (xs.set k x) (ys.set k y)
  | _, _, _, .nil => .nil
  | _, _, 0, .cons _ t => .cons r t
  | _, _, k + 1, .cons q t => .cons q (Paired.set' r k t)
theorem Paired.drop' {α β : Type} {R : α → β → Prop} : ∀ {xs : List α} {ys : List β} (k : Nat), Paired R xs ys → Paired R (xs.drop k) (ys.drop k)
  | _, _, 0, t => t
  | _, _, _ + 1, .nil => .nil
  | _, _, k + 1, .cons _ t => Paired.drop' k t
theorem Paired.take' {α β : Type} {R : α → β → Prop} : ∀ {xs : List α} {ys : List β} (k : Nat), Paired R xs ys → Paired R (xs.take k) (ys.take k)
  | _, _, 0, _ => .nil
  | _, _, _ + 1, .nil => .nil
  | _, _, k + 1, .cons r t => .cons r (Paired.take' k t)
def isIntV : V → Bool
  | .int _ => true
  | _ => false
/-! ### ways that join again -/
def tJoin (t : TS) : TS := fun D σ H => ∃ N : St → Hp → Prop, t { D with nx := N } σ H ∧ ∀ σ' H', N σ' H' → D.nx σ' H'
theorem ps_join {X : Cx} {st : Stmt} {t : TS} (h : PS X st t) : PS X st (tJoin t) := by
  refine ⟨fun pins s σ H D I ⟨N, h1, h2⟩ => thn (h.run pins s σ H _ I h1) fun f s' hs => ?_⟩
  unfold SP at *
  cases f with
  | next => obtain ⟨σ', H', I', q⟩ := hs; exact ⟨σ', H', I', h2 _ _ q⟩
  | _ => exact hs
def tJoinE (t : TE) : TE := fun σ H Q => ∃ N : VK, t σ H N ∧ ∀ v H', N v H' → Q v H'
theorem pe_join {X : Cx} {e : Expr} {t : TE} (h : PE X e t) : PE X e (tJoinE t) := by
  refine ⟨fun pins s σ H Q I ⟨N, h1, h2⟩ => thn (h.run pins s σ H _ I h1) fun u s' hs => ?_⟩
  obtain ⟨v, H', I', r, q⟩ := hs
  exact ⟨v, H', I', r, h2 _ _ q⟩
theorem ExD.back {d p : Addr} {H H' : Hp} (e : ExD d H H') (hd : DiceAt H' d) (h : H' p = none) : H p = none := by
  cases hp : H p with
  | none => rfl
  | some o =>
    have n : p ≠ d := fun z => by
      obtain ⟨l, m, q, _, _, _, hh⟩ := hd
      rw [z, hh] at h; cases h
    rw [e _ _ n hp] at h; cases h

theorem cpow_ok {i j : Int} (h1 : i.natAbs < 2 ^ 64) (h2 : 0 ≤ j) (h3 : j ≤ 1000000) : CPow i j := ⟨by omega, by omega, by omega⟩
theorem ofStr_inj {a b : String} : (Str.ofString a = Str.ofString b) = (a = b) := by
  apply propext
  constructor
  · intro h
    rw [Str.ofString_eq_toList, Str.ofString_eq_toList] at h
    have h1 : a.toList.map Char.toNat = b.toList.map Char.toNat := by
      have := congrArg (fun s => s.cps.toList) h
      simpa using this
    have h2 : a.toList = b.toList := by
      refine List.map_inj_right (f := Char.toNat) ?_ |>.mp h1
      intro x y e
      exact Char.toNat_inj.mp e
    exact String.toList_inj.mp h2
  · intro h; rw [h]
/-- a conditional expression, its ways joined again -/
theorem pe_ifJ {X : Cx} {c a b : Expr} {pos : Pos} {t : TT} {ta tb : TE} (hc : PT X c t) (ha : PE X a ta) (hb : PE X b tb) : PE X (.IfExp c a b pos) (tJoinE (tIf t ta tb)) := pe_join (pe_ifExp hc ha hb)
theorem u1 {a c : Nat} (h : a + 64 < c) : a + 1 < c := by omega
/-! ### a display of one pair whose key is a tuple -/
section
open PySem.Spec PyProof.Rows
theorem dict_pairsH2 {prog : Program} {w : World} {K : Type} [DecidableEq K] {knd : HeapKind prog w K} {A : Around} {E : Value → Shared → Prop} {s : Shared} {env : Env} {keys : List (Option Expr)} {values : List Expr} {pos : Pos} {pairs : List (Sem Value × Sem Value)} {Q : Value → Shared → Prop} (hu : knd.room A)
    (hshape : (evalEachOpt keys env).zip ((evalEach values env).map fun v => do let x ← v; standAt pos; pure x) = pairs.map fun p => (some p.1, p.2)) (h0 : pairs ≠ []) (hlen : pairs.length ≤ 15)
    (h : wpAny (model prog w) A (evalPairs pairs) (fun vs s₁ => ∃ ps, CarriesH knd s₁.heap vs ps ∧ s₁.heap.DictOfH knd s.heap.objs.size [] ∧
      ∀ h' tk, h'.DictOfH knd s.heap.objs.size (storedAllH [] ps) → Heap.SameBut s.heap.objs.size s₁.heap h' → Q (.ref s.heap.objs.size) { s₁ with heap := h', toks := tk }) E
      { s with heap := s.heap.push { cls := .type "dict", data := .dict #[] } }) :
    wpAny (model prog w) A (eval (.Dict keys values pos) env) Q E s := by
  rw [arm_eval_Dict, hshape, dictDisplay_pairs pairs h0 (by omega)]
  exact wpAny_bind (wpAny_standAt (wpAny_bind (wpAny_subDictH (knd := knd) (Q := fun d s' => wpAny (model prog w) A (pure (Value.ref d)) Q E s') hu hlen
    (wpAny_mono h (fun vs s₁ h₁ => by obtain ⟨ps, hc, hm, hq⟩ := h₁; exact ⟨ps, hc, hm, fun h' tk a b => wpAny_pure (hq h' tk a b)⟩) fun _ _ e => e))))
def tDisp1T (tk tv : TE) : TE := fun σ H Q => ∀ p, H p = none → tk σ (upd H p (.dT [])) fun x H1 => tv σ H1 fun y H2 => H2 p = some (.dT []) ∧ ∃ (b : Addr) (k : List L2.Key), x = .ref b ∧ H2 b = some (.tup (k.map kV)) ∧ Q (.ref p) (upd H2 p (.dT [(k, y)]))
theorem pe_disp1T {X : Cx} {pos : Pos} {k v : Expr} {tk tv : TE} (hu : X.A.units + 1 < cLine) (hk : PE X k tk) (hv : PE X v tv) : PE X (.Dict [some k] [v] pos) (tDisp1T tk tv) := by
  refine ⟨fun pins s σ H Q I q => ?_⟩
  have hn := I.hok.fresh (Nat.le_refl s.heap.objs.size)
  have I1 := I.laid (a := s.heap.objs.size) (o := .dT []) (h' := s.heap.push { cls := .type "dict", data := .dict #[] }) (t' := s.toks) (fun _ _ q => Heap.get?_push_of_some _ q) (Nat.le_refl _) (dt_empty s.heap I.big)
  refine dict_pairsH2 (knd := tupleKind (mixKind X.prog X.w)) (show X.A.units < cLine by omega) (zip_pairTrees [some k] [v] X.env pos rfl rfl) (by simp [pairTrees]) (by simp [pairTrees]) (thn ((pps_cons (pos := pos) hk hv pps_nil).run pins _ σ _ (fun ps H2 => match ps with | [(x, y)] => H2 s.heap.objs.size = some (.dT []) ∧ ∃ (b : Addr) (k : List L2.Key), x = .ref b ∧ H2 b = some (.tup (k.map kV)) ∧ Q (.ref s.heap.objs.size) (upd H2 s.heap.objs.size (.dT [(k, y)])) | _ => False) I1 (q _ hn)) fun ws s2 ⟨ps, H2, I2, rel, q1⟩ => ?_)
  match ps, q1 with
  | [(x, y)], q1 =>
  obtain ⟨e, b, kk, ex, hb, q2⟩ := q1
  cases rel with
  | @cons a b' as bs h t =>
    cases t
    obtain ⟨h1, h2⟩ := h
    subst ex
    obtain ⟨w1, w2⟩ := b'
    cases (show w1 = Value.ref b from h1)
    obtain ⟨z, hd, xs, rel0, dd⟩ := dt_of I2.hok e
    cases rel0
    refine ⟨[(kk, b, w2)], ⟨rfl, rfl, key_of I2.hok hb, True.intro⟩, dd, fun h' tk dd' hs => ?_⟩
    refine ⟨.ref s.heap.objs.size, _, ?_, rfl, q2⟩
    obtain ⟨q9, es, ep, hq, g2, g3, g4, _, g5⟩ := dd'
    refine d_write I2 (by rw [e]; exact True.intro) hs ⟨q9, hq⟩ ⟨by show 1 ≤ sizeLine; decide, hd, _, ?_, q9, es, ep, hq, g2, g3, g4, g5⟩
    refine .cons ⟨rfl, ?_, h2⟩ .nil
    rw [upd_ne (ne_of hb e (fun z => nomatch z))]
    exact hb
end
section
open PySem.Spec PyProof.Rows
/-- max of a tuple of ints -/
def rMaxT (K : PySem.W.Frag) : List V → Hp → VK → Prop := fun vs H Q => ∃ (a : Addr) (n : Int) (ns : List Int), vs = [V.ref a] ∧ SqT K H a ((n :: ns).map V.int) ∧ Q (.int (ns.foldl max n)) H
theorem cr_maxT {X : Cx} (hc : X.calm = true) (hu : X.A.units + 64 < cLine) : CallR X (.builtin "max") (rMaxT X.K) := by
  intro pins s σ H vs us Q I r h
  obtain ⟨a, n, ns, rfl, hs, q⟩ := h
  obtain ⟨its, rv, p, hz⟩ := I.tuple hs
  rw [Vals.ref1 r]
  obtain ⟨as, hr⟩ := Dp.readsAll I ((n :: ns).map PyData.int) _ its (dpAll_ints (n :: ns)) rv
  have hd : PyData.depthAll ((n :: ns).map PyData.int) = 0 := PyProof.Rows.depthAll_ints (n :: ns)
  refine max_tuple_data (x := .int n) (xs := ns.map .int) (I.ok.hd hc) p hr ?_ (by rw [show PyData.int n :: ns.map PyData.int = (n :: ns).map PyData.int from rfl, hd]; omega) fun i v h' tk bs hv hrd hk => ?_
  · refine ⟨fun x hx y hy => ?_, fun x hx => ?_⟩
    · have hx' : x ∈ (n :: ns).map PyData.int := hx
      have hy' : y ∈ (n :: ns).map PyData.int := hy
      obtain ⟨i, _, rfl⟩ := List.mem_map.mp hx'
      obtain ⟨j, _, rfl⟩ := List.mem_map.mp hy'
      rfl
    · have hx' : x ∈ (n :: ns).map PyData.int := hx
      obtain ⟨i, _, rfl⟩ := List.mem_map.mp hx'
      exact fun z => by cases z
  rw [maxD_ints] at hrd
  cases hrd
  exact ⟨.int _, H, I.kept hk, ⟨_, rfl⟩, q⟩
end
theorem ix_kd {X : Cx} {d : Addr} {es : Array DictEntry} {n : Nat} (D : KDict X.K X.w d es n) : IxR X (fun x y H Q => ∃ (z : Str) (u0 : Value) (v0 : V), x = .ref d ∧ y = .str z ∧ PySem.W.nsIn X.K d z = some (some u0) ∧ RelV v0 u0 ∧ Q v0 H) := by
  intro value slice pins s σ H x y v u Q I rx ry h hs
  have hT := kd_type D I
  obtain ⟨z, u0, v0, ex, ey, h1, h2, q⟩ := h
  subst ex
  cases rx
  refine PyProof.Rows.tail_any hT PySem.F.slot_dict_getitem.lookup ?_ hs
  exact op_item_kd D pins s σ H (.ref d) y (.ref d) u Q I rfl ry ⟨z, u0, v0, rfl, ey, h1, h2, q⟩
/-! ### comprehensions of dicts -/
def Dc (J : It) (g : TG) (tt : TT) (tk tv : TE) (vs : List Nat) (σ : St) (H1 : Hp) (D : Addr) (Qd : Hp → Prop) : Prop := ∃ W : Nat → Nat → Hp → Prop, (∃ m, W 0 m (upd H1 D (.dK []))) ∧ ∀ i m H, W i m H →
  (J.stop i H ∧ Qd H) ∨ (J.go i H ∧ ∃ Nx : Hp → Prop, (∀ H', Nx H' → ∃ m', m' < m ∧ W (i + 1) m' H') ∧ ∀ x H', J.yld i H x H' → g x (wipe σ vs) H' fun σ2 H2 => wipe σ2 vs = wipe σ vs ∧ tt σ2 H2 fun b H3 =>
    if b = true then tk σ2 H3 fun y H4 => tv σ2 H4 fun z H5 => ∃ kvs k, y = kV k ∧ H5 D = some (.dK kvs) ∧ kvs.length < sizeLine ∧ Nx (upd H5 D (.dK (putK kvs k z))) else Nx H3)
theorem tDc_eq {wi : TI} {g : TG} {tt : TT} {tk tv : TE} {vs : List Nat} {σ : St} {H : Hp} {Q : VK} : tDc wi g tt tk tv vs σ H Q = wi σ H (fun J H1 => ∀ D, H1 D = none → Dc J g tt tk tv vs σ H1 D (fun H' => Q (.ref D) H')) := rfl
/-! ### values told as tuples, or as none -/
theorem tyT {K : PySem.W.Frag} {H : Hp} {a : Addr} {xs : List V} (h : SqT K H a xs) : TyX K H (.ref a) (.type "tuple") := by
  rcases h with (h | ⟨o, h⟩) | ⟨o, _, _, h, hc, _⟩
  · exact .base (.tup h)
  · exact .fTuple h
  · exact .kTuple h hc
theorem tyL {K : PySem.W.Frag} {H : Hp} {a : Addr} {xs : List V} (h : H a = some (.lst xs)) : TyX K H (.ref a) (.type "list") := .base (.lst h)
/-- a tuple of xs, or (none) what is no tuple -/
def TO (K : PySem.W.Frag) (H : Hp) (v : V) : Option (List V) → Prop
  | some xs => ∃ a, v = .ref a ∧ SqT K H a xs
  | none => ∃ n, n ∈ kinds ∧ n ≠ "tuple" ∧ TyX K H v (.type n)
def tupB (o : Option (List V)) (lo hi : Int) : Bool := match o with
  | some xs => decide (lo ≤ xs.length ∧ (xs.length : Int) ≤ hi)
  | none => false
theorem kit_no {n : String} (hn : n ∈ kinds) (h : n ≠ "tuple") : kitB n "tuple" = some false := by
  simp only [kinds, List.mem_cons, List.mem_nil_iff, or_false] at hn
  rcases hn with rfl | rfl | rfl | rfl | rfl | rfl | rfl
  all_goals first | decide +kernel | exact absurd rfl h
theorem eqSelf {K : PySem.W.Frag} {H : Hp} {x y : V} {d : PyData} {Q : VK} (h1 : Dp K H x d) (h2 : Dp K H y d) (s : SeqAt.shaped d = true) (q : Q (.bl true) H) : rEqD K x y H Q :=
  eqD h1 h2 s s (SeqAt.eqv_refl d (SeqAt.canLay_of_shaped s)) q
theorem neSelf {K : PySem.W.Frag} {H : Hp} {x y : V} {d : PyData} {Q : VK} (h1 : Dp K H x d) (h2 : Dp K H y d) (s : SeqAt.shaped d = true) (q : Q (.bl false) H) : rNeD K x y H Q :=
  neD h1 h2 s s (SeqAt.eqv_refl d (SeqAt.canLay_of_shaped s)) q
theorem ex_tyOf {K : PySem.W.Frag} {H H' : Hp} {v : V} {t : Value} (e : Ex H H') (h : TyOf K H v t) : TyOf K H' v t := by
  cases h with
  | non => exact .non
  | bl b => exact .bl b
  | int b => exact .int b
  | str b => exact .str b
  | flt b => exact .flt b
  | lst h => exact .lst (e _ _ h)
  | frz h => exact .frz (e _ _ h)
  | tup h => exact .tup (e _ _ h)
  | dK h => exact .dK (e _ _ h)
  | dT h => exact .dT (e _ _ h)
  | ins h a b c d f => exact .ins (e _ _ h) a b c d f
theorem ex_ty {K : PySem.W.Frag} {H H' : Hp} {v : V} {t : Value} (e : Ex H H') (h : TyX K H v t) : TyX K H' v t := by
  cases h with
  | base b => exact .base (ex_tyOf e b)
  | byt b => exact .byt b
  | set h => exact .set (e _ _ h)
  | kList a b => exact .kList a b
  | kTuple a b => exact .kTuple a b
  | kDict a b => exact .kDict a b
  | fTuple h => exact .fTuple (e _ _ h)
  | fDict h => exact .fDict (e _ _ h)
theorem ex_typd {K : PySem.W.Frag} {H H' : Hp} {v : V} (e : Ex H H') (h : Typd K H v) : Typd K H' v := by
  obtain ⟨n, h1, h2⟩ := h; exact ⟨n, h1, ex_ty e h2⟩
theorem ex_to {K : PySem.W.Frag} {H H' : Hp} {v : V} {o : Option (List V)} (e : Ex H H') (h : TO K H v o) : TO K H' v o := by
  cases o with
  | some xs => obtain ⟨a, h1, h2⟩ := h; exact ⟨a, h1, Evl.ex_t e h2⟩
  | none => obtain ⟨n, h1, h2, h3⟩ := h; exact ⟨n, h1, h2, ex_ty e h3⟩
mutual
theorem ex_dp {K : PySem.W.Frag} {H H' : Hp} (e : Ex H H') : ∀ {d : PyData} {v : V}, Dp K H v d → Dp K H' v d
  | _, _, .non => .non
  | _, _, .bl b => .bl b
  | _, _, .int i => .int i
  | _, _, .str i => .str i
  | _, _, .lst h a => .lst (Evl.ex_l e h) (ex_dpAll e a)
  | _, _, .tup h a => .tup (Evl.ex_t e h) (ex_dpAll e a)
theorem ex_dpAll {K : PySem.W.Frag} {H H' : Hp} (e : Ex H H') : ∀ {ds : List PyData} {vs : List V}, DpAll K H vs ds → DpAll K H' vs ds
  | _, _, .nil => .nil
  | _, _, .cons a b => .cons (ex_dp e a) (ex_dpAll e b)
end
theorem dpAll_at {K : PySem.W.Frag} {H : Hp} : ∀ {ds : List PyData} {vs : List V} {i : Nat} {v : V}, DpAll K H vs ds → vs[i]? = some v → ∃ d, ds[i]? = some d ∧ Dp K H v d
  | _, _, _, _, .nil, h => by simp at h
  | _, _, 0, _, .cons r _, h => by simp at h; subst h; exact ⟨_, rfl, r⟩
  | _, _, i + 1, _, .cons _ t, h => by
    obtain ⟨y, h1, h2⟩ := dpAll_at (i := i) t (by simpa using h)
    exact ⟨y, by simpa using h1, h2⟩
theorem dpAll_len {K : PySem.W.Frag} {H : Hp} : ∀ {ds : List PyData} {vs : List V}, DpAll K H vs ds → vs.length = ds.length
  | _, _, .nil => rfl
  | _, _, .cons _ t => congrArg Nat.succ (dpAll_len t)
theorem dpAll_app {K : PySem.W.Frag} {H : Hp} {d : PyData} {v : V} (h : Dp K H v d) : ∀ {ds : List PyData} {vs : List V}, DpAll K H vs ds → DpAll K H (vs ++ [v]) (ds ++ [d])
  | _, _, .nil => .cons h .nil
  | _, _, .cons a t => .cons a (dpAll_app h t)
/-- the kind of data is known -/
theorem dp_typd {K : PySem.W.Frag} {H : Hp} {v : V} {d : PyData} (h : Dp K H v d) : ∃ n, n ∈ kinds ∧ (TyX K H v (.type n) ∨ n = "list") := by
  cases h with
  | non => exact ⟨"NoneType", by decide, .inl (.base .non)⟩
  | bl b => exact ⟨"bool", by decide, .inl (.base (.bl b))⟩
  | int i => exact ⟨"int", by decide, .inl (.base (.int i))⟩
  | str s => exact ⟨"str", by decide, .inl (.base (.str s))⟩
  | lst h a => exact ⟨"list", by decide, .inr rfl⟩
  | tup h a => exact ⟨"tuple", by decide, .inl (tyT h)⟩
/-! ### plain data, made anew -/
mutual
def plainD : PyData → Bool
  | .none => true
  | .bool _ => true
  | .int _ => true
  | .str x => decide (x.length ≤ 100000)
  | .tuple ds => decide (ds.length ≤ 1000) && plainAll ds
  | .list _ => false
  | .dict _ => false
def plainAll : List PyData → Bool
  | [] => true
  | d :: ds => plainD d && plainAll ds
end
theorem plainAll_at : ∀ {ds : List PyData} {i : Nat} {d : PyData}, plainAll ds = true → ds[i]? = some d → plainD d = true
  | [], _, _, _, h => by simp at h
  | x :: xs, 0, d, h, e => by simp at e; subst e; rw [plainAll, Bool.and_eq_true] at h; exact h.1
  | x :: xs, i + 1, d, h, e => by rw [plainAll, Bool.and_eq_true] at h; exact plainAll_at h.2 (by simpa using e)
theorem depthAll_at : ∀ {ds : List PyData} {i : Nat} {d : PyData}, ds[i]? = some d → d.depth ≤ PyData.depthAll ds
  | [], _, _, h => by simp at h
  | x :: xs, 0, d, e => by simp at e; subst e; rw [PyData.depthAll]; omega
  | x :: xs, i + 1, d, e => by have := depthAll_at (ds := xs) (i := i) (d := d) (by simpa using e); rw [PyData.depthAll]; omega
theorem sqT_mut {K : PySem.W.Frag} {H : Hp} {p a : Addr} {ys xs : List V} {o : HO} (hp : H p = some (.lst ys)) (h : SqT K H a xs) : SqT K (upd H p o) a xs := by
  rcases h with (h | ⟨u, h⟩) | h
  · exact .inl (.inl (by rw [upd_ne (fun z => by rw [z, hp] at h; cases h)]; exact h))
  · exact .inl (.inr ⟨u, by rw [upd_ne (fun z => by rw [z, hp] at h; cases h)]; exact h⟩)
  · exact .inr h
mutual
theorem dp_mut {K : PySem.W.Frag} {H : Hp} {p : Addr} {ys : List V} {o : HO} (hp : H p = some (.lst ys)) : ∀ {d : PyData} {v : V}, plainD d = true → Dp K H v d → Dp K (upd H p o) v d
  | .none, _, _, .non => .non
  | .bool b, _, _, .bl _ => .bl b
  | .int i, _, _, .int _ => .int i
  | .str i, _, _, .str _ => .str i
  | .tuple ds, _, g, .tup h a => .tup (sqT_mut hp h) (dpAll_mut hp (by rw [plainD, Bool.and_eq_true] at g; exact g.2) a)
  | .list ds, _, g, _ => by rw [plainD] at g; cases g
theorem dpAll_mut {K : PySem.W.Frag} {H : Hp} {p : Addr} {ys : List V} {o : HO} (hp : H p = some (.lst ys)) : ∀ {ds : List PyData} {vs : List V}, plainAll ds = true → DpAll K H vs ds → DpAll K (upd H p o) vs ds
  | [], _, _, .nil => .nil
  | d :: ds, _, g, .cons a b => .cons (dp_mut hp (by rw [plainAll, Bool.and_eq_true] at g; exact g.1) a) (dpAll_mut hp (by rw [plainAll, Bool.and_eq_true] at g; exact g.2) b)
end
theorem dpAll_of {K : PySem.W.Frag} {H : Hp} : ∀ {ds : List PyData} {ys : List V}, ys.length = ds.length → (∀ (i : Nat) (y : V) (d : PyData), ys[i]? = some y → ds[i]? = some d → Dp K H y d) → DpAll K H ys ds
  | [], [], _, _ => .nil
  | d :: ds, y :: ys, hl, h => .cons (h 0 y d rfl rfl) (dpAll_of (by simpa using hl) fun i y d h1 h2 => h (i + 1) y d (by simpa using h1) (by simpa using h2))
  | [], _ :: _, hl, _ => by simp at hl
  | _ :: _, [], hl, _ => by simp at hl
theorem cutS_all (z : Str) : cutS z none none = z := by
  unfold cutS
  rw [HT.sIx_none, HT.sIx_none, List.drop_zero, Nat.sub_zero]
  have : z.length = z.cps.toList.length := by show z.cps.size = _; simp
  rw [this, List.take_length]
theorem dpAll_map {K : PySem.W.Frag} {H : Hp} {f : Nat → V} {g : Nat → PyData} : ∀ l : List Nat, (∀ t ∈ l, Dp K H (f t) (g t)) → DpAll K H (l.map f) (l.map g)
  | [], _ => .nil
  | x :: r, h => .cons (h x (List.mem_cons_self ..)) (dpAll_map r fun t ht => h t (List.mem_cons_of_mem _ ht))
theorem eqv_nilL (ds : List PyData) : PyData.eqv (.list ds) (.list []) = ds.isEmpty := by cases ds <;> rfl
theorem eqv_nilT (ds : List PyData) : PyData.eqv (.tuple ds) (.tuple []) = ds.isEmpty := by cases ds <;> rfl
def pairB : Option (List V) → Bool
  | some xs => decide ((xs.length : Int) = 2)
  | none => false
/-! ### comprehensions whose items are new objects, some left out -/
theorem lc_relK {J : It} {n : Nat} {G : Hp → Prop} {Y : Nat → Hp → V → Hp → Prop} {g : TG} {tt : TT} {te : TE} {vs : List Nat} {σ : St} {H1 : Hp} {D : Addr} {Qd : Hp → Prop} (w : Walk J n G Y) (keep : Nat → Bool) (R : Hp → V → Nat → Prop) (hR : ∀ H H' v i, Ex H H' → R H v i → R H' v i) (hM : ∀ H o ys v i, H D = some (.lst ys) → R H v i → R (upd H D o) v i) (hn : n ≤ 10000000) (hD : H1 D = none) (hG : ∀ H', Ex H1 H' → G H')
    (hs : ∀ i x H' H2 ys, i < n → Ex H1 H' → H' D = some (.lst ys) → Y i H' x H2 → ∀ (Qe : VK) (Qn : Hp → Prop), (∀ v H5, Ex H' H5 → keep i = true → R H5 v i → Qe v H5) → (∀ H5, Ex H' H5 → keep i = false → Qn H5) → g x (wipe σ vs) H2 fun σ2 H3 => wipe σ2 vs = wipe σ vs ∧ tt σ2 H3 fun b H4 => if b = true then te σ2 H4 Qe else Qn H4)
    (hd : ∀ H' ys, Ex H1 H' → H' D = some (.lst ys) → Paired (R H') ys ((List.range n).filter keep) → Qd H') : Lc J g tt te vs σ H1 D Qd := by
  refine lc_it w (fun i H' => Ex H1 H' ∧ ∃ ys, H' D = some (.lst ys) ∧ Paired (R H') ys ((List.range i).filter keep)) ⟨ex_upd hD, [], upd_same, .nil⟩ (fun i H' _ p => hG H' p.1) (fun i x H' H2 hi p y => ?_) (fun H' p => by obtain ⟨e, ys, h1, h2⟩ := p; exact hd H' ys e h1 h2)
  obtain ⟨e, ys, h1, h2⟩ := p
  have hlen : ys.length < sizeLine := by
    have := Paired.len' h2
    have h9 := List.length_filter_le keep (List.range i)
    rw [List.length_range] at h9; rw [sizeLine_eq]; omega
  refine hs i x H' H2 ys hi e h1 y _ _ (fun v H5 e5 hk r5 => ⟨_, e5 _ _ h1, hlen, (e.trans e5).mut hD, _, upd_same, ?_⟩) (fun H5 e5 hk => ⟨e.trans e5, ys, e5 _ _ h1, ?_⟩)
  · rw [List.range_succ, List.filter_append, List.filter_cons, if_pos hk]
    have h5 := e5 _ _ h1
    exact Paired.app' (Paired.mapP h2 fun _ _ r => hM _ _ _ _ _ h5 (hR _ _ _ _ e5 r)) (hM _ _ _ _ _ h5 r5)
  · rw [List.range_succ, List.filter_append, List.filter_cons, if_neg (by rw [hk]; decide)]
    show Paired _ _ (_ ++ [])
    rw [List.append_nil]
    exact Paired.mapP h2 fun _ _ r => hR _ _ _ _ e5 r
theorem lc_relA {J : It} {n : Nat} {G : Hp → Prop} {Y : Nat → Hp → V → Hp → Prop} {g : TG} {te : TE} {vs : List Nat} {σ : St} {H1 : Hp} {D : Addr} {Qd : Hp → Prop} (w : Walk J n G Y) (R : Hp → V → Nat → Prop) (hR : ∀ H H' v i, Ex H H' → R H v i → R H' v i) (hM : ∀ H o ys v i, H D = some (.lst ys) → R H v i → R (upd H D o) v i) (hn : n ≤ 10000000) (hD : H1 D = none) (hG : ∀ H', Ex H1 H' → G H')
    (hs : ∀ i x H' H2 ys, i < n → Ex H1 H' → H' D = some (.lst ys) → Y i H' x H2 → ∀ (Qe : VK), (∀ v H5, Ex H' H5 → R H5 v i → Qe v H5) → g x (wipe σ vs) H2 fun σ2 H3 => wipe σ2 vs = wipe σ vs ∧ te σ2 H3 Qe)
    (hd : ∀ H' ys, Ex H1 H' → H' D = some (.lst ys) → Paired (R H') ys (List.range n) → Qd H') : Lc J g tYes te vs σ H1 D Qd := by
  refine lc_it w (fun i H' => Ex H1 H' ∧ ∃ ys, H' D = some (.lst ys) ∧ Paired (R H') ys (List.range i)) ⟨ex_upd hD, [], upd_same, .nil⟩ (fun i H' _ p => hG H' p.1) (fun i x H' H2 hi p y => ?_) (fun H' p => by obtain ⟨e, ys, h1, h2⟩ := p; exact hd H' ys e h1 h2)
  obtain ⟨e, ys, h1, h2⟩ := p
  have hlen : ys.length < sizeLine := by have := Paired.len' h2; rw [List.length_range] at this; rw [sizeLine_eq]; omega
  refine hs i x H' H2 ys hi e h1 y _ (fun v H5 e5 r5 => ⟨_, e5 _ _ h1, hlen, (e.trans e5).mut hD, _, upd_same, ?_⟩)
  rw [List.range_succ]
  have h5 := e5 _ _ h1
  exact Paired.app' (Paired.mapP h2 fun _ _ r => hM _ _ _ _ _ h5 (hR _ _ _ _ e5 r)) (hM _ _ _ _ _ h5 r5)
theorem paired_of {α β : Type} {R : α → β → Prop} : ∀ {xs : List α} {ys : List β}, xs.length = ys.length → (∀ (i : Nat) (x : α) (y : β), xs[i]? = some x → ys[i]? = some y → R x y) → Paired R xs ys
  | [], [], _, _ => .nil
  | x :: xs, y :: ys, hl, h => .cons (h 0 x y rfl rfl) (paired_of (by simpa using hl) fun i x y h1 h2 => h (i + 1) x y (by simpa using h1) (by simpa using h2))
  | [], _ :: _, hl, _ => by simp at hl
  | _ :: _, [], hl, _ => by simp at hl
/-- by the places of a list -/
theorem paired_list {α β : Type} {S : α → β → Prop} {l : List β} {ys : List α} (h : Paired (fun v i => ∃ d, l[i]? = some d ∧ S v d) ys (List.range l.length)) : Paired S ys l := by
  refine paired_of (by rw [Paired.len' h, List.length_range]) fun i x y h1 h2 => ?_
  obtain ⟨j, h3, d, h4, h5⟩ := Paired.at' h h1
  have hi : i < l.length := (List.getElem?_eq_some_iff.mp h2).1
  rw [List.getElem?_range hi] at h3
  cases h3
  rw [h4] at h2; cases h2
  exact h5
theorem Paired.append' {α β : Type} {R : α → β → Prop} : ∀ {xs : List α} {ys : List β} {as : List α} {bs : List β}, Paired R xs ys → Paired R as bs → Paired R (xs ++ as) (ys ++ bs)
  | _, _, _, _, .nil, r => r
  | _, _, _, _, .cons q t, r => .cons q (Paired.append' t r)
/-! ### plans of adders: rows, carries -/
abbrev Jn := Nat × Nat
def rowStep (rows : List (List Nat)) (p : Jn) : List (List Nat) := rows ++ [rows.getD p.1 [] ++ (rows.getD p.2 []).filter fun x => !(rows.getD p.1 []).contains x]
def rowsM (size : Nat) (joins : List Jn) : List (List Nat) := joins.foldl rowStep ((List.range size).map fun i => [i])
def downTo (n : Nat) : List Nat := (List.range (n + 1)).reverse
def depStep (ds : List Nat) (p : Jn) : List Nat := ds ++ [max (ds.getD p.1 0) (ds.getD p.2 0) + 1]
def depM (size : Nat) (joins : List Jn) : List Nat := joins.foldl depStep (List.replicate size 0)
def maxL (l : List Nat) : Nat := l.foldl max 0
abbrev JS := List Jn × List Nat
def addJ (s : JS) (place low : Nat) : JS := (s.1 ++ [(s.2.getD place 0, low)], s.2.set place (s.2.length + s.1.length))
def stepsB (size : Nat) : List Nat := ((List.range 6).filter fun b => decide (2 ^ b < size)).map (2 ^ ·)
def rngF {α : Type} (f : α → Nat → α) (lo c n : Nat) (s : α) : α := (List.range n).foldl (fun s k => f s (lo + k * c)) s
def turns (lo hi c : Nat) : Nat := (hi - lo + c - 1) / c
inductive PK | row | halves | doubling | ladder
  deriving DecidableEq
def pkS : PK → Str
  | .row => "row"
  | .halves => "halves"
  | .doubling => "doubling"
  | .ladder => "ladder"
def rowF (s : JS) (p : Nat) : JS := addJ s p (s.2.getD (p - 1) 0)
def halfF (step : Nat) (s : JS) (p : Nat) : JS := if p / step % 2 = 1 then addJ s p (s.2.getD (p / step * step - 1) 0) else s
def dblF (ahead : List Nat) (step : Nat) (s : JS) (p : Nat) : JS := addJ s p (ahead.getD (p - step) 0)
def ladF (step : Nat) (s : JS) (p : Nat) : JS := addJ s p (s.2.getD (p - step) 0)
def upF (size : Nat) (s : JS) (step : Nat) : JS := rngF (ladF step) (2 * step - 1) (2 * step) (turns (2 * step - 1) size (2 * step)) s
def downF (size : Nat) (s : JS) (step : Nat) : JS := rngF (ladF step) (3 * step - 1) (2 * step) (turns (3 * step - 1) size (2 * step)) s
def pkgM (k : PK) (size : Nat) : JS :=
  match k with
  | .row => rngF rowF 1 1 (size - 1) ([], List.range size)
  | .halves => (stepsB size).foldl (fun s step => rngF (halfF step) 0 1 size s) ([], List.range size)
  | .doubling => (stepsB size).foldl (fun s step => rngF (dblF s.2 step) step 1 (size - step) s) ([], List.range size)
  | .ladder => (stepsB size).reverse.foldl (downF size) ((stepsB size).foldl (upF size) ([], List.range size))
/-- the law's own -/
def roundsM (k : PK) (size : Nat) : List (List Jn) :=
  match k with
  | .row => (List.range (size - 1)).map fun i => [(1 + i, 1 + i - 1)]
  | .halves => (stepsB size).map fun step => ((List.range size).filter fun at_ => decide (at_ / step % 2 = 1)).map fun at_ => (at_, at_ / step * step - 1)
  | .doubling => (stepsB size).map fun step => (List.range (size - step)).map fun i => (step + i, step + i - step)
  | .ladder => ((stepsB size).map fun step => (List.range (turns (2 * step - 1) size (2 * step))).map fun i => (2 * step - 1 + i * (2 * step), 2 * step - 1 + i * (2 * step) - step)) ++
      ((stepsB size).reverse.map fun step => (List.range (turns (3 * step - 1) size (2 * step))).map fun i => (3 * step - 1 + i * (2 * step), 3 * step - 1 + i * (2 * step) - step))
def pairF (size : Nat) (ahead : List Nat) (s : JS) (p : Jn) : JS := (s.1 ++ [(ahead.getD p.1 0, ahead.getD p.2 0)], s.2.set p.1 (size + s.1.length))
def roundF (size : Nat) (s : JS) (r : List Jn) : JS := r.foldl (pairF size s.2) s
def lawM (k : PK) (size : Nat) : JS := (roundsM k size).foldl (roundF size) ([], List.range size)
def okPlan (size : Nat) (joins : List Jn) (outs : List Nat) : Bool :=
  decide (joins.length ≤ 400) && decide (outs.length = size) && (outs.all fun o => decide (o < size + joins.length)) && ((List.range joins.length).all fun i => decide ((joins.getD i (0, 0)).1 < size + i) && decide ((joins.getD i (0, 0)).2 < size + i))
def leastD (size : Nat) : Nat := ((List.range 6).filter fun b => decide (2 ^ b < size)).length
/-- pieces as intervals: from the first down to the second -/
def ivStep (ivs : List (Nat × Nat)) (p : Jn) : List (Nat × Nat) := ivs ++ [((ivs.getD p.1 (0, 0)).1, (ivs.getD p.2 (0, 0)).2)]
def ivAdj (ivs : List (Nat × Nat)) (p : Jn) : Bool := decide ((ivs.getD p.1 (0, 0)).2 = (ivs.getD p.2 (0, 0)).1 + 1) && decide (p.1 < ivs.length) && decide (p.2 < ivs.length)
def ivGo : List (Nat × Nat) → List Jn → Option (List (Nat × Nat))
  | ivs, [] => some ivs
  | ivs, p :: r => if ivAdj ivs p then ivGo (ivStep ivs p) r else none
def seg (q : Nat × Nat) : List Nat := (List.range (q.1 + 1 - q.2)).map fun i => q.1 - i
def checkK (k : PK) (size : Nat) : Bool :=
  let s := pkgM k size
  decide (lawM k size = s) && okPlan size s.1 s.2 &&
    (match ivGo ((List.range size).map fun i => (i, i)) s.1 with
     | some ivs => (List.range size).all fun at_ => decide (ivs.getD (s.2.getD at_ 0) (0, 0) = (at_, 0))
     | none => false) &&
    (decide (k = .row) || decide (k = .ladder) || (let dep := depM size s.1; decide (maxL (s.2.map fun o => dep.getD o 0) = leastD size))) && ((roundsM k size).all fun r => r.all fun p => decide (p.1 < size) && decide (p.2 < size))
def chkS (s : Nat) : Bool := [PK.row, .halves, .doubling, .ladder].all fun k => checkK k s
theorem chk1 : chkS 1 = true := by decide +kernel --SLOW
theorem chk2 : chkS 2 = true := by decide +kernel --SLOW
theorem chk3 : chkS 3 = true := by decide +kernel --SLOW
theorem chk4 : chkS 4 = true := by decide +kernel --SLOW
theorem chk5 : chkS 5 = true := by decide +kernel --SLOW
theorem chk6 : chkS 6 = true := by decide +kernel --SLOW
theorem chk7 : chkS 7 = true := by decide +kernel --SLOW
theorem chk8 : chkS 8 = true := by decide +kernel --SLOW
theorem chk9 : chkS 9 = true := by decide +kernel --SLOW
theorem chk10 : chkS 10 = true := by decide +kernel --SLOW
theorem chk11 : chkS 11 = true := by decide +kernel --SLOW
theorem chk12 : chkS 12 = true := by decide +kernel --SLOW
theorem chk13 : chkS 13 = true := by decide +kernel --SLOW
theorem chk14 : chkS 14 = true := by decide +kernel --SLOW
theorem chk15 : chkS 15 = true := by decide +kernel --SLOW
theorem chk16 : chkS 16 = true := by decide +kernel --SLOW
theorem chk17 : chkS 17 = true := by decide +kernel --SLOW
theorem chk18 : chkS 18 = true := by decide +kernel --SLOW
theorem chk19 : chkS 19 = true := by decide +kernel --SLOW
theorem chk20 : chkS 20 = true := by decide +kernel --SLOW
theorem chk21 : chkS 21 = true := by decide +kernel --SLOW
theorem chk22 : chkS 22 = true := by decide +kernel --SLOW
theorem chk23 : chkS 23 = true := by decide +kernel --SLOW
theorem chk24 : chkS 24 = true := by decide +kernel --SLOW
theorem chk25 : chkS 25 = true := by decide +kernel --SLOW
theorem chk26 : chkS 26 = true := by decide +kernel --SLOW
theorem chk27 : chkS 27 = true := by decide +kernel --SLOW
theorem chk28 : chkS 28 = true := by decide +kernel --SLOW
theorem chk29 : chkS 29 = true := by decide +kernel --SLOW
theorem chk30 : chkS 30 = true := by decide +kernel --SLOW
theorem chk31 : chkS 31 = true := by decide +kernel --SLOW
theorem chk32 : chkS 32 = true := by decide +kernel --SLOW
theorem chk_at (k : PK) {size : Nat} (h1 : 1 ≤ size) (h2 : size ≤ 32) : checkK k size = true := by
  have use : chkS size = true → checkK k size = true := fun h => List.all_eq_true.mp h k (by cases k <;> simp)
  have : size = 1 ∨ size = 2 ∨ size = 3 ∨ size = 4 ∨ size = 5 ∨ size = 6 ∨ size = 7 ∨ size = 8 ∨ size = 9 ∨ size = 10 ∨ size = 11 ∨ size = 12 ∨ size = 13 ∨ size = 14 ∨ size = 15 ∨ size = 16 ∨ size = 17 ∨ size = 18 ∨ size = 19 ∨ size = 20 ∨ size = 21 ∨ size = 22 ∨ size = 23 ∨ size = 24 ∨ size = 25 ∨ size = 26 ∨ size = 27 ∨ size = 28 ∨ size = 29 ∨ size = 30 ∨ size = 31 ∨ size = 32 := by omega
  rcases this with rfl | rfl | rfl | rfl | rfl | rfl | rfl | rfl | rfl | rfl | rfl | rfl | rfl | rfl | rfl | rfl | rfl | rfl | rfl | rfl | rfl | rfl | rfl | rfl | rfl | rfl | rfl | rfl | rfl | rfl | rfl | rfl
  · exact use chk1
  · exact use chk2
  · exact use chk3
  · exact use chk4
  · exact use chk5
  · exact use chk6
  · exact use chk7
  · exact use chk8
  · exact use chk9
  · exact use chk10
  · exact use chk11
  · exact use chk12
  · exact use chk13
  · exact use chk14
  · exact use chk15
  · exact use chk16
  · exact use chk17
  · exact use chk18
  · exact use chk19
  · exact use chk20
  · exact use chk21
  · exact use chk22
  · exact use chk23
  · exact use chk24
  · exact use chk25
  · exact use chk26
  · exact use chk27
  · exact use chk28
  · exact use chk29
  · exact use chk30
  · exact use chk31
  · exact use chk32
theorem rngF_succ {α : Type} (f : α → Nat → α) (lo c n : Nat) (s : α) : rngF f lo c (n + 1) s = f (rngF f lo c n s) (lo + n * c) := by
  unfold rngF; rw [List.range_succ, List.foldl_append]; rfl
theorem catT_use {K : PySem.W.Frag} {H : Hp} {a b : Addr} {xs ys : List V} {Q : VK} (ha : SqT K H a xs) (hb : SqT K H b ys) (hz : xs.length + ys.length ≤ 100000) (q : ∀ v H', Ex H H' → SqT K H' v (xs ++ ys) → Q (.ref v) H') : rCatA K (.ref a) (.ref b) H Q := by
  refine ⟨a, b, xs, ys, rfl, rfl, ha, hb, by rw [sizeLine_eq]; omega, fun e => ?_, fun e1 e2 => ?_, fun e1 e2 p hp => ?_⟩
  · subst e; exact q b H (Ex.refl H) hb
  · subst e2; exact q a H (Ex.refl H) (by rw [List.append_nil]; exact ha)
  · exact q p _ (ex_upd hp) (.of upd_same)
/-! ### how plans stand in the heap -/
abbrev vN (n : Nat) : V := .int (n : Int)
def JnV (K : PySem.W.Frag) (H : Hp) (v : V) (p : Jn) : Prop := ∃ q, v = .ref q ∧ SqT K H q [vN p.1, vN p.2]
def JnAt (K : PySem.W.Frag) (H : Hp) (a : Addr) (js : List Jn) : Prop := ∃ xs, H a = some (.lst xs) ∧ Paired (JnV K H) xs js
def LNat (H : Hp) (a : Addr) (ns : List Nat) : Prop := H a = some (.lst (ns.map vN))
def TNat (K : PySem.W.Frag) (H : Hp) (v : V) (ns : List Nat) : Prop := ∃ q, v = .ref q ∧ SqT K H q (ns.map vN)
def Ex2 (J L : Addr) (H H' : Hp) : Prop := ∀ b o, b ≠ J → b ≠ L → H b = some o → H' b = some o
theorem Ex2.refl {J L : Addr} (H : Hp) : Ex2 J L H H := fun _ _ _ _ h => h
theorem Ex2.trans {J L : Addr} {H H1 H2 : Hp} (a : Ex2 J L H H1) (b : Ex2 J L H1 H2) : Ex2 J L H H2 := fun x o n m h => b x o n m (a x o n m h)
theorem Ex2.of {J L : Addr} {H H' : Hp} (e : Ex H H') : Ex2 J L H H' := fun a o _ _ h => e a o h
theorem sqT_ex2 {K : PySem.W.Frag} {J L : Addr} {H H' : Hp} {a : Addr} {xs ys zs : List V} (hJ : H J = some (.lst ys)) (hL : H L = some (.lst zs)) (e : Ex2 J L H H') (h : SqT K H a xs) : SqT K H' a xs := by
  rcases h with (h | ⟨u, h⟩) | h
  · exact .inl (.inl (e _ _ (fun z => by rw [z, hJ] at h; cases h) (fun z => by rw [z, hL] at h; cases h) h))
  · exact .inl (.inr ⟨u, e _ _ (fun z => by rw [z, hJ] at h; cases h) (fun z => by rw [z, hL] at h; cases h) h⟩)
  · exact .inr h
theorem JnV.ex {K : PySem.W.Frag} {H H' : Hp} {v : V} {p : Jn} (e : Ex H H') (h : JnV K H v p) : JnV K H' v p := by
  obtain ⟨q, h1, h2⟩ := h; exact ⟨q, h1, Evl.ex_t e h2⟩
theorem JnV.mut {K : PySem.W.Frag} {H : Hp} {a : Addr} {ys : List V} {o : HO} {v : V} {p : Jn} (ha : H a = some (.lst ys)) (h : JnV K H v p) : JnV K (upd H a o) v p := by
  obtain ⟨q, h1, h2⟩ := h; exact ⟨q, h1, sqT_mut ha h2⟩
theorem addJ_len (s : JS) (p l : Nat) : (addJ s p l).1.length = s.1.length + 1 ∧ (addJ s p l).2.length = s.2.length := by
  unfold addJ; exact ⟨by rw [List.length_append]; rfl, by rw [List.length_set]⟩
theorem getD_nat {xs : List Nat} {i : Nat} (h : i < xs.length) : xs[i]? = some (xs.getD i 0) := by
  simp [List.getD, List.getElem?_eq_getElem h]
theorem lnat_at {xs : List Nat} {i : Nat} (h : i < xs.length) : (xs.map vN)[i]? = some (vN (xs.getD i 0)) := by
  rw [List.getElem?_map, getD_nat h]; rfl
/-- a plan that is one -/
def POk (size : Nat) (s : JS) : Prop := s.1.length ≤ 400 ∧ s.2.length = size ∧ (∀ o ∈ s.2, o < size + s.1.length) ∧ ∀ (i : Nat) (p : Jn), s.1[i]? = some p → p.1 < size + i ∧ p.2 < size + i
theorem okPlan_iff {size : Nat} {s : JS} (h : okPlan size s.1 s.2 = true) : POk size s := by
  unfold okPlan at h
  simp only [Bool.and_eq_true, decide_eq_true_eq, List.all_eq_true] at h
  obtain ⟨⟨⟨h1, h2⟩, h3⟩, h4⟩ := h
  refine ⟨h1, h2, h3, fun i p hp => ?_⟩
  have hi : i < s.1.length := (List.getElem?_eq_some_iff.mp hp).1
  have := h4 i (List.mem_range.mpr hi)
  have e : s.1.getD i (0, 0) = p := by simp [List.getD, hp]
  rw [e] at this
  exact this
/-- as a pair of two tuples it stands at v -/
def PlAt (K : PySem.W.Frag) (H : Hp) (v : V) (s : JS) : Prop := ∃ a b c xs, v = .ref a ∧ SqT K H a [.ref b, .ref c] ∧ SqT K H b xs ∧ Paired (JnV K H) xs s.1 ∧ SqT K H c (s.2.map vN)
theorem PlAt.ex {K : PySem.W.Frag} {H H' : Hp} {v : V} {s : JS} (e : Ex H H') (h : PlAt K H v s) : PlAt K H' v s := by
  obtain ⟨a, b, c, xs, h1, h2, h3, h4, h5⟩ := h
  exact ⟨a, b, c, xs, h1, Evl.ex_t e h2, Evl.ex_t e h3, Paired.mapP h4 fun _ _ r => JnV.ex e r, Evl.ex_t e h5⟩
def b2i (b : Bool) : Int := if b then 1 else 0
def bitB (i : Int) (p : Nat) : Bool := decide (i / 2 ^ p % 2 = 1)
/-- a place's deed on a carry -/
def opB (i j : Int) (p : Nat) (c : Bool) : Bool := if bitB i p = bitB j p then bitB i p else c
def rowB (i j : Int) (r : List Nat) (c : Bool) : Bool := r.foldr (opB i j) c
theorem rowsM_app (n : Nat) (js : List Jn) (p : Jn) : rowsM n (js ++ [p]) = rowStep (rowsM n js) p := by unfold rowsM; rw [List.foldl_append]; rfl
theorem rows_len (n : Nat) (js : List Jn) : (rowsM n js).length = n + js.length := by
  unfold rowsM
  have gen : ∀ (js : List Jn) (rs : List (List Nat)), (js.foldl rowStep rs).length = rs.length + js.length := by
    intro js
    induction js with
    | nil => intro rs; rfl
    | cons p r ih => intro rs; rw [List.foldl_cons, ih]; unfold rowStep; rw [List.length_append, List.length_singleton, List.length_cons]; omega
  rw [gen, List.length_map, List.length_range]
def RowOk (n : Nat) (r : List Nat) : Prop := r.Nodup ∧ ∀ x ∈ r, x < n
theorem rowOk_len : ∀ {n : Nat} {r : List Nat}, RowOk n r → r.length ≤ n
  | 0, r, h => by
    cases r with
    | nil => exact Nat.le_refl _
    | cons x t => exact absurd (h.2 x (List.mem_cons_self ..)) (Nat.not_lt_zero _)
  | n + 1, r, h => by
    by_cases hm : n ∈ r
    · have h1 : RowOk n (r.erase n) := ⟨h.1.erase n, fun x hx => by
        have := (h.1.mem_erase_iff).mp hx
        have := h.2 x this.2
        omega⟩
      have := rowOk_len h1
      rw [List.length_erase_of_mem hm] at this
      omega
    · have := rowOk_len (n := n) (r := r) ⟨h.1, fun x hx => by
        have h1 := h.2 x hx
        have : x ≠ n := fun e => hm (e ▸ hx)
        omega⟩
      omega
theorem rows_ok (n : Nat) (js : List Jn) : ∀ r ∈ rowsM n js, RowOk n r := by
  unfold rowsM
  have gen : ∀ (js : List Jn) (rs : List (List Nat)), (∀ r ∈ rs, RowOk n r) → ∀ r ∈ js.foldl rowStep rs, RowOk n r := by
    intro js
    induction js with
    | nil => intro rs h; exact h
    | cons p t ih =>
      intro rs h
      rw [List.foldl_cons]
      refine ih _ fun r hr => ?_
      unfold rowStep at hr
      have gd : ∀ i, RowOk n (rs.getD i []) := fun i => by
        by_cases hi : i < rs.length
        · have : rs.getD i [] = rs[i] := by simp [List.getD, List.getElem?_eq_getElem hi]
          rw [this]; exact h _ (List.getElem_mem hi)
        · have : rs.getD i [] = [] := by unfold List.getD; rw [List.getElem?_eq_none (by omega)]; rfl
          rw [this]; exact ⟨List.nodup_nil, fun x hx => by cases hx⟩
      rcases List.mem_append.mp hr with h1 | h1
      · exact h _ h1
      · rw [List.mem_singleton.mp h1]
        refine ⟨List.nodup_append.mpr ⟨(gd p.1).1, (gd p.2).1.filter _, fun a ha b hb e => ?_⟩, fun x hx => ?_⟩
        · have := (List.mem_filter.mp hb).2
          subst e
          rw [List.contains_iff_mem.mpr ha] at this
          cases this
        · rcases List.mem_append.mp hx with h2 | h2
          · exact (gd p.1).2 x h2
          · exact (gd p.2).2 x (List.mem_filter.mp h2).1
  refine gen js _ fun r hr => ?_
  obtain ⟨i, hi, rfl⟩ := List.mem_map.mp hr
  exact ⟨by simp, fun x hx => by rw [List.mem_singleton.mp hx]; exact List.mem_range.mp hi⟩
theorem kept_filter (P : Nat → Bool) (l : List Nat) : kept l.length (fun k => P (l.getD k 0)) (fun k => vN (l.getD k 0)) = (l.filter P).map vN := by
  unfold kept
  conv => rhs; rw [← range_take l 0, List.filter_map, List.map_map]
  rfl
theorem TNat.ex {K : PySem.W.Frag} {H H' : Hp} {v : V} {ns : List Nat} (e : Ex H H') (h : TNat K H v ns) : TNat K H' v ns := by
  obtain ⟨q, h1, h2⟩ := h; exact ⟨q, h1, Evl.ex_t e h2⟩
theorem TNat.mut {K : PySem.W.Frag} {H : Hp} {a : Addr} {ys : List V} {o : HO} {v : V} {ns : List Nat} (ha : H a = some (.lst ys)) (h : TNat K H v ns) : TNat K (upd H a o) v ns := by
  obtain ⟨q, h1, h2⟩ := h; exact ⟨q, h1, sqT_mut ha h2⟩
theorem valV_put {κ : Type} [DecidableEq κ] (kvs : List (κ × V)) (k j : κ) (y : V) : (valV (putK kvs k y) j).isSome = (decide (j = k) || (valV kvs j).isSome) := by
  unfold putK
  by_cases h : (kvs.any fun kv => decide (kv.1 = k)) = true
  · rw [if_pos h, valV_map]
    rw [valV_any] at h
    cases hj : valV kvs j with
    | none =>
      by_cases e : j = k
      · subst e; rw [hj] at h; cases h
      · simp [e]
    | some v => simp
  · rw [if_neg h]
    have hn : valV kvs k = none := by
      rw [valV_any] at h
      cases hk : valV kvs k with
      | none => rfl
      | some v => rw [hk] at h; exact absurd rfl h
    rw [valV_snoc k j y kvs hn]
    by_cases e : j = k
    · rw [if_pos e]; simp [e]
    · rw [if_neg e]; simp [e]
theorem maxL_ge : ∀ (l : List Nat) (a : Nat), a ≤ l.foldl max a ∧ ∀ x ∈ l, x ≤ l.foldl max a
  | [], a => ⟨Nat.le_refl _, fun _ h => by cases h⟩
  | y :: r, a => by
    obtain ⟨h1, h2⟩ := maxL_ge r (max a y)
    refine ⟨Nat.le_trans (Nat.le_max_left _ _) h1, fun x hx => ?_⟩
    rcases List.mem_cons.mp hx with rfl | h
    · exact Nat.le_trans (Nat.le_max_right _ _) h1
    · exact h2 x h
theorem maxL_mem : ∀ (l : List Nat) (a : Nat), l.foldl max a = a ∨ l.foldl max a ∈ l
  | [], _ => .inl rfl
  | y :: r, a => by
    rcases maxL_mem r (max a y) with h | h
    · rw [List.foldl_cons, h]
      by_cases hc : a ≤ y
      · exact .inr (by rw [Nat.max_eq_right hc]; exact List.mem_cons_self ..)
      · exact .inl (Nat.max_eq_left (by omega))
    · exact .inr (List.mem_cons_of_mem _ h)
theorem maxL_is {l : List Nat} (h : 0 < l.length) : maxL l ∈ l ∧ ∀ x ∈ l, x ≤ maxL l := by
  refine ⟨?_, (maxL_ge l 0).2⟩
  rcases maxL_mem l 0 with e | e
  · cases l with
    | nil => cases h
    | cons y r =>
      have := (maxL_ge (y :: r) 0).2 y (List.mem_cons_self ..)
      rw [e] at this
      unfold maxL
      rw [e]
      have : y = 0 := by omega
      rw [this]; exact List.mem_cons_self ..
  · exact e
/-! ### bits of and, of xor; what pieces do -/
theorem cast_bit (a p : Nat) : ((a : Int) / 2 ^ p % 2) = ((a / 2 ^ p % 2 : Nat) : Int) := by
  rw [Int.natCast_emod, Int.natCast_ediv, Int.natCast_pow]; rfl
theorem bitB_nat (a p : Nat) : bitB (a : Int) p = a.testBit p := by
  unfold bitB
  rw [cast_bit, Nat.testBit_eq_decide_div_mod_eq]
  exact decide_eq_decide.mpr (by omega)
theorem bit_b2i (a p : Nat) : ((a : Int) / 2 ^ p % 2) = b2i (a.testBit p) := by
  rw [cast_bit, ← Nat.toNat_testBit]
  cases a.testBit p <;> rfl
theorem bit_and {i j : Int} (hi : 0 ≤ i) (hj : 0 ≤ j) (p : Nat) : Builtin.bitAnd i j / 2 ^ p % 2 = b2i (bitB i p && bitB j p) := by
  obtain ⟨a, rfl⟩ := Int.eq_ofNat_of_zero_le hi
  obtain ⟨b, rfl⟩ := Int.eq_ofNat_of_zero_le hj
  rw [PyProof.Rows.bitAnd_pp hi hj, Int.toNat_natCast, Int.toNat_natCast, bit_b2i, Nat.testBit_and, bitB_nat, bitB_nat]
theorem bit_xor {i j : Int} (hi : 0 ≤ i) (hj : 0 ≤ j) (p : Nat) : Builtin.bitXor i j / 2 ^ p % 2 = b2i (bitB i p ^^ bitB j p) := by
  obtain ⟨a, rfl⟩ := Int.eq_ofNat_of_zero_le hi
  obtain ⟨b, rfl⟩ := Int.eq_ofNat_of_zero_le hj
  rw [Bits.bitXor_pp hi hj, Int.toNat_natCast, Int.toNat_natCast, bit_b2i, Nat.testBit_xor, bitB_nat, bitB_nat]
theorem or_b2i (a b : Bool) : Builtin.bitOr (b2i a) (b2i b) = b2i (a || b) := by cases a <;> cases b <;> rfl
theorem and_b2i (a b : Bool) : Builtin.bitAnd (b2i a) (b2i b) = b2i (a && b) := by cases a <;> cases b <;> rfl
theorem rowB_app (i j : Int) (r1 r2 : List Nat) (c : Bool) : rowB i j (r1 ++ r2) c = rowB i j r1 (rowB i j r2 c) := by unfold rowB; rw [List.foldr_append]
theorem rowB_const {i j : Int} {x : Nat} (hx : bitB i x = bitB j x) : ∀ {r : List Nat}, x ∈ r → ∀ c d, rowB i j r c = rowB i j r d
  | y :: r, h, c, d => by
    show opB i j y (rowB i j r c) = opB i j y (rowB i j r d)
    rcases List.mem_cons.mp h with rfl | h
    · unfold opB; rw [if_pos hx, if_pos hx]
    · rw [rowB_const hx h c d]
theorem rowB_in (i j : Int) {x : Nat} {r : List Nat} (h : x ∈ r) (d : Bool) : rowB i j r (opB i j x d) = rowB i j r d := by
  by_cases hx : bitB i x = bitB j x
  · exact rowB_const hx h _ _
  · have : opB i j x d = d := by unfold opB; rw [if_neg hx]
    rw [this]
theorem rowB_drop (i j : Int) (r1 : List Nat) (c : Bool) : ∀ r2 : List Nat, rowB i j r1 (rowB i j (r2.filter fun x => !r1.contains x) c) = rowB i j r1 (rowB i j r2 c)
  | [] => rfl
  | x :: r => by
    have ih := rowB_drop i j r1 c r
    by_cases hx : x ∈ r1
    · rw [List.filter_cons, if_neg (by rw [List.contains_iff_mem.mpr hx]; decide), ih]
      exact (rowB_in i j hx _).symm
    · have hc : r1.contains x = false := Bool.eq_false_iff.mpr fun h => hx (List.contains_iff_mem.mp h)
      rw [List.filter_cons, if_pos (by rw [hc]; rfl)]
      show rowB i j r1 (opB i j x _) = rowB i j r1 (opB i j x _)
      by_cases hb : bitB i x = bitB j x
      · have e : ∀ d, opB i j x d = bitB i x := fun d => by unfold opB; rw [if_pos hb]
        rw [e, e]
      · have e : ∀ d, opB i j x d = d := fun d => by unfold opB; rw [if_neg hb]
        rw [e, e]; exact ih
/-- what pieces make, and what they hand on -/
def GP (i j : Int) (rows : List (List Nat)) (gs ps : List Bool) : Prop := gs.length = rows.length ∧ ps.length = rows.length ∧ ∀ k, k < rows.length → ∀ c, (gs.getD k false || (ps.getD k false && c)) = rowB i j (rows.getD k []) c
theorem getD_app {α : Type} {xs ys : List α} {d : α} {k : Nat} (h : k < xs.length) : (xs ++ ys).getD k d = xs.getD k d := by
  unfold List.getD; rw [List.getElem?_append_left h]
theorem getD_end {α : Type} {xs : List α} {x d : α} : (xs ++ [x]).getD xs.length d = x := by
  unfold List.getD; rw [List.getElem?_append_right (Nat.le_refl _), Nat.sub_self]; rfl
theorem GP.step {i j : Int} {rows : List (List Nat)} {gs ps : List Bool} {p : Jn} (h : GP i j rows gs ps) (h1 : p.1 < rows.length) (h2 : p.2 < rows.length) :
    GP i j (rowStep rows p) (gs ++ [gs.getD p.1 false || (ps.getD p.1 false && gs.getD p.2 false)]) (ps ++ [ps.getD p.1 false && ps.getD p.2 false]) := by
  obtain ⟨a, b, c⟩ := h
  have hl : (rowStep rows p).length = rows.length + 1 := by unfold rowStep; rw [List.length_append]; rfl
  refine ⟨by rw [hl, List.length_append, a]; rfl, by rw [hl, List.length_append, b]; rfl, fun k hk d => ?_⟩
  rw [hl] at hk
  by_cases he : k = rows.length
  · subst he
    unfold rowStep
    rw [getD_end]
    conv => lhs; rw [← a]
    rw [getD_end]
    conv => lhs; rw [a, ← b]
    rw [getD_end, rowB_app, rowB_drop, ← c _ h2, ← c _ h1]
    cases gs.getD p.1 false <;> cases ps.getD p.1 false <;> cases gs.getD p.2 false <;> cases ps.getD p.2 false <;> cases d <;> rfl
  · have hk : k < rows.length := by omega
    unfold rowStep
    rw [getD_app hk, getD_app (by omega), getD_app (by omega)]
    exact c k hk d
theorem GP.init (i j : Int) (n : Nat) : GP i j (rowsM n []) ((List.range n).map fun p => bitB i p && bitB j p) ((List.range n).map fun p => bitB i p ^^ bitB j p) := by
  unfold rowsM
  rw [List.foldl_nil]
  refine ⟨by simp, by simp, fun k hk c => ?_⟩
  rw [List.length_map, List.length_range] at hk
  have e : ∀ {α : Type} (f : Nat → α) (d : α), ((List.range n).map f).getD k d = f k := fun f d => by
    unfold List.getD; rw [List.getElem?_map, List.getElem?_range hk]; rfl
  rw [e, e, e]
  show _ = opB i j k c
  unfold opB
  cases bitB i k <;> cases bitB j k <;> cases c <;> rfl
def sp_joins (K : PySem.W.Frag) (k : PK) : Sp := fun vs H Q _ => ∃ (J L : Addr) (n : Nat), vs = [.ref J, .ref L] ∧ 1 ≤ n ∧ n ≤ 32 ∧ H J = some (.lst []) ∧ LNat H L (List.range n) ∧ J ≠ L ∧ ∀ H', Ex2 J L H H' → JnAt K H' J (pkgM k n).1 → LNat H' L (pkgM k n).2 → Q .non H'
theorem JnAt.nil {K : PySem.W.Frag} {H : Hp} {J : Addr} (h : H J = some (.lst [])) : JnAt K H J [] := ⟨[], h, .nil⟩
theorem foldl_len {α : Type} (f : JS → α → JS) (m : Nat) (hf : ∀ s a, (f s a).1.length ≤ s.1.length + m ∧ (f s a).2.length = s.2.length) : ∀ (l : List α) (s : JS), (l.foldl f s).1.length ≤ s.1.length + l.length * m ∧ (l.foldl f s).2.length = s.2.length
  | [], s => ⟨by simp, rfl⟩
  | a :: r, s => by
    obtain ⟨h1, h2⟩ := foldl_len f m hf r (f s a)
    obtain ⟨h3, h4⟩ := hf s a
    rw [List.foldl_cons, List.length_cons, Nat.add_mul]
    exact ⟨by omega, by rw [h2, h4]⟩
theorem rngF_len (f : JS → Nat → JS) (hf : ∀ s a, (f s a).1.length ≤ s.1.length + 1 ∧ (f s a).2.length = s.2.length) (lo c n : Nat) (s : JS) : (rngF f lo c n s).1.length ≤ s.1.length + n ∧ (rngF f lo c n s).2.length = s.2.length := by
  unfold rngF
  have := foldl_len (fun s k => f s (lo + k * c)) 1 (fun s a => hf s _) (List.range n) s
  rw [List.length_range, Nat.mul_one] at this
  exact this
theorem addJ_le (s : JS) (p l : Nat) : (addJ s p l).1.length ≤ s.1.length + 1 ∧ (addJ s p l).2.length = s.2.length := ⟨Nat.le_of_eq (addJ_len s p l).1, (addJ_len s p l).2⟩
theorem JnAt.ex {K : PySem.W.Frag} {H H' : Hp} {J : Addr} {js : List Jn} (e : Ex H H') (h : JnAt K H J js) : JnAt K H' J js := by
  obtain ⟨xs, h1, h2⟩ := h
  exact ⟨xs, e _ _ h1, Paired.mapP h2 fun _ _ r => JnV.ex e r⟩
theorem steps_at {n t d : Nat} (h : (stepsB n)[t]? = some d) : 1 ≤ d ∧ d < n := by
  have hm := List.mem_of_getElem? h
  obtain ⟨b, hb, rfl⟩ := List.mem_map.mp hm
  have := (List.mem_filter.mp hb).2
  rw [decide_eq_true_eq] at this
  exact ⟨Nat.one_le_two_pow, this⟩
theorem steps_len (n : Nat) : (stepsB n).length ≤ 6 := by
  unfold stepsB
  rw [List.length_map]
  have := List.length_filter_le (fun b => decide (2 ^ b < n)) (List.range 6)
  rw [List.length_range] at this
  exact this
theorem foldl_take {α β : Type} (f : β → α → β) {l : List α} (s : β) {t : Nat} {a : α} (h : l[t]? = some a) : (l.take (t + 1)).foldl f s = f ((l.take t).foldl f s) a := by
  rw [List.take_add_one, h, List.foldl_append]; rfl
theorem steps_fold (n : Nat) (f : JS → Nat → JS) (hf : ∀ s a, (f s a).1.length ≤ s.1.length + 32 ∧ (f s a).2.length = s.2.length) (l : List Nat) (hl : l.length ≤ 6) (s : JS) (t : Nat) : ((l.take t).foldl f s).1.length ≤ s.1.length + 192 ∧ ((l.take t).foldl f s).2.length = s.2.length := by
  obtain ⟨h1, h2⟩ := foldl_len f 32 hf (l.take t) s
  have : (l.take t).length ≤ 6 := by rw [List.length_take]; omega
  exact ⟨by omega, h2⟩
theorem nat_at {ns : List Nat} {t : Nat} {x : V} (h : (ns.map vN)[t]? = some x) : ∃ d, ns[t]? = some d ∧ x = vN d := by
  rw [List.getElem?_map] at h
  cases hz : ns[t]? with
  | none => rw [hz] at h; cases h
  | some d => rw [hz] at h; cases h; exact ⟨d, rfl, rfl⟩
theorem halfF_le (d : Nat) (s : JS) (p : Nat) : (halfF d s p).1.length ≤ s.1.length + 1 ∧ (halfF d s p).2.length = s.2.length := by
  unfold halfF
  by_cases h : p / d % 2 = 1
  · rw [if_pos h]; exact addJ_le _ _ _
  · rw [if_neg h]; exact ⟨by omega, rfl⟩
theorem lpC {g : TG} {tb : TS} {D : Ends} {σ : St} {H : Hp} (lo c : Int) (n : Nat) (Pv : Nat → St → Hp → Prop) (h0 : Pv 0 σ H) (hs : ∀ (i : Nat) σ' H', i < n → Pv i σ' H' → g (.int (lo + (i : Nat) * c)) σ' H' fun σ2 H2 => tb { D with nx := Pv (i + 1), ct := Pv (i + 1), bk := D.nx } σ2 H2)
    (hd : ∀ σ' H', Pv n σ' H' → D.nx σ' H') : Lp (Itc lo c n) g tb D σ H := by
  refine ⟨fun i m σ H => m = n - i ∧ i ≤ n ∧ Pv i σ H, ⟨n, by simp, Nat.zero_le _, h0⟩, ?_⟩
  rintro i m σ H ⟨rfl, hi, p⟩
  by_cases hlt : i < n
  · refine .inr ⟨hlt, Pv (i + 1), fun σ' H' p' => ⟨n - (i + 1), by omega, rfl, hlt, p'⟩, fun x H' y => ?_⟩
    obtain ⟨e, y⟩ := y
    subst e y
    exact hs i σ _ hlt p
  · have e : i = n := by omega
    subst e
    exact .inl ⟨Nat.le_refl _, hd _ _ p⟩
def rgB (lo n c m : Nat) : Bool := decide ((c : Int) ≠ 0) && decide ((c : Int).natAbs < 1073741824) && Builtin.Range.small (lo : Int) (n : Int) (c : Int) && decide (Builtin.Range.rangeSize (lo : Int) (n : Int) (c : Int) = (m : Int))
theorem rgB_use {lo n c m : Nat} (h : rgB lo n c m = true) : RgC (lo : Int) (n : Int) (c : Int) m := by
  unfold rgB at h
  simp only [Bool.and_eq_true, decide_eq_true_eq] at h
  exact ⟨h.1.1.1, h.1.1.2, h.1.2, h.2⟩
theorem rg_all : ((List.range 33).all fun n => (List.range 33).all fun d => d == 0 || (rgB (2 * d - 1) n (2 * d) (turns (2 * d - 1) n (2 * d)) && rgB (3 * d - 1) n (2 * d) (turns (3 * d - 1) n (2 * d)))) = true := by decide +kernel
theorem rg_at {n d : Nat} (h : n ≤ 32) (h1 : 1 ≤ d) (h2 : d < n) : rgB (2 * d - 1) n (2 * d) (turns (2 * d - 1) n (2 * d)) = true ∧ rgB (3 * d - 1) n (2 * d) (turns (3 * d - 1) n (2 * d)) = true := by
  have h := List.all_eq_true.mp (List.all_eq_true.mp rg_all n (List.mem_range.mpr (by omega))) d (List.mem_range.mpr (by omega))
  rw [Bool.or_eq_true, Bool.and_eq_true, beq_iff_eq] at h
  rcases h with h | h
  · omega
  · exact h
theorem rgUp {n d : Nat} (h : n ≤ 32) (h1 : 1 ≤ d) (h2 : d < n) : RgC ((2 * d - 1 : Nat) : Int) (n : Int) ((2 * d : Nat) : Int) (turns (2 * d - 1) n (2 * d)) := rgB_use (rg_at h h1 h2).1
theorem rgDown {n d : Nat} (h : n ≤ 32) (h1 : 1 ≤ d) (h2 : d < n) : RgC ((3 * d - 1 : Nat) : Int) (n : Int) ((2 * d : Nat) : Int) (turns (3 * d - 1) n (2 * d)) := rgB_use (rg_at h h1 h2).2
/-- the last place of a turn lies below -/
theorem turns_lt {lo n c i : Nat} (hc : 0 < c) (h : i < turns lo n c) : lo + i * c < n := by
  unfold turns at h
  have := (Nat.lt_div_iff_mul_lt hc).mp h
  omega
theorem ladF_le (d : Nat) (s : JS) (p : Nat) : (ladF d s p).1.length ≤ s.1.length + 1 ∧ (ladF d s p).2.length = s.2.length := addJ_le _ _ _
theorem turns_le {lo n c : Nat} (h : n ≤ 32) : turns lo n c ≤ 32 := by
  unfold turns
  rcases Nat.eq_zero_or_pos c with rfl | hc
  · simp
  · refine Nat.lt_succ_iff.mp ((Nat.div_lt_iff_lt_mul hc).mpr ?_)
    have : (32 + 1) * c = 32 * c + c := by omega
    have h3 : 32 * 1 ≤ 32 * c := Nat.mul_le_mul_left _ hc
    show _ < (32 + 1) * c
    omega
theorem upF_le {n : Nat} (h : n ≤ 32) (s : JS) (d : Nat) : (upF n s d).1.length ≤ s.1.length + 32 ∧ (upF n s d).2.length = s.2.length := by
  unfold upF
  have h1 := rngF_len (ladF d) (ladF_le d) (2 * d - 1) (2 * d) (turns (2 * d - 1) n (2 * d)) s
  have h2 := turns_le (lo := 2 * d - 1) (c := 2 * d) h
  exact ⟨by omega, h1.2⟩
theorem downF_le {n : Nat} (h : n ≤ 32) (s : JS) (d : Nat) : (downF n s d).1.length ≤ s.1.length + 32 ∧ (downF n s d).2.length = s.2.length := by
  unfold downF
  have h1 := rngF_len (ladF d) (ladF_le d) (3 * d - 1) (2 * d) (turns (3 * d - 1) n (2 * d)) s
  have h2 := turns_le (lo := 3 * d - 1) (c := 2 * d) h
  exact ⟨by omega, h1.2⟩
theorem steps_at' {n t d : Nat} (h : (stepsB n).reverse[t]? = some d) : 1 ≤ d ∧ d < n := by
  have hm := List.mem_reverse.mp (List.mem_of_getElem? h)
  obtain ⟨j, hj⟩ := List.mem_iff_getElem?.mp hm
  exact steps_at hj
/-! ### tuple(range(a, b, -1)) -/
section
open PySem.Spec
open PyProof.Rows hiding St
def PRd (X : Cx) (e : Expr) (t : St → Hp → (Int → Int → Hp → Prop) → Prop) : Prop :=
  ∀ (pins : List (Addr × Obj)) (s : Shared) (σ : St) (H : Hp) (Q : Int → Int → Hp → Prop), Inv X pins σ H s → t σ H Q →
    wpAny (model X.prog X.w) X.A (eval e X.env) (fun x s' => ∃ r a b t u v H', x = .ref r ∧ IsRange s'.heap r a b (-1) t u v ∧ Inv X pins σ H' s' ∧ Q a b H') X.xe s
def tRg3 (ta : TA) : St → Hp → (Int → Int → Hp → Prop) → Prop := fun σ H Q => ta σ H fun vs H1 => ∃ i j, vs = [.int i, .int j, .int (-1)] ∧ Q i j H1
theorem prg_3 {X : Cx} {a b c : Expr} {ta : TA} {p pos : Pos} (hg : Gl X "range") (hm : X.mg "range" = none) (ha : PA X [a, b, c] ta)
    (hs : starEach [a, b, c] X.env = (false, eval a X.env) :: starEach [b, c] X.env := by rfl) (hpl : (backTo pos (starEach [b, c] X.env)).any (·.1) = false := by rfl) : PRd X (.Call (.Name "range" p) [a, b, c] [] pos) (tRg3 ta) := by
  intro pins s σ H Q I h
  refine Call_ (ld_blt I hg hm boot_range (PyProof.Rows.callWith_type1 (thn (ha.run pos pins s σ H _ I h) fun us s1 ⟨vs, H1, I1, r1, q1⟩ => ?_) hs hpl))
  obtain ⟨i, j, e, q⟩ := q1
  subst e
  cases r1 with
  | cons r rr =>
    cases rr with
    | cons r' rr =>
      cases rr with
      | cons r'' rr =>
        cases rr
        obtain ⟨t, rfl⟩ := r
        obtain ⟨t', rfl⟩ := r'
        obtain ⟨t'', rfl⟩ := r''
        refine call_range_3 (by decide) ?_ (.inl (PyProof.noPylong_small (by decide)))
        exact ⟨_, i, j, _, _, _, H1, rfl, IsRange.new _ _ _ _ _ _ _, I1.kept (t' := s1.toks) fun b u e => Heap.get?_push_of_some _ e, q⟩
def rgD (a b : Int) : List V := (List.range (a - b).toNat).map fun i => V.int (a + (i : Nat) * (-1))
def RgDn (a b : Int) : Prop := -(2 ^ 62) ≤ a ∧ a < 2 ^ 62 ∧ -(2 ^ 62) ≤ b ∧ b < 2 ^ 62 ∧ (a - b).toNat ≤ 50000
def tTupRg3 (te : St → Hp → (Int → Int → Hp → Prop) → Prop) : TE := fun σ H Q => te σ H fun a b H1 => RgDn a b ∧ ∀ q, H1 q = none → Q (.ref q) (upd H1 q (.tup (rgD a b)))
theorem pe_tupRg3 {X : Cx} {e : Expr} {te : St → Hp → (Int → Int → Hp → Prop) → Prop} {p pos : Pos} (hc : X.calm = true) (hg : Gl X "tuple") (hm : X.mg "tuple" = none) (he : PRd X e te) (na : starEach [e] X.env = (false, eval e X.env) :: starEach [] X.env := by rfl) : PE X (.Call (.Name "tuple" p) [e] [] pos) (tTupRg3 te) := by
  refine ⟨fun pins s σ H Q I h => ?_⟩
  refine Call_ (ld_blt I hg hm boot_tuple (PyProof.Rows.callWith_type1 (args_cons (thn (he pins s σ H _ I h) fun x s1 ⟨r, a, b, t, u, v, H1, ex, hr, I1, ok, q⟩ => args_nil ?_) na) na))
  subst ex
  obtain ⟨b1, b2, b3, b4, b5⟩ := ok
  refine call_tuple_range (n := (a - b).toNat) (I1.ok.hd hc) hr (PySem.W.small_down b1 b2 b3 b4) (PySem.W.rangeSize_downNat a b) (by omega) fun h' tk acc hk hi => ?_
  have I2 : Inv X pins σ H1 { s1 with heap := h', toks := tk } := I1.kept hk
  have el : acc.toList.length = (a - b).toNat := by rw [Array.length_toList]; exact hi.1
  have vs : Vals (rgD a b) acc.toList := by
    unfold rgD
    rw [← el]
    refine vals_of_get acc.toList _ fun j u hj => ?_
    exact hi.2 j u (by rw [← hj, Array.getElem?_toList])
  refine ⟨.ref h'.objs.size, upd H1 h'.objs.size (.tup (rgD a b)), I2.laid (t' := tk) (fun c o e => Heap.get?_push_of_some _ e) (Nat.le_refl _) (show ObjOk X.prog X.w _ _ _ (.tup (rgD a b)) from ⟨?_, acc.toList, vs, ?_⟩), rfl, q _ (I2.hok.fresh (Nat.le_refl _))⟩
  · unfold rgD; rw [List.length_map, List.length_range, sizeLine_eq]; omega
  · rw [Array.toArray_toList]; exact IsTup.new _ _
end
theorem rgD_down (n : Nat) : rgD (n : Int) (-1) = (downTo n).map vN := by
  unfold rgD downTo
  have : ((n : Int) - (-1)).toNat = n + 1 := by omega
  rw [this]
  refine List.ext_getElem? fun i => ?_
  rw [List.getElem?_map]
  by_cases hi : i < n + 1
  · rw [List.getElem?_range hi, List.getElem?_map, List.getElem?_reverse (by rw [List.length_range]; exact hi), List.length_range, List.getElem?_range (by omega)]
    show some (V.int _) = some (V.int _)
    congr 2
    omega
  · rw [List.getElem?_eq_none (by rw [List.length_range]; omega), List.getElem?_eq_none (by rw [List.length_map, List.length_reverse, List.length_range]; omega)]; rfl
theorem mapN (ns : List Nat) : ns.map vN = (ns.map fun n : Nat => (n : Int)).map V.int := by rw [List.map_map]; rfl
theorem castN_inj : ∀ {ns ms : List Nat}, (ns.map fun n : Nat => (n : Int)) = (ms.map fun n : Nat => (n : Int)) → ns = ms
  | [], [], _ => rfl
  | [], _ :: _, h => by cases h
  | _ :: _, [], h => by cases h
  | a :: r, b :: t, h => by
    rw [List.map_cons, List.map_cons, List.cons.injEq] at h
    rw [castN_inj h.2, Int.ofNat.inj h.1]
theorem decN (ns ms : List Nat) : decide ((ns.map fun n : Nat => (n : Int)) = (ms.map fun n : Nat => (n : Int))) = decide (ns = ms) := decide_eq_decide.mpr ⟨castN_inj, fun h => by rw [h]⟩
theorem eqTN {K : PySem.W.Frag} {H : Hp} {a b : Addr} {ns ms : List Nat} {Q : VK} (h1 : SqT K H a (ns.map vN)) (h2 : SqT K H b (ms.map vN)) (q : Q (.bl (decide (ns = ms))) H) : rEqD K (.ref a) (.ref b) H Q := by
  rw [mapN] at h1 h2
  refine eqT h1 h2 ?_
  rw [decN]; exact q
theorem neTN {K : PySem.W.Frag} {H : Hp} {a b : Addr} {ns ms : List Nat} {Q : VK} (h1 : SqT K H a (ns.map vN)) (h2 : SqT K H b (ms.map vN)) (q : Q (.bl (!decide (ns = ms))) H) : rNeD K (.ref a) (.ref b) H Q := by
  rw [mapN] at h1 h2
  refine neT h1 h2 ?_
  rw [decN]; exact q
theorem leastD_all : ((List.range 33).all fun n => (List.range 7).all fun k => !((List.range k).all fun j => decide (2 ^ j < n)) || decide (2 ^ k < n) || decide (leastD n = k)) = true := by decide +kernel
theorem leastD_is {n k : Nat} (h : n ≤ 32) (hk : k ≤ 6) (a : ∀ j, j < k → 2 ^ j < n) (b : ¬ 2 ^ k < n) : leastD n = k := by
  have h := List.all_eq_true.mp (List.all_eq_true.mp leastD_all n (List.mem_range.mpr (by omega))) k (List.mem_range.mpr (by omega))
  have h1 : ((List.range k).all fun j => decide (2 ^ j < n)) = true := List.all_eq_true.mpr fun j hj => decide_eq_true (a j (List.mem_range.mp hj))
  rw [h1] at h
  simpa [b] using h
theorem inVN (z : Nat) (l : List Nat) : inV (vN z) (l.map vN) = l.contains z := by
  unfold inV
  rw [List.any_map, Bool.eq_iff_iff, List.any_eq_true, List.contains_iff_mem]
  constructor
  · rintro ⟨y, hy, h⟩
    have : ((y : Int) == (z : Int)) = true := h
    have := eq_of_beq this
    have e : y = z := by omega
    rw [← e]; exact hy
  · intro h
    exact ⟨z, h, beq_self_eq_true (z : Int)⟩
theorem flatN (l : List Nat) : (l.map vN).all flatV = true := by
  rw [List.all_eq_true]
  intro x hx
  obtain ⟨n, _, rfl⟩ := List.mem_map.mp hx
  rfl
/-- a list of pairs stands at v -/
def RdAt (K : PySem.W.Frag) (H : Hp) (v : V) (r : List Jn) : Prop := ∃ q, v = .ref q ∧ JnAt K H q r
theorem RdAt.ex {K : PySem.W.Frag} {H H' : Hp} {v : V} {r : List Jn} (e : Ex H H') (h : RdAt K H v r) : RdAt K H' v r := by
  obtain ⟨q, h1, h2⟩ := h; exact ⟨q, h1, h2.ex e⟩
theorem downTo_succ (k : Nat) : downTo (k + 1) = (k + 1) :: downTo k := by
  unfold downTo
  rw [List.range_succ, List.reverse_append]; rfl
theorem cyOp {i j : Int} {k : Nat} {c : Bool} {x : Int} (hx : x = b2i c) : (i / 2 ^ k % 2 + j / 2 ^ k % 2 + x) / 2 = b2i (opB i j k c) := by
  have hi := mod_bd (a := i / 2 ^ k) (b := 2) (by decide)
  have hj := mod_bd (a := j / 2 ^ k) (b := 2) (by decide)
  unfold opB bitB
  subst hx
  generalize i / 2 ^ k % 2 = u at *
  generalize j / 2 ^ k % 2 = v at *
  have hu : u = 0 ∨ u = 1 := by omega
  have hv : v = 0 ∨ v = 1 := by omega
  rcases hu with rfl | rfl <;> rcases hv with rfl | rfl <;> cases c <;> rfl
theorem cyRow (i j : Int) (c : Bool) : ∀ k : Nat, cy i j (b2i c) (k + 1) = b2i (rowB i j (downTo k) c)
  | 0 => by rw [cy_succ]; exact cyOp (cy_zero i j (b2i c))
  | k + 1 => by rw [cy_succ, downTo_succ]; exact cyOp (cyRow i j c k)
theorem seg_len (q : Nat × Nat) : (seg q).length = q.1 + 1 - q.2 := by unfold seg; rw [List.length_map, List.length_range]
theorem seg_mem {q : Nat × Nat} {x : Nat} (h : q.2 ≤ q.1) : x ∈ seg q ↔ q.2 ≤ x ∧ x ≤ q.1 := by
  unfold seg
  rw [List.mem_map]
  constructor
  · rintro ⟨i, hi, rfl⟩
    have := List.mem_range.mp hi
    omega
  · rintro ⟨h1, h2⟩
    exact ⟨q.1 - x, List.mem_range.mpr (by omega), by omega⟩
theorem seg_join {a b d : Nat} (h1 : b + 1 ≤ a) (h2 : d ≤ b) : seg (a, b + 1) ++ seg (b, d) = seg (a, d) := by
  apply List.ext_getElem?
  intro m
  unfold seg
  simp only []
  by_cases hm : m < a + 1 - (b + 1)
  · rw [List.getElem?_append_left (by rw [List.length_map, List.length_range]; exact hm), List.getElem?_map, List.getElem?_map, List.getElem?_range hm, List.getElem?_range (by omega)]
  · rw [List.getElem?_append_right (by rw [List.length_map, List.length_range]; omega), List.length_map, List.length_range, List.getElem?_map, List.getElem?_map]
    by_cases h3 : m < a + 1 - d
    · rw [List.getElem?_range (by omega), List.getElem?_range h3]
      show some (b - (m - (a + 1 - (b + 1)))) = some (a - m)
      congr 1; omega
    · rw [List.getElem?_eq_none (by rw [List.length_range]; omega), List.getElem?_eq_none (by rw [List.length_range]; omega)]; rfl
theorem getD_map {α β : Type} (f : α → β) (l : List α) (i : Nat) (d : α) (e : β) (h : i < l.length) : (l.map f).getD i e = f (l.getD i d) := by
  simp [List.getD, List.getElem?_eq_getElem h]
theorem ivGo_rows : ∀ (js : List Jn) (ivs r : List (Nat × Nat)), (∀ q ∈ ivs, q.2 ≤ q.1) → ivGo ivs js = some r → js.foldl rowStep (ivs.map seg) = r.map seg ∧ (∀ q ∈ r, q.2 ≤ q.1)
  | [], ivs, r, hv, h => by
    unfold ivGo at h
    cases h
    exact ⟨rfl, hv⟩
  | p :: t, ivs, r, hv, h => by
    unfold ivGo at h
    by_cases ha : ivAdj ivs p = true
    · rw [if_pos ha] at h
      unfold ivAdj at ha
      simp only [Bool.and_eq_true, decide_eq_true_eq] at ha
      obtain ⟨⟨a1, a2⟩, a3⟩ := ha
      have gm : ∀ i, i < ivs.length → (ivs.getD i (0, 0)).2 ≤ (ivs.getD i (0, 0)).1 := fun i hi => hv _ (by
        have : ivs.getD i (0, 0) = ivs[i] := by simp [List.getD, List.getElem?_eq_getElem hi]
        rw [this]; exact List.getElem_mem hi)
      have g1 := gm _ a2
      have g2 := gm _ a3
      have st : rowStep (ivs.map seg) p = (ivStep ivs p).map seg := by
        unfold rowStep ivStep
        rw [getD_map seg ivs p.1 (0, 0) [] a2, getD_map seg ivs p.2 (0, 0) [] a3, List.map_append]
        congr 1
        show [_] = [seg _]
        congr 1
        generalize ivs.getD p.1 (0, 0) = x at *
        generalize ivs.getD p.2 (0, 0) = y at *
        obtain ⟨x1, x2⟩ := x
        obtain ⟨y1, y2⟩ := y
        simp only [] at a1 g1 g2 ⊢
        have hf : (seg (y1, y2)).filter (fun z => !(seg (x1, x2)).contains z) = seg (y1, y2) := by
          refine List.filter_eq_self.mpr fun z hz => ?_
          have hz := (seg_mem (q := (y1, y2)) g2).mp hz
          have : ¬ z ∈ seg (x1, x2) := fun h => by
            have := (seg_mem (q := (x1, x2)) g1).mp h
            simp only [] at this hz
            omega
          rw [Bool.eq_false_iff.mpr (fun h => this (List.contains_iff_mem.mp h))]; rfl
        rw [hf, a1]
        exact seg_join (by omega) g2
      rw [List.foldl_cons, st]
      refine ivGo_rows t _ r (fun q hq => ?_) h
      unfold ivStep at hq
      rcases List.mem_append.mp hq with hq | hq
      · exact hv q hq
      · rw [List.mem_singleton.mp hq]
        show (ivs.getD p.2 (0, 0)).2 ≤ (ivs.getD p.1 (0, 0)).1
        omega
    · rw [if_neg ha] at h
      cases h
theorem seg_down (n : Nat) : seg (n, 0) = downTo n := by
  apply List.ext_getElem?
  intro m
  unfold seg downTo
  rw [List.getElem?_map]
  by_cases h : m < n + 1
  · rw [List.getElem?_range (by simpa using h), List.getElem?_reverse (by rw [List.length_range]; exact h), List.length_range, List.getElem?_range (by omega)]
    show some (n - m) = some (n + 1 - 1 - m)
    congr 1
  · rw [List.getElem?_eq_none (by simp; omega), List.getElem?_eq_none (by simp; omega)]; rfl
/-- what checkK tells -/
theorem checkK_use {k : PK} {n : Nat} (h : checkK k n = true) : lawM k n = pkgM k n ∧ okPlan n (pkgM k n).1 (pkgM k n).2 = true ∧ (∀ at_, at_ < n → (rowsM n (pkgM k n).1).getD ((pkgM k n).2.getD at_ 0) [] = downTo at_) ∧
    (k = .halves ∨ k = .doubling → maxL ((pkgM k n).2.map fun o => (depM n (pkgM k n).1).getD o 0) = leastD n) ∧ ∀ r ∈ roundsM k n, ∀ p ∈ r, p.1 < n ∧ p.2 < n := by
  unfold checkK at h
  simp only [Bool.and_eq_true, decide_eq_true_eq] at h
  obtain ⟨⟨⟨⟨h1, h2⟩, h3⟩, h4⟩, h5⟩ := h
  refine ⟨h1, h2, fun at_ ha => ?_, fun hk => ?_, fun r hr p hp => ?_⟩
  · cases e : ivGo ((List.range n).map fun i => (i, i)) (pkgM k n).1 with
    | none => rw [e] at h3; cases h3
    | some ivs =>
      rw [e] at h3
      have h3 := of_decide_eq_true (List.all_eq_true.mp h3 at_ (List.mem_range.mpr ha))
      obtain ⟨g1, g2⟩ := ivGo_rows _ _ _ (fun q hq => by obtain ⟨i, _, rfl⟩ := List.mem_map.mp hq; exact Nat.le_refl _) e
      have e0 : ((List.range n).map fun i => (i, i)).map seg = (List.range n).map fun i => [i] := by
        rw [List.map_map]
        refine List.map_congr_left fun i _ => ?_
        show seg (i, i) = [i]
        unfold seg
        rw [show i + 1 - i = 1 by omega]; rfl
      rw [e0] at g1
      have g1 : rowsM n (pkgM k n).1 = ivs.map seg := g1
      have hl : ivs.length = n + (pkgM k n).1.length := by
        have := rows_len n (pkgM k n).1
        rw [g1, List.length_map] at this; exact this
      have ho : (pkgM k n).2.getD at_ 0 < ivs.length := by
        unfold okPlan at h2
        simp only [Bool.and_eq_true, decide_eq_true_eq, List.all_eq_true] at h2
        rw [hl]
        refine h2.1.2 _ ?_
        have hz : at_ < (pkgM k n).2.length := by rw [h2.1.1.2]; exact ha
        have : (pkgM k n).2.getD at_ 0 = (pkgM k n).2[at_] := by simp [List.getD, List.getElem?_eq_getElem hz]
        rw [this]; exact List.getElem_mem hz
      rw [g1, getD_map seg ivs _ (0, 0) [] ho, h3, seg_down]
  · simp only [Bool.or_eq_true, decide_eq_true_eq] at h4
    rcases hk with rfl | rfl
    · rcases h4 with (h | h) | h
      · cases h
      · cases h
      · exact h
    · rcases h4 with (h | h) | h
      · cases h
      · cases h
      · exact h
  · have := List.all_eq_true.mp (List.all_eq_true.mp h5 r hr) p hp
    simpa using this
/-! ### plans as data -/
def jnD (p : Jn) : PyData := tupD [(p.1 : Int), (p.2 : Int)]
def planD (s : JS) : PyData := .tuple [.tuple (s.1.map jnD), tupD (s.2.map fun o : Nat => (o : Int))]
theorem PlAt.dp {K : PySem.W.Frag} {H : Hp} {v : V} {s : JS} (h : PlAt K H v s) : Dp K H v (planD s) := by
  obtain ⟨a, b, c, xs, rfl, ha, hb, hx, hc⟩ := h
  refine .tup ha (.cons (.tup hb ?_) (.cons (dp_tup (by rw [← mapN]; exact hc)) .nil))
  clear ha hb hc
  obtain ⟨j, o⟩ := s
  simp only [] at hx ⊢
  induction hx with
  | nil => exact .nil
  | cons r _ ih =>
    obtain ⟨q, rfl, hq⟩ := r
    exact .cons (dp_tup hq) ih
theorem sh_plan (s : JS) : SeqAt.shaped (planD s) = true := by
  have c1 : ∀ l : List Jn, PyData.canLayAll0 (l.map jnD) = true := by
    intro l
    induction l with
    | nil => rfl
    | cons p r ih =>
      show ((jnD p).canLay0 && PyData.canLayAll0 (r.map jnD)) = true
      rw [ih]; rfl
  have d1 : ∀ l : List Jn, PyData.depthAll (l.map jnD) ≤ 1 := by
    intro l
    induction l with
    | nil => exact Nat.zero_le _
    | cons p r ih =>
      have e : (jnD p).depth = 1 := rfl
      simp only [List.map_cons, PyData.depthAll, e]
      omega
  have c2 : PyData.canLayAll0 ((s.2.map fun o : Nat => (o : Int)).map PyData.int) = true := PyProof.Rows.canLayAll_ints _
  have d2 : PyData.depthAll ((s.2.map fun o : Nat => (o : Int)).map PyData.int) = 0 := PyProof.Rows.depthAll_ints _
  have := d1 s.1
  simp only [SeqAt.shaped, planD, tupD, PyData.canLay0, PyData.canLayAll0, c1, c2, Bool.and_self, Bool.true_and, PyData.depth, PyData.depthAll, d2]
  refine decide_eq_true ?_
  omega
/-- a new list of pairs stands at v -/
def RdN (K : PySem.W.Frag) (H0 H : Hp) (v : V) (r : List Jn) : Prop := ∃ q, v = .ref q ∧ H0 q = none ∧ JnAt K H q r
theorem RdN.ex {K : PySem.W.Frag} {H0 H H' : Hp} {v : V} {r : List Jn} (e : Ex H H') (h : RdN K H0 H v r) : RdN K H0 H' v r := by
  obtain ⟨q, h1, h0, h2⟩ := h; exact ⟨q, h1, h0, h2.ex e⟩
/-- .. beside D -/
def RdD (K : PySem.W.Frag) (H0 : Hp) (D : Addr) (H : Hp) (v : V) (r : List Jn) : Prop := ∃ q, v = .ref q ∧ q ≠ D ∧ H0 q = none ∧ JnAt K H q r
theorem RdD.ex {K : PySem.W.Frag} {H0 H H' : Hp} {D : Addr} {v : V} {r : List Jn} (e : Ex H H') (h : RdD K H0 D H v r) : RdD K H0 D H' v r := by
  obtain ⟨q, h1, h0, h3, h2⟩ := h; exact ⟨q, h1, h0, h3, h2.ex e⟩
theorem JnAt.mut {K : PySem.W.Frag} {H : Hp} {D q : Addr} {o : HO} {ys : List V} {r : List Jn} (hD : H D = some (.lst ys)) (n : q ≠ D) (h : JnAt K H q r) : JnAt K (upd H D o) q r := by
  obtain ⟨xs, h1, h2⟩ := h
  exact ⟨xs, by rw [upd_ne n]; exact h1, Paired.mapP h2 fun _ _ r => r.mut hD⟩
theorem RdD.mut {K : PySem.W.Frag} {H0 H : Hp} {D : Addr} {o : HO} {ys : List V} {v : V} {r : List Jn} (hD : H D = some (.lst ys)) (h : RdD K H0 D H v r) : RdD K H0 D (upd H D o) v r := by
  obtain ⟨q, h1, h0, h3, h2⟩ := h
  exact ⟨q, h1, h0, h3, h2.mut hD h0⟩
theorem RdD.new {K : PySem.W.Frag} {H0 H : Hp} {D : Addr} {v : V} {r : List Jn} (h : RdD K H0 D H v r) : RdN K H0 H v r := by
  obtain ⟨q, h1, h0, h3, h2⟩ := h; exact ⟨q, h1, h3, h2⟩
theorem Ex2.jn {K : PySem.W.Frag} {J L q : Addr} {H H' : Hp} {ys zs : List V} {r : List Jn} (hJ : H J = some (.lst ys)) (hL : H L = some (.lst zs)) (nJ : q ≠ J) (nL : q ≠ L) (e : Ex2 J L H H') (h : JnAt K H q r) : JnAt K H' q r := by
  obtain ⟨xs, h1, h2⟩ := h
  exact ⟨xs, e _ _ nJ nL h1, Paired.mapP h2 fun _ _ ⟨a, b, c⟩ => ⟨a, b, sqT_ex2 hJ hL e c⟩⟩
theorem rounds_chk : ((List.range 33).all fun n => [PK.row, .halves, .doubling, .ladder].all fun k => decide ((roundsM k n).length ≤ 40) && (roundsM k n).all fun r => decide (r.length ≤ 40)) = true := by decide +kernel
theorem rounds_small (k : PK) {n : Nat} (h : n ≤ 32) : (roundsM k n).length ≤ 40 ∧ ∀ r ∈ roundsM k n, r.length ≤ 40 := by
  have h1 := List.all_eq_true.mp (List.all_eq_true.mp rounds_chk n (List.mem_range.mpr (by omega))) k (by cases k <;> simp)
  rw [Bool.and_eq_true] at h1
  exact ⟨of_decide_eq_true h1.1, fun r hr => of_decide_eq_true (List.all_eq_true.mp h1.2 r hr)⟩
theorem pairs_len (n : Nat) (ah : List Nat) : ∀ (r : List Jn) (s : JS), (r.foldl (pairF n ah) s).1.length = s.1.length + r.length ∧ (r.foldl (pairF n ah) s).2.length = s.2.length
  | [], s => ⟨rfl, rfl⟩
  | p :: r, s => by
    obtain ⟨h1, h2⟩ := pairs_len n ah r (pairF n ah s p)
    rw [List.foldl_cons, h1, h2]
    have e1 : (pairF n ah s p).1.length = s.1.length + 1 := List.length_append
    have e2 : (pairF n ah s p).2.length = s.2.length := List.length_set
    rw [e1, e2, List.length_cons]
    omega
theorem rounds_len (n : Nat) : ∀ (rs : List (List Jn)) (s : JS), (∀ r ∈ rs, r.length ≤ 40) → (rs.foldl (roundF n) s).1.length ≤ s.1.length + 40 * rs.length ∧ (rs.foldl (roundF n) s).2.length = s.2.length
  | [], s, _ => ⟨Nat.le_refl _, rfl⟩
  | r :: rs, s, h => by
    obtain ⟨h1, h2⟩ := rounds_len n rs (roundF n s r) fun x hx => h x (List.mem_cons_of_mem _ hx)
    have h3 := h r (List.mem_cons_self ..)
    obtain ⟨h4, h5⟩ := pairs_len n s.2 r s
    rw [List.foldl_cons]
    have e : roundF n s r = r.foldl (pairF n s.2) s := rfl
    rw [e] at h1 h2 ⊢
    rw [List.length_cons]
    omega
theorem lnat_set {K : PySem.W.Frag} {H : Hp} {L : Addr} {ns : List Nat} {i : Nat} {m : Nat} : (ns.map vN).set i (vN m) = (ns.set i m).map vN := by rw [List.map_set]
theorem sqT_exd {K : PySem.W.Frag} {d : Addr} {H H' : Hp} {a : Addr} {xs : List V} (hd : DiceAt H d) (e : ExD d H H') (h : SqT K H a xs) : SqT K H' a xs := by
  obtain ⟨l, m, o, _, _, _, hh⟩ := hd
  rcases h with (h | ⟨u, h⟩) | h
  · exact .inl (.inl (e _ _ (fun z => by rw [z, hh] at h; cases h) h))
  · exact .inl (.inr ⟨u, e _ _ (fun z => by rw [z, hh] at h; cases h) h⟩)
  · exact .inr h
theorem JnV.exd {K : PySem.W.Frag} {d : Addr} {H H' : Hp} {v : V} {p : Jn} (hd : DiceAt H d) (e : ExD d H H') (h : JnV K H v p) : JnV K H' v p := by
  obtain ⟨q, h1, h2⟩ := h; exact ⟨q, h1, sqT_exd hd e h2⟩
theorem PlAt.exd {K : PySem.W.Frag} {d : Addr} {H H' : Hp} {v : V} {s : JS} (hd : DiceAt H d) (e : ExD d H H') (h : PlAt K H v s) : PlAt K H' v s := by
  obtain ⟨a, b, c, xs, h1, h2, h3, h4, h5⟩ := h
  exact ⟨a, b, c, xs, h1, sqT_exd hd e h2, sqT_exd hd e h3, Paired.mapP h4 fun _ _ r => r.exd hd e, sqT_exd hd e h5⟩
theorem TNat.exd {K : PySem.W.Frag} {d : Addr} {H H' : Hp} {v : V} {ns : List Nat} (hd : DiceAt H d) (e : ExD d H H') (h : TNat K H v ns) : TNat K H' v ns := by
  obtain ⟨q, h1, h2⟩ := h; exact ⟨q, h1, sqT_exd hd e h2⟩
local macro_rules | `(tactic| walk_at "rd") => `(tactic|
  simp only [tSeq, tAsg, gName, tVar, tC, tOp, tUn, rI, rI0, rU, rEq, rNe, tTest, tB, tNot, tAnd, tOr, tIfS, tRet, tRetN, tNext, tNever, tDrop, tCall, tCallN, tCallK, tCons, tNil, tTup, tLst, tIf, tIfV, tAndV, tOrV, tNotV, tPar, tPar3, tAug, ipI, tChain, tCB, tBM, tSl, tPart, tNoPart, tRevL,
    L2.start, List.map_cons, List.map_nil, List.length_cons, List.length_nil, List.replicate, List.cons_append, List.nil_append, List.append_nil, Nat.reduceAdd, Nat.reduceSub, List.set, List.getElem?_cons_zero, List.getElem?_cons_succ,
    ex_eq_l, exists_eq_left, exists_eq_left', exists_and_left, exists_and_right, exists_eq_right, exists_eq, exists_eq', and_assoc, Option.some.injEq, V.int.injEq, V.bl.injEq, V.str.injEq, V.ref.injEq, List.cons.injEq, and_true, true_and, decide_eq_true_eq, Bool.not_eq_true', decide_eq_false_iff_not, Bool.false_eq_true, Bool.true_eq_false, reduceCtorEq, if_false, if_true, ite_true, ite_false, reduceIte, ite_not, not_true_eq_false, not_false_eq_true, scal_ii, scal_bb, scal_ss, eq_self_iff_true, Int.reduceNeg, cxK, gSub, tLc_eq, L2.wipe, List.map, tFor_eq, iRng1, iRng2, iList, iTup, iEnum, iEnumT, iZip, gTup, gCons, gNil, Int.toNat_natCast, Int.toNat_zero, forall_const, false_and, and_false, exists_const, exists_false, or_false, false_or, ofStr_inj, String.reduceEq, tDIn, tDNotIn, sDPut, tDNewT, tDisp1T, tDc_eq, Option.isSome_none, Option.isSome_some, decide_true, decide_false])
local macro_rules | `(tactic| walk_at "rt") => `(tactic| try walk_at "rd")
local macro_rules | `(tactic| walk_at "r1") => `(tactic| (try simp only [tAsg, gName, tVar, tC, tOp, tUn, rI, rI0, rU, rEq, rNe, tTest, tB, tNot, tAnd, tOr, tIfS, tRet, tRetN, tNext, tNever, tDrop, tCall, tCallN, tCallK, tCons, tNil, tTup, tLst, tIf, tIfV, tAndV, tOrV, tNotV, tPar, tPar3, tAug, ipI, tChain, tCB, tBM, tSl, tPart, tNoPart, tRevL,     L2.start, List.map_cons, List.map_nil, List.length_cons, List.length_nil, List.replicate, List.cons_append, List.nil_append, List.append_nil, Nat.reduceAdd, Nat.reduceSub, List.set, List.getElem?_cons_zero, List.getElem?_cons_succ,     ex_eq_l, exists_eq_left, exists_eq_left', exists_and_left, exists_and_right, exists_eq_right, exists_eq, exists_eq', and_assoc, Option.some.injEq, V.int.injEq, V.bl.injEq, V.str.injEq, V.ref.injEq, List.cons.injEq, and_true, true_and, decide_eq_true_eq, Bool.not_eq_true', decide_eq_false_iff_not, Bool.false_eq_true, Bool.true_eq_false, reduceCtorEq, if_false, if_true, ite_true, ite_false, reduceIte, ite_not, not_true_eq_false, not_false_eq_true, scal_ii, scal_bb, scal_ss, eq_self_iff_true, Int.reduceNeg, cxK, gSub, tLc_eq, L2.wipe, List.map, tFor_eq, iRng1, iRng2, iList, iTup, iEnum, iEnumT, iZip, gTup, gCons, gNil, Int.toNat_natCast, Int.toNat_zero, forall_const, false_and, and_false, exists_const, exists_false, or_false, false_or, ofStr_inj, String.reduceEq, tDIn, tDNotIn, sDPut, tDNewT, tDisp1T, tDc_eq, Option.isSome_none, Option.isSome_some, decide_true, decide_false]))
local macro_rules | `(tactic| walk_at "rs") => `(tactic| (walk_at "r1"; (try refine tSeq_go ?_); walk_at "r1"; (try refine tSeq_go ?_); walk_at "r1"))
local macro_rules | `(tactic| walk_at "go1") => `(tactic| first
  | (with_reducible refine ⟨by omega, ?_⟩) | (with_reducible refine ⟨by decide, ?_⟩) | (with_reducible refine ⟨mulL (by omega), ?_⟩) | (with_reducible refine ⟨mulR (by omega), ?_⟩) | (with_reducible refine ⟨cpow_ok (by omega) (by omega) (by omega), ?_⟩)
  | (with_reducible refine ⟨_, (by assumption : SqT _ _ _ _), ?_⟩) | (with_reducible refine ⟨_, (by assumption : SqL _ _ _ _), ?_⟩) | (with_reducible refine ⟨_, Or.inl (by assumption : SqL _ _ _ _), ?_⟩) | (with_reducible refine ⟨_, Or.inr (by assumption : SqT _ _ _ _), ?_⟩) | (refine ixT (by assumption) rfl ?_) | (refine ixL (by assumption) rfl ?_)
  | (with_reducible refine ⟨_, SqT.of upd_same, ?_⟩) | (with_reducible refine ⟨_, Or.inr (SqT.of upd_same), ?_⟩) | (with_reducible refine ⟨_, Or.inl (SqL.of upd_same), ?_⟩) | (with_reducible refine ⟨rfl, ?_⟩) | (with_reducible refine ⟨_, rfl, ?_⟩))
local macro_rules | `(tactic| walk_at "go") => `(tactic| ((try walk_at "rs"); repeat (walk_at "go1"; (try walk_at "rs"))))
def topS (i : Nat) : Stmt := PySem.Challenge.pw_truebeat_k16_whole_plans_by_name.main.body.getD i (.Pass ⟨0, 0, 0, 0⟩)
abbrev s_is_integer : Stmt := topS 2
abbrev s_is_between : Stmt := topS 3
abbrev s_is_index : Stmt := topS 4
abbrev s_is_pair : Stmt := topS 5
abbrev s_is_tuple_of : Stmt := topS 6
abbrev s_check_number : Stmt := topS 14
abbrev s_check_word : Stmt := topS 15
abbrev s_check_size : Stmt := topS 19
abbrev s_steps_below : Stmt := topS 20
abbrev s_add_join : Stmt := topS 21
abbrev s_join_row : Stmt := topS 22
abbrev s_join_halves : Stmt := topS 23
abbrev s_join_doubling : Stmt := topS 24
abbrev s_join_ladder : Stmt := topS 25
abbrev s_plan_of : Stmt := topS 27
abbrev s_is_join : Stmt := topS 28
abbrev s_is_plan : Stmt := topS 29
abbrev s_check_plan : Stmt := topS 30
abbrev s_rows_found : Stmt := topS 31
abbrev s_row_of : Stmt := topS 32
abbrev s_plan_depth : Stmt := topS 33
abbrev s_carries_told : Stmt := topS 34
abbrev s_carries_by : Stmt := topS 35
abbrev s_paper_for : Stmt := topS 36
abbrev s_plan_paper : Stmt := topS 37
abbrev s_law_dice : Stmt := topS 39
abbrev s_law_roll : Stmt := topS 40
abbrev s_law_two_to : Stmt := topS 42
abbrev s_law_rounds : Stmt := topS 43
abbrev s_law_plan : Stmt := topS 44
abbrev s_law_rows : Stmt := topS 45
abbrev s_law_true : Stmt := topS 47
abbrev s_law_is_adder : Stmt := topS 48
abbrev s_law_depth : Stmt := topS 49
abbrev s_law_least_depth : Stmt := topS 50
abbrev s_law_right : Stmt := topS 51
abbrev s_law : Stmt := topS 52
abbrev N_is_integer : List Str := ["value"]
abbrev P_is_integer : List Str := ["value"]
theorem sc_is_integer : FnScope N_is_integer P_is_integer (defScope s_is_integer) := ⟨rfl, rfl, rfl, by decide +kernel, rfl, by decide +kernel, by decide +kernel⟩
abbrev N_is_between : List Str := ["value", "least", "most"]
abbrev P_is_between : List Str := ["value", "least", "most"]
theorem sc_is_between : FnScope N_is_between P_is_between (defScope s_is_between) := ⟨rfl, rfl, rfl, by decide +kernel, rfl, by decide +kernel, by decide +kernel⟩
abbrev N_is_index : List Str := ["value", "many"]
abbrev P_is_index : List Str := ["value", "many"]
theorem sc_is_index : FnScope N_is_index P_is_index (defScope s_is_index) := ⟨rfl, rfl, rfl, by decide +kernel, rfl, by decide +kernel, by decide +kernel⟩
abbrev N_is_pair : List Str := ["value"]
abbrev P_is_pair : List Str := ["value"]
theorem sc_is_pair : FnScope N_is_pair P_is_pair (defScope s_is_pair) := ⟨rfl, rfl, rfl, by decide +kernel, rfl, by decide +kernel, by decide +kernel⟩
abbrev N_is_tuple_of : List Str := ["value", "least", "most"]
abbrev P_is_tuple_of : List Str := ["value", "least", "most"]
theorem sc_is_tuple_of : FnScope N_is_tuple_of P_is_tuple_of (defScope s_is_tuple_of) := ⟨rfl, rfl, rfl, by decide +kernel, rfl, by decide +kernel, by decide +kernel⟩
abbrev N_check_number : List Str := ["value", "least", "most"]
abbrev P_check_number : List Str := ["value", "least", "most"]
theorem sc_check_number : FnScope N_check_number P_check_number (defScope s_check_number) := ⟨rfl, rfl, rfl, by decide +kernel, rfl, by decide +kernel, by decide +kernel⟩
abbrev N_check_word : List Str := ["width", "word"]
abbrev P_check_word : List Str := ["width", "word"]
theorem sc_check_word : FnScope N_check_word P_check_word (defScope s_check_word) := ⟨rfl, rfl, rfl, by decide +kernel, rfl, by decide +kernel, by decide +kernel⟩
abbrev N_check_size : List Str := ["size"]
abbrev P_check_size : List Str := ["size"]
theorem sc_check_size : FnScope N_check_size P_check_size (defScope s_check_size) := ⟨rfl, rfl, rfl, by decide +kernel, rfl, by decide +kernel, by decide +kernel⟩
abbrev N_steps_below : List Str := ["size", "bit"]
abbrev P_steps_below : List Str := ["size"]
theorem sc_steps_below : FnScope N_steps_below P_steps_below (defScope s_steps_below) := ⟨rfl, rfl, rfl, by decide +kernel, rfl, by decide +kernel, by decide +kernel⟩
abbrev N_add_join : List Str := ["joins", "here", "place", "low"]
abbrev P_add_join : List Str := ["joins", "here", "place", "low"]
theorem sc_add_join : FnScope N_add_join P_add_join (defScope s_add_join) := ⟨rfl, rfl, rfl, by decide +kernel, rfl, by decide +kernel, by decide +kernel⟩
abbrev N_join_row : List Str := ["joins", "here", "place"]
abbrev P_join_row : List Str := ["joins", "here"]
theorem sc_join_row : FnScope N_join_row P_join_row (defScope s_join_row) := ⟨rfl, rfl, rfl, by decide +kernel, rfl, by decide +kernel, by decide +kernel⟩
abbrev N_join_halves : List Str := ["joins", "here", "step", "place"]
abbrev P_join_halves : List Str := ["joins", "here"]
theorem sc_join_halves : FnScope N_join_halves P_join_halves (defScope s_join_halves) := ⟨rfl, rfl, rfl, by decide +kernel, rfl, by decide +kernel, by decide +kernel⟩
abbrev N_join_doubling : List Str := ["joins", "here", "step", "ahead", "place"]
abbrev P_join_doubling : List Str := ["joins", "here"]
theorem sc_join_doubling : FnScope N_join_doubling P_join_doubling (defScope s_join_doubling) := ⟨rfl, rfl, rfl, by decide +kernel, rfl, by decide +kernel, by decide +kernel⟩
abbrev N_join_ladder : List Str := ["joins", "here", "steps", "step", "place"]
abbrev P_join_ladder : List Str := ["joins", "here"]
theorem sc_join_ladder : FnScope N_join_ladder P_join_ladder (defScope s_join_ladder) := ⟨rfl, rfl, rfl, by decide +kernel, rfl, by decide +kernel, by decide +kernel⟩
abbrev N_plan_of : List Str := ["kind", "size", "joins", "here", "put_joins"]
abbrev P_plan_of : List Str := ["kind", "size"]
theorem sc_plan_of : FnScope N_plan_of P_plan_of (defScope s_plan_of) := ⟨rfl, rfl, rfl, by decide +kernel, rfl, by decide +kernel, by decide +kernel⟩
abbrev N_is_join : List Str := ["value", "many"]
abbrev P_is_join : List Str := ["value", "many"]
theorem sc_is_join : FnScope N_is_join P_is_join (defScope s_is_join) := ⟨rfl, rfl, rfl, by decide +kernel, rfl, by decide +kernel, by decide +kernel⟩
abbrev N_is_plan : List Str := ["size", "value", "joins", "outs", "at", "pair", "piece"]
abbrev P_is_plan : List Str := ["size", "value"]
theorem sc_is_plan : FnScope N_is_plan P_is_plan (defScope s_is_plan) := ⟨rfl, rfl, rfl, by decide +kernel, rfl, by decide +kernel, by decide +kernel⟩
abbrev N_check_plan : List Str := ["size", "plan"]
abbrev P_check_plan : List Str := ["size", "plan"]
theorem sc_check_plan : FnScope N_check_plan P_check_plan (defScope s_check_plan) := ⟨rfl, rfl, rfl, by decide +kernel, rfl, by decide +kernel, by decide +kernel⟩
abbrev N_rows_found : List Str := ["size", "plan", "rows", "place", "high", "low", "there"]
abbrev P_rows_found : List Str := ["size", "plan"]
theorem sc_rows_found : FnScope N_rows_found P_rows_found (defScope s_rows_found) := ⟨rfl, rfl, rfl, by decide +kernel, rfl, by decide +kernel, by decide +kernel⟩
abbrev N_row_of : List Str := ["size", "plan", "piece"]
abbrev P_row_of : List Str := ["size", "plan", "piece"]
theorem sc_row_of : FnScope N_row_of P_row_of (defScope s_row_of) := ⟨rfl, rfl, rfl, by decide +kernel, rfl, by decide +kernel, by decide +kernel⟩
abbrev N_plan_depth : List Str := ["size", "plan", "joins", "outs", "deep", "high", "low", "piece"]
abbrev P_plan_depth : List Str := ["size", "plan"]
theorem sc_plan_depth : FnScope N_plan_depth P_plan_depth (defScope s_plan_depth) := ⟨rfl, rfl, rfl, by decide +kernel, rfl, by decide +kernel, by decide +kernel⟩
abbrev N_carries_told : List Str := ["size", "plan", "one", "other", "carry", "joins", "outs", "makes", "place", "hands", "high", "low", "piece"]
abbrev P_carries_told : List Str := ["size", "plan", "one", "other", "carry"]
theorem sc_carries_told : FnScope N_carries_told P_carries_told (defScope s_carries_told) := ⟨rfl, rfl, rfl, by decide +kernel, rfl, by decide +kernel, by decide +kernel⟩
abbrev N_carries_by : List Str := ["size", "plan", "one", "other", "carry"]
abbrev P_carries_by : List Str := ["size", "plan", "one", "other", "carry"]
theorem sc_carries_by : FnScope N_carries_by P_carries_by (defScope s_carries_by) := ⟨rfl, rfl, rfl, by decide +kernel, rfl, by decide +kernel, by decide +kernel⟩
abbrev N_paper_for : List Str := ["place", "row", "right", "shared", "makes", "hand", "at"]
abbrev P_paper_for : List Str := ["place", "row"]
theorem sc_paper_for : FnScope N_paper_for P_paper_for (defScope s_paper_for) := ⟨rfl, rfl, rfl, by decide +kernel, rfl, by decide +kernel, by decide +kernel⟩
abbrev N_plan_paper : List Str := ["size", "plan", "rows", "place", "piece", "paper"]
abbrev P_plan_paper : List Str := ["size", "plan"]
theorem sc_plan_paper : FnScope N_plan_paper P_plan_paper (defScope s_plan_paper) := ⟨rfl, rfl, rfl, by decide +kernel, rfl, by decide +kernel, by decide +kernel⟩
abbrev N_law_dice : List Str := ["script", "at", "cell", "great", "left", "mixed"]
abbrev P_law_dice : List Str := ["script", "at"]
theorem sc_law_dice : FnScope N_law_dice P_law_dice (defScope s_law_dice) := ⟨rfl, rfl, rfl, by decide +kernel, rfl, by decide +kernel, by decide +kernel⟩
abbrev N_law_roll : List Str := ["dice", "total", "size", "drawn", "one", "two"]
abbrev P_law_roll : List Str := ["dice", "total"]
theorem sc_law_roll : FnScope N_law_roll P_law_roll (defScope s_law_roll) := ⟨rfl, rfl, rfl, by decide +kernel, rfl, by decide +kernel, by decide +kernel⟩
abbrev N_law_two_to : List Str := ["bits", "found", "turn"]
abbrev P_law_two_to : List Str := ["bits"]
theorem sc_law_two_to : FnScope N_law_two_to P_law_two_to (defScope s_law_two_to) := ⟨rfl, rfl, rfl, by decide +kernel, rfl, by decide +kernel, by decide +kernel⟩
abbrev N_law_rounds : List Str := ["kind", "size", "at", "steps", "step", "found"]
abbrev P_law_rounds : List Str := ["kind", "size"]
theorem sc_law_rounds : FnScope N_law_rounds P_law_rounds (defScope s_law_rounds) := ⟨rfl, rfl, rfl, by decide +kernel, rfl, by decide +kernel, by decide +kernel⟩
abbrev N_law_plan : List Str := ["kind", "size", "here", "joins", "pairs", "ahead", "at", "to"]
abbrev P_law_plan : List Str := ["kind", "size"]
theorem sc_law_plan : FnScope N_law_plan P_law_plan (defScope s_law_plan) := ⟨rfl, rfl, rfl, by decide +kernel, rfl, by decide +kernel, by decide +kernel⟩
abbrev N_law_rows : List Str := ["size", "joins", "found", "at", "high", "low"]
abbrev P_law_rows : List Str := ["size", "joins"]
theorem sc_law_rows : FnScope N_law_rows P_law_rows (defScope s_law_rows) := ⟨rfl, rfl, rfl, by decide +kernel, rfl, by decide +kernel, by decide +kernel⟩
abbrev N_law_true : List Str := ["size", "one", "other", "first", "found", "at", "less"]
abbrev P_law_true : List Str := ["size", "one", "other", "first"]
theorem sc_law_true : FnScope N_law_true P_law_true (defScope s_law_true) := ⟨rfl, rfl, rfl, by decide +kernel, rfl, by decide +kernel, by decide +kernel⟩
abbrev N_law_is_adder : List Str := ["size", "plan", "rows", "at", "piece"]
abbrev P_law_is_adder : List Str := ["size", "plan"]
theorem sc_law_is_adder : FnScope N_law_is_adder P_law_is_adder (defScope s_law_is_adder) := ⟨rfl, rfl, rfl, by decide +kernel, rfl, by decide +kernel, by decide +kernel⟩
abbrev N_law_depth : List Str := ["size", "plan", "depths", "high", "low", "piece"]
abbrev P_law_depth : List Str := ["size", "plan"]
theorem sc_law_depth : FnScope N_law_depth P_law_depth (defScope s_law_depth) := ⟨rfl, rfl, rfl, by decide +kernel, rfl, by decide +kernel, by decide +kernel⟩
abbrev N_law_least_depth : List Str := ["size", "found", "here"]
abbrev P_law_least_depth : List Str := ["size"]
theorem sc_law_least_depth : FnScope N_law_least_depth P_law_least_depth (defScope s_law_least_depth) := ⟨rfl, rfl, rfl, by decide +kernel, rfl, by decide +kernel, by decide +kernel⟩
abbrev N_law_right : List Str := ["dice", "kind", "size", "plan", "due", "rows", "turn", "piece", "one", "other", "first"]
abbrev P_law_right : List Str := ["dice", "kind", "size"]
theorem sc_law_right : FnScope N_law_right P_law_right (defScope s_law_right) := ⟨rfl, rfl, rfl, by decide +kernel, rfl, by decide +kernel, by decide +kernel⟩
abbrev N_law : List Str := ["script", "at", "dice", "size", "kind"]
abbrev P_law : List Str := ["script"]
theorem sc_law : FnScope N_law P_law (defScope s_law) := ⟨rfl, rfl, rfl, by decide +kernel, rfl, by decide +kernel, by decide +kernel⟩
structure TxtW (w : World) (K : PySem.W.Frag) (mg : Str → Option Value) where
  f_is_integer : Addr
  d_is_integer : FuncData
  F_is_integer : Fun K "is_integer" "is_integer" s_is_integer f_is_integer d_is_integer
  b_is_integer : Binds K d_is_integer P_is_integer []
  m_is_integer : mg "is_integer" = some (.ref f_is_integer)
  f_is_between : Addr
  d_is_between : FuncData
  F_is_between : Fun K "is_between" "is_between" s_is_between f_is_between d_is_between
  b_is_between : Binds K d_is_between P_is_between []
  m_is_between : mg "is_between" = some (.ref f_is_between)
  f_is_index : Addr
  d_is_index : FuncData
  F_is_index : Fun K "is_index" "is_index" s_is_index f_is_index d_is_index
  b_is_index : Binds K d_is_index P_is_index []
  m_is_index : mg "is_index" = some (.ref f_is_index)
  f_is_pair : Addr
  d_is_pair : FuncData
  F_is_pair : Fun K "is_pair" "is_pair" s_is_pair f_is_pair d_is_pair
  b_is_pair : Binds K d_is_pair P_is_pair []
  m_is_pair : mg "is_pair" = some (.ref f_is_pair)
  f_is_tuple_of : Addr
  d_is_tuple_of : FuncData
  F_is_tuple_of : Fun K "is_tuple_of" "is_tuple_of" s_is_tuple_of f_is_tuple_of d_is_tuple_of
  b_is_tuple_of : Binds K d_is_tuple_of P_is_tuple_of []
  m_is_tuple_of : mg "is_tuple_of" = some (.ref f_is_tuple_of)
  f_check_number : Addr
  d_check_number : FuncData
  F_check_number : Fun K "check_number" "check_number" s_check_number f_check_number d_check_number
  b_check_number : Binds K d_check_number P_check_number []
  m_check_number : mg "check_number" = some (.ref f_check_number)
  f_check_word : Addr
  d_check_word : FuncData
  F_check_word : Fun K "check_word" "check_word" s_check_word f_check_word d_check_word
  b_check_word : Binds K d_check_word P_check_word []
  m_check_word : mg "check_word" = some (.ref f_check_word)
  f_check_size : Addr
  d_check_size : FuncData
  F_check_size : Fun K "check_size" "check_size" s_check_size f_check_size d_check_size
  b_check_size : Binds K d_check_size P_check_size []
  m_check_size : mg "check_size" = some (.ref f_check_size)
  f_steps_below : Addr
  d_steps_below : FuncData
  F_steps_below : Fun K "steps_below" "steps_below" s_steps_below f_steps_below d_steps_below
  b_steps_below : Binds K d_steps_below P_steps_below []
  m_steps_below : mg "steps_below" = some (.ref f_steps_below)
  f_add_join : Addr
  d_add_join : FuncData
  F_add_join : Fun K "add_join" "add_join" s_add_join f_add_join d_add_join
  b_add_join : Binds K d_add_join P_add_join []
  m_add_join : mg "add_join" = some (.ref f_add_join)
  f_join_row : Addr
  d_join_row : FuncData
  F_join_row : Fun K "join_row" "join_row" s_join_row f_join_row d_join_row
  b_join_row : Binds K d_join_row P_join_row []
  m_join_row : mg "join_row" = some (.ref f_join_row)
  f_join_halves : Addr
  d_join_halves : FuncData
  F_join_halves : Fun K "join_halves" "join_halves" s_join_halves f_join_halves d_join_halves
  b_join_halves : Binds K d_join_halves P_join_halves []
  m_join_halves : mg "join_halves" = some (.ref f_join_halves)
  f_join_doubling : Addr
  d_join_doubling : FuncData
  F_join_doubling : Fun K "join_doubling" "join_doubling" s_join_doubling f_join_doubling d_join_doubling
  b_join_doubling : Binds K d_join_doubling P_join_doubling []
  m_join_doubling : mg "join_doubling" = some (.ref f_join_doubling)
  f_join_ladder : Addr
  d_join_ladder : FuncData
  F_join_ladder : Fun K "join_ladder" "join_ladder" s_join_ladder f_join_ladder d_join_ladder
  b_join_ladder : Binds K d_join_ladder P_join_ladder []
  m_join_ladder : mg "join_ladder" = some (.ref f_join_ladder)
  f_plan_of : Addr
  d_plan_of : FuncData
  F_plan_of : Fun K "plan_of" "plan_of" s_plan_of f_plan_of d_plan_of
  b_plan_of : Binds K d_plan_of P_plan_of []
  m_plan_of : mg "plan_of" = some (.ref f_plan_of)
  f_is_join : Addr
  d_is_join : FuncData
  F_is_join : Fun K "is_join" "is_join" s_is_join f_is_join d_is_join
  b_is_join : Binds K d_is_join P_is_join []
  m_is_join : mg "is_join" = some (.ref f_is_join)
  f_is_plan : Addr
  d_is_plan : FuncData
  F_is_plan : Fun K "is_plan" "is_plan" s_is_plan f_is_plan d_is_plan
  b_is_plan : Binds K d_is_plan P_is_plan []
  m_is_plan : mg "is_plan" = some (.ref f_is_plan)
  f_check_plan : Addr
  d_check_plan : FuncData
  F_check_plan : Fun K "check_plan" "check_plan" s_check_plan f_check_plan d_check_plan
  b_check_plan : Binds K d_check_plan P_check_plan []
  m_check_plan : mg "check_plan" = some (.ref f_check_plan)
  f_rows_found : Addr
  d_rows_found : FuncData
  F_rows_found : Fun K "rows_found" "rows_found" s_rows_found f_rows_found d_rows_found
  b_rows_found : Binds K d_rows_found P_rows_found []
  m_rows_found : mg "rows_found" = some (.ref f_rows_found)
  f_row_of : Addr
  d_row_of : FuncData
  F_row_of : Fun K "row_of" "row_of" s_row_of f_row_of d_row_of
  b_row_of : Binds K d_row_of P_row_of []
  m_row_of : mg "row_of" = some (.ref f_row_of)
  f_plan_depth : Addr
  d_plan_depth : FuncData
  F_plan_depth : Fun K "plan_depth" "plan_depth" s_plan_depth f_plan_depth d_plan_depth
  b_plan_depth : Binds K d_plan_depth P_plan_depth []
  m_plan_depth : mg "plan_depth" = some (.ref f_plan_depth)
  f_carries_told : Addr
  d_carries_told : FuncData
  F_carries_told : Fun K "carries_told" "carries_told" s_carries_told f_carries_told d_carries_told
  b_carries_told : Binds K d_carries_told P_carries_told []
  m_carries_told : mg "carries_told" = some (.ref f_carries_told)
  f_carries_by : Addr
  d_carries_by : FuncData
  F_carries_by : Fun K "carries_by" "carries_by" s_carries_by f_carries_by d_carries_by
  b_carries_by : Binds K d_carries_by P_carries_by []
  m_carries_by : mg "carries_by" = some (.ref f_carries_by)
  f_paper_for : Addr
  d_paper_for : FuncData
  F_paper_for : Fun K "paper_for" "paper_for" s_paper_for f_paper_for d_paper_for
  b_paper_for : Binds K d_paper_for P_paper_for []
  m_paper_for : mg "paper_for" = some (.ref f_paper_for)
  f_plan_paper : Addr
  d_plan_paper : FuncData
  F_plan_paper : Fun K "plan_paper" "plan_paper" s_plan_paper f_plan_paper d_plan_paper
  b_plan_paper : Binds K d_plan_paper P_plan_paper []
  m_plan_paper : mg "plan_paper" = some (.ref f_plan_paper)
  f_law_dice : Addr
  d_law_dice : FuncData
  F_law_dice : Fun K "_law_dice" "_law_dice" s_law_dice f_law_dice d_law_dice
  b_law_dice : Binds K d_law_dice P_law_dice []
  m_law_dice : mg "_law_dice" = some (.ref f_law_dice)
  f_law_roll : Addr
  d_law_roll : FuncData
  F_law_roll : Fun K "_law_roll" "_law_roll" s_law_roll f_law_roll d_law_roll
  b_law_roll : Binds K d_law_roll P_law_roll []
  m_law_roll : mg "_law_roll" = some (.ref f_law_roll)
  f_law_two_to : Addr
  d_law_two_to : FuncData
  F_law_two_to : Fun K "_law_two_to" "_law_two_to" s_law_two_to f_law_two_to d_law_two_to
  b_law_two_to : Binds K d_law_two_to P_law_two_to []
  m_law_two_to : mg "_law_two_to" = some (.ref f_law_two_to)
  f_law_rounds : Addr
  d_law_rounds : FuncData
  F_law_rounds : Fun K "_law_rounds" "_law_rounds" s_law_rounds f_law_rounds d_law_rounds
  b_law_rounds : Binds K d_law_rounds P_law_rounds []
  m_law_rounds : mg "_law_rounds" = some (.ref f_law_rounds)
  f_law_plan : Addr
  d_law_plan : FuncData
  F_law_plan : Fun K "_law_plan" "_law_plan" s_law_plan f_law_plan d_law_plan
  b_law_plan : Binds K d_law_plan P_law_plan []
  m_law_plan : mg "_law_plan" = some (.ref f_law_plan)
  f_law_rows : Addr
  d_law_rows : FuncData
  F_law_rows : Fun K "_law_rows" "_law_rows" s_law_rows f_law_rows d_law_rows
  b_law_rows : Binds K d_law_rows P_law_rows []
  m_law_rows : mg "_law_rows" = some (.ref f_law_rows)
  f_law_true : Addr
  d_law_true : FuncData
  F_law_true : Fun K "_law_true" "_law_true" s_law_true f_law_true d_law_true
  b_law_true : Binds K d_law_true P_law_true []
  m_law_true : mg "_law_true" = some (.ref f_law_true)
  f_law_is_adder : Addr
  d_law_is_adder : FuncData
  F_law_is_adder : Fun K "_law_is_adder" "_law_is_adder" s_law_is_adder f_law_is_adder d_law_is_adder
  b_law_is_adder : Binds K d_law_is_adder P_law_is_adder []
  m_law_is_adder : mg "_law_is_adder" = some (.ref f_law_is_adder)
  f_law_depth : Addr
  d_law_depth : FuncData
  F_law_depth : Fun K "_law_depth" "_law_depth" s_law_depth f_law_depth d_law_depth
  b_law_depth : Binds K d_law_depth P_law_depth []
  m_law_depth : mg "_law_depth" = some (.ref f_law_depth)
  f_law_least_depth : Addr
  d_law_least_depth : FuncData
  F_law_least_depth : Fun K "_law_least_depth" "_law_least_depth" s_law_least_depth f_law_least_depth d_law_least_depth
  b_law_least_depth : Binds K d_law_least_depth P_law_least_depth []
  m_law_least_depth : mg "_law_least_depth" = some (.ref f_law_least_depth)
  f_law_right : Addr
  d_law_right : FuncData
  F_law_right : Fun K "_law_right" "_law_right" s_law_right f_law_right d_law_right
  b_law_right : Binds K d_law_right P_law_right []
  m_law_right : mg "_law_right" = some (.ref f_law_right)
  f_law : Addr
  d_law : FuncData
  F_law : Fun K "law" "law" s_law f_law d_law
  b_law : Binds K d_law P_law []
  m_law : mg "law" = some (.ref f_law)
  n_abs : mg "abs" = none
  n_all : mg "all" = none
  n_bool : mg "bool" = none
  n_enumerate : mg "enumerate" = none
  n_int : mg "int" = none
  n_isinstance : mg "isinstance" = none
  n_len : mg "len" = none
  n_list : mg "list" = none
  n_max : mg "max" = none
  n_min : mg "min" = none
  n_range : mg "range" = none
  n_str : mg "str" = none
  n_sum : mg "sum" = none
  n_tuple : mg "tuple" = none
  u_LEAST_TOO_LONG : Value
  c_LEAST_TOO_LONG : mg "LEAST_TOO_LONG" = some u_LEAST_TOO_LONG
  r_LEAST_TOO_LONG : RelV (.int 1000000000000000000000000000000000000000000000000000000000000) u_LEAST_TOO_LONG
  u_MAX_ADDED : Value
  c_MAX_ADDED : mg "MAX_ADDED" = some u_MAX_ADDED
  r_MAX_ADDED : RelV (.int 32) u_MAX_ADDED
  u_MAX_JOINS : Value
  c_MAX_JOINS : mg "MAX_JOINS" = some u_MAX_JOINS
  r_MAX_JOINS : RelV (.int 400) u_MAX_JOINS
  u_JOININGS : Addr
  c_JOININGS : mg "JOININGS" = some (.ref u_JOININGS)
  es_JOININGS : Array DictEntry
  en_JOININGS : Nat
  at_JOININGS : K.lookup u_JOININGS = some ⟨.type "dict", none, .dict es_JOININGS en_JOININGS, #[]⟩
  lit_JOININGS : PySem.W.KeysLit w.params es_JOININGS.toList
  low_JOININGS : (u_JOININGS == sysModules) = false
  it_JOININGS_row : PySem.W.nsIn K u_JOININGS "row" = some (some (.ref f_join_row))
  it_JOININGS_halves : PySem.W.nsIn K u_JOININGS "halves" = some (some (.ref f_join_halves))
  it_JOININGS_doubling : PySem.W.nsIn K u_JOININGS "doubling" = some (some (.ref f_join_doubling))
  it_JOININGS_ladder : PySem.W.nsIn K u_JOININGS "ladder" = some (some (.ref f_join_ladder))
section
variable {P : Program} {w : World} {K : PySem.W.Frag} {mg : Str → Option Value} {base : Heap}
def sp_is_integer (K : PySem.W.Frag) : Sp := fun vs H Q _ => ∃ v, vs = [v] ∧ Typd K H v ∧ Q (.bl (isI v)) H
set_option maxHeartbeats 4000000 in
theorem ok_is_integer (T : TxtW w K mg) : FnOk P w K mg base CX0 1 T.f_is_integer T.d_is_integer P_is_integer (sp_is_integer K) := by
  refine T.F_is_integer.ok sc_is_integer (fun vs H Q E h => ?_) (fun cdv A outer s H vs Q E hr h => ?_)
  · obtain ⟨v, rfl, _⟩ := h; rfl
  · obtain ⟨v, rfl, ⟨n, hn, ty⟩, q⟩ := h
    refine ⟨_, (pss_one (ps_ret (pe_and (pe_callB call_isi (by rfl) T.n_isinstance (by decide +kernel) (pa_cons (pv 0) (pa_cons (pe_bltn (v := .ty "int") (by rfl) T.n_int (by decide +kernel) rfl) pa_nil))) (pe_and (pe_not (pe_callB call_isi (by rfl) T.n_isinstance (by decide +kernel) (pa_cons (pv 0) (pa_cons (pe_bltn (v := .ty "bool") (by rfl) T.n_bool (by decide +kernel) rfl) pa_nil)))) (pe_one (pe_chain op_lt op_lt (pe_un un_neg (pe_glob (by rfl) T.c_LEAST_TOO_LONG T.r_LEAST_TOO_LONG)) (pv 0) (pe_glob (by rfl) T.c_LEAST_TOO_LONG T.r_LEAST_TOO_LONG))))))), ?_⟩
    walk_at "rd"
    by_cases e : n = "int"
    · subst e
      obtain ⟨i, rfl⟩ := int_of ty
      refine isi_to ty (b := true) (by decide +kernel) ⟨_, rfl, iteT (isi_to ty (b := false) (by decide +kernel) ⟨_, rfl, ?_⟩)⟩
      walk_at "rd"
      by_cases h1 : -1000000000000000000000000000000000000000000000000000000000000 < i
      · rw [if_pos h1]
        have e : isI (.int i) = decide (i < 1000000000000000000000000000000000000000000000000000000000000) := by
          show decide (-(10 ^ 60) < i ∧ i < 10 ^ 60) = _
          rw [decide_eq_decide]
          constructor
          · intro h; exact h.2
          · intro h; exact ⟨h1, h⟩
        rw [← e]; exact q
      · rw [if_neg h1]
        have e : isI (.int i) = false := by
          show decide (-(10 ^ 60) < i ∧ i < 10 ^ 60) = _
          rw [decide_eq_false_iff_not]
          intro h; exact h1 h.1
        rw [← e]; exact q
    · rw [isI_not ty e] at q
      by_cases e2 : n = "bool"
      · subst e2
        refine isi_to ty (b := true) (by decide +kernel) ⟨_, rfl, iteT (isi_to ty (b := true) (by decide +kernel) ⟨_, rfl, ?_⟩)⟩
        walk_at "rd"
        exact q
      · have : kitB n "int" = some false := by
          simp only [kinds, List.mem_cons, List.mem_nil_iff, or_false] at hn
          rcases hn with rfl | rfl | rfl | rfl | rfl | rfl | rfl
          · exact absurd rfl e
          · exact absurd rfl e2
          all_goals decide +kernel
        exact isi_to ty this ⟨_, rfl, iteF q⟩
def sp_is_between (K : PySem.W.Frag) : Sp := fun vs H Q _ => ∃ v lo hi, vs = [v, .int lo, .int hi] ∧ Typd K H v ∧ Q (.bl (btw v lo hi)) H
set_option maxHeartbeats 4000000 in
theorem ok_is_between (T : TxtW w K mg) : FnOk P w K mg base CX0 2 T.f_is_between T.d_is_between P_is_between (sp_is_between K) := by
  have G_is_integer := ok_is_integer (P := P) (w := w) (base := base) T
  refine T.F_is_between.ok sc_is_between (fun vs H Q E h => ?_) (fun cdv A outer s H vs Q E hr h => ?_)
  · obtain ⟨v, lo, hi, rfl, _⟩ := h; rfl
  · obtain ⟨v, lo, hi, rfl, ty, q⟩ := h
    refine ⟨_, (pss_one (ps_ret (pe_and (pe_call G_is_integer (hr.mono (by decide)) (by rfl) T.m_is_integer T.F_is_integer.kp T.b_is_integer .nil pass0 (pa_cons (pv 0) pa_nil)) (pe_one (pe_chain op_le op_le (pv 1) (pv 0) (pv 2)))))), ?_⟩
    walk_at "rd"
    refine ⟨v, rfl, ty, _, rfl, ?_⟩
    cases e : isI v with
    | false => rw [btw_not e] at q; exact iteF q
    | true =>
      refine iteT ?_
      cases v with
      | int i =>
        walk_at "rd"
        rw [btw_if e] at q
        by_cases h : lo ≤ i
        · rw [if_pos h] at *; exact q
        · rw [if_neg h] at *; exact q
      | _ => cases e
def sp_is_index (K : PySem.W.Frag) : Sp := fun vs H Q _ => ∃ (v : V) (m : Int), vs = [v, .int m] ∧ Typd K H v ∧ Q (.bl (btw v 0 (m - 1))) H
set_option maxHeartbeats 4000000 in
theorem ok_is_index (T : TxtW w K mg) : FnOk P w K mg base CX0 3 T.f_is_index T.d_is_index P_is_index (sp_is_index K) := by
  have G_is_between := ok_is_between (P := P) (w := w) (base := base) T
  refine T.F_is_index.ok sc_is_index (fun vs H Q E h => ?_) (fun cdv A outer s H vs Q E hr h => ?_)
  · obtain ⟨v, m, rfl, _⟩ := h; rfl
  · obtain ⟨v, m, rfl, ty, q⟩ := h
    refine ⟨_, (pss_one (ps_ret (pe_call G_is_between (hr.mono (by decide)) (by rfl) T.m_is_between T.F_is_between.kp T.b_is_between .nil pass0 (pa_cons (pv 0) (pa_cons pe_int (pa_cons (pe_op op_sub (pv 1) pe_int) pa_nil)))))), ?_⟩
    walk_at "rd"
    exact ⟨v, 0, _, rfl, ty, q⟩
def sp_is_pair (K : PySem.W.Frag) : Sp := fun vs H Q _ => ∃ (v : V) (o : Option (List V)), vs = [v] ∧ TO K H v o ∧ Q (.bl (pairB o)) H
set_option maxHeartbeats 4000000 in
theorem ok_is_pair (T : TxtW w K mg) : FnOk P w K mg base CX0 1 T.f_is_pair T.d_is_pair P_is_pair (sp_is_pair K) := by
  refine T.F_is_pair.ok sc_is_pair (fun vs H Q E h => ?_) (fun cdv A outer s H vs Q E hr h => ?_)
  · obtain ⟨v, o, rfl, _⟩ := h; rfl
  · obtain ⟨v, o, rfl, ho, q⟩ := h
    refine ⟨_, (pss_one (ps_ret (pe_and (pe_callB call_isi (by rfl) T.n_isinstance (by decide +kernel) (pa_cons (pv 0) (pa_cons (pe_bltn (v := .ty "tuple") (by rfl) T.n_tuple (by decide +kernel) rfl) pa_nil))) (pe_one (pe_cmpR op_eq (pe_callB call_len_seq (by rfl) T.n_len (by decide +kernel) (pa_cons (pv 0) pa_nil)) pe_int (nomark _)))))), ?_⟩
    walk_at "rd"
    cases o with
    | none =>
      obtain ⟨n, h1, h2, h3⟩ := ho
      exact isi_to h3 (kit_no h1 h2) ⟨_, rfl, iteF q⟩
    | some xs =>
      obtain ⟨a, rfl, ha⟩ := ho
      refine isi_to (tyT ha) (b := true) (by decide +kernel) ⟨_, rfl, iteT ?_⟩
      walk_at "rt"
      exact ⟨_, .inr ha, q⟩
def sp_is_tuple_of (K : PySem.W.Frag) : Sp := fun vs H Q _ => ∃ (v : V) (o : Option (List V)) (lo hi : Int), vs = [v, .int lo, .int hi] ∧ TO K H v o ∧ Q (.bl (tupB o lo hi)) H
set_option maxHeartbeats 4000000 in
theorem ok_is_tuple_of (T : TxtW w K mg) : FnOk P w K mg base CX0 1 T.f_is_tuple_of T.d_is_tuple_of P_is_tuple_of (sp_is_tuple_of K) := by
  refine T.F_is_tuple_of.ok sc_is_tuple_of (fun vs H Q E h => ?_) (fun cdv A outer s H vs Q E hr h => ?_)
  · obtain ⟨v, o, lo, hi, rfl, _⟩ := h; rfl
  · obtain ⟨v, o, lo, hi, rfl, ho, q⟩ := h
    refine ⟨_, (pss_one (ps_ret (pe_and (pe_callB call_isi (by rfl) T.n_isinstance (by decide +kernel) (pa_cons (pv 0) (pa_cons (pe_bltn (v := .ty "tuple") (by rfl) T.n_tuple (by decide +kernel) rfl) pa_nil))) (pe_one (pe_chain op_le op_le (pv 1) (pe_callB call_len_seq (by rfl) T.n_len (by decide +kernel) (pa_cons (pv 0) pa_nil)) (pv 2)))))), ?_⟩
    walk_at "rd"
    cases o with
    | none =>
      obtain ⟨n, h1, h2, h3⟩ := ho
      exact isi_to h3 (kit_no h1 h2) ⟨_, rfl, iteF q⟩
    | some xs =>
      obtain ⟨a, rfl, ha⟩ := ho
      refine isi_to (tyT ha) (b := true) (by decide +kernel) ⟨_, rfl, iteT ?_⟩
      walk_at "rt"
      refine ⟨_, .inr ha, ?_⟩
      have e : tupB (some xs) lo hi = decide (lo ≤ xs.length ∧ (xs.length : Int) ≤ hi) := rfl
      rw [e] at q
      by_cases h : lo ≤ xs.length
      · rw [if_pos h]
        simp only [h, true_and] at q; exact q
      · rw [if_neg h]
        simp only [h, false_and, decide_false] at q; exact q
/-- no exception: the number lies between the bounds -/
def sp_check_number (K : PySem.W.Frag) : Sp := fun vs H Q _ => ∃ v lo hi, vs = [v, .int lo, .int hi] ∧ Typd K H v ∧ btw v lo hi = true ∧ Q .non H
set_option maxHeartbeats 4000000 in
theorem ok_check_number (T : TxtW w K mg) : FnOk P w K mg base CX0 3 T.f_check_number T.d_check_number P_check_number (sp_check_number K) := by
  have G_is_between := ok_is_between (P := P) (w := w) (base := base) T
  refine T.F_check_number.ok sc_check_number (fun vs H Q E h => ?_) (fun cdv A outer s H vs Q E hr h => ?_)
  · obtain ⟨v, lo, hi, rfl, _⟩ := h; rfl
  · obtain ⟨v, lo, hi, rfl, ty, hb, q⟩ := h
    refine ⟨_, (pss_one (ps_if (pt_not (pt_val (pe_call G_is_between (hr.mono (by decide)) (by rfl) T.m_is_between T.F_is_between.kp T.b_is_between .nil pass0 (pa_cons (pv 0) (pa_cons (pv 1) (pa_cons (pv 2) pa_nil)))))) pss_never pss_nil)), ?_⟩
    walk_at "rd"
    refine ⟨v, lo, hi, rfl, ty, true, ?_, ?_⟩
    · rw [hb]
    · walk_at "rd"; exact q
def sp_check_word (K : PySem.W.Frag) : Sp := fun vs H Q _ => ∃ (n : Nat) (i : Int), vs = [.int n, .int i] ∧ n ≤ 64 ∧ 0 ≤ i ∧ i < 2 ^ n ∧ Q .non H
set_option maxHeartbeats 4000000 in
theorem ok_check_word (T : TxtW w K mg) : FnOk P w K mg base CX0 4 T.f_check_word T.d_check_word P_check_word (sp_check_word K) := by
  have G_check_number := ok_check_number (P := P) (w := w) (base := base) T
  refine T.F_check_word.ok sc_check_word (fun vs H Q E h => ?_) (fun cdv A outer s H vs Q E hr h => ?_)
  · obtain ⟨n, i, rfl, _⟩ := h; rfl
  · obtain ⟨n, i, rfl, h0, h1, h2, q⟩ := h
    refine ⟨_, (pss_one (ps_expr (pe_call G_check_number (hr.mono (by decide)) (by rfl) T.m_check_number T.F_check_number.kp T.b_check_number .nil pass0 (pa_cons (pv 1) (pa_cons pe_int (pa_cons (pe_op op_sub (pe_op op_shl pe_int (pv 0)) pe_int) pa_nil)))))), ?_⟩
    walk_at "rd"
    have h3 := pow64 h0
    exact ⟨(show CPow 1 n from ⟨by omega, by omega, by decide⟩), _, _, _, rfl, .int, btw_ok h1 (by omega) (by omega) (by omega), q⟩
def sp_check_size (K : PySem.W.Frag) : Sp := fun vs H Q _ => ∃ n : Nat, vs = [.int n] ∧ 1 ≤ n ∧ n ≤ 32 ∧ Q .non H
set_option maxHeartbeats 4000000 in
theorem ok_check_size (T : TxtW w K mg) : FnOk P w K mg base CX0 4 T.f_check_size T.d_check_size P_check_size (sp_check_size K) := by
  have G_check_number := ok_check_number (P := P) (w := w) (base := base) T
  refine T.F_check_size.ok sc_check_size (fun vs H Q E h => ?_) (fun cdv A outer s H vs Q E hr h => ?_)
  · obtain ⟨n, rfl, _⟩ := h; rfl
  · obtain ⟨n, rfl, h1, h2, q⟩ := h
    refine ⟨_, (pss_one (ps_expr (pe_call G_check_number (hr.mono (by decide)) (by rfl) T.m_check_number T.F_check_number.kp T.b_check_number .nil pass0 (pa_cons (pv 0) (pa_cons pe_int (pa_cons (pe_glob (by rfl) T.c_MAX_ADDED T.r_MAX_ADDED) pa_nil)))))), ?_⟩
    walk_at "rd"
    exact ⟨_, _, _, rfl, .int, btw_ok (by omega) (by omega) (by omega) (by omega), q⟩
def sp_steps_below (K : PySem.W.Frag) : Sp := fun vs H Q _ => ∃ (n : Nat), vs = [.int n] ∧ n ≤ 32 ∧ ∀ p H', Ex H H' → H p = none → LNat H' p (stepsB n) → Q (.ref p) H'
set_option maxHeartbeats 4000000 in
theorem ok_steps_below (T : TxtW w K mg) : FnOk P w K mg base CX0 1 T.f_steps_below T.d_steps_below P_steps_below (sp_steps_below K) := by
  refine T.F_steps_below.ok sc_steps_below (fun vs H Q E h => ?_) (fun cdv A outer s H vs Q E hr h => ?_)
  · obtain ⟨n, rfl, _⟩ := h; rfl
  · obtain ⟨n, rfl, hn, q⟩ := h
    refine ⟨_, (pss_one (ps_ret (pe_lc (own := [("bit", 1)]) (g := gName 1) (by rfl) sc_steps_below.nd (pi_range1 (by rfl) T.n_range (pa_cons pe_int pa_nil)) (blkOk_by (own := [("bit", 1)]) (N := N_steps_below) (sc := defScope s_steps_below) (by decide +kernel)) (fun _ _ _ _ _ => (pg_name (i := 1) sc_steps_below.nd rfl (by first | exact Or.inl rfl | exact Or.inr rfl))) (fun _ _ _ _ _ => pts_one (pt_cmpR op_lt (pe_op op_shl pe_int (pv 1)) (pv 0) (nomark _))) (fun _ _ _ _ _ => (pe_op op_shl pe_int (pv 1)))))), ?_⟩
    walk_at "go"
    intro D hD
    refine lc_go (n := 6) walk_range (fun b => decide (2 ^ b < n)) (fun b => vN (2 ^ b)) (by decide) hD (fun _ _ => trivial) ?_ ?_
    · rintro k x H' H2' hk e ⟨rfl, rfl⟩ Qe Qn qe qn
      have hp : ((2 : Int) ^ k) = ((2 ^ k : Nat) : Int) := by rw [Int.natCast_pow]; rfl
      walk_at "go"
      rw [Int.zero_add]
      have c1 : CPow 1 (k : Int) := cpow_ok (by decide) (by omega) (by omega)
      by_cases hc : 2 ^ k < n
      · rw [if_pos (by rw [Int.toNat_natCast, Int.one_mul, hp]; omega)]
        walk_at "go"
        have := qe _ (Ex.refl _) (decide_eq_true hc)
        rw [Int.one_mul, hp]
        exact this
      · rw [if_neg (by rw [Int.toNat_natCast, Int.one_mul, hp]; omega)]
        exact qn _ (Ex.refl _) (decide_eq_false hc)
    intro H1 e1 l1
    refine q D H1 e1 hD ?_
    show H1 D = some (.lst ((stepsB n).map vN))
    rw [l1]
    unfold kept stepsB
    rw [List.map_map]; rfl
def sp_add_join (K : PySem.W.Frag) : Sp := fun vs H Q _ => ∃ (J L : Addr) (s : JS) (p l : Nat), vs = [.ref J, .ref L, .int p, .int l] ∧ JnAt K H J s.1 ∧ LNat H L s.2 ∧ J ≠ L ∧ p < s.2.length ∧ s.1.length ≤ 1000 ∧ ∀ H', Ex2 J L H H' → JnAt K H' J (addJ s p l).1 → LNat H' L (addJ s p l).2 → Q .non H'
set_option maxHeartbeats 4000000 in
theorem ok_add_join (T : TxtW w K mg) : FnOk P w K mg base CX0 1 T.f_add_join T.d_add_join P_add_join (sp_add_join K) := by
  refine T.F_add_join.ok sc_add_join (fun vs H Q E h => ?_) (fun cdv A outer s H vs Q E hr h => ?_)
  · obtain ⟨J, L, s, p, l, rfl, _⟩ := h; rfl
  · obtain ⟨J, L, s, p, l, rfl, ⟨xs, hJ, hxs⟩, hL, hne, hp, hs, q⟩ := h
    refine ⟨_, (pss_cons (ps_expr (pe_bm PySem.F.plainAttrs_list PySem.F.slot_list_append PySem.F.type_list_append mt_append (pv 0) (pa_cons (pe_tup (pa_cons (pe_ix ix_list (pv 1) (pv 2) (fun _ _ => rfl)) (pa_cons (pv 3) pa_nil))) pa_nil)))
      (pss_one (ps_asg (pe_op op_sub (pe_op op_add (pe_callB call_len_seq (by rfl) T.n_len (by decide +kernel) (pa_cons (pv 1) pa_nil)) (pe_callB call_len_seq (by rfl) T.n_len (by decide +kernel) (pa_cons (pv 0) pa_nil))) pe_int) (pg_sub (pv 1) (pv 2) set_list)))), ?_⟩
    walk_at "go"
    refine ⟨.inl ⟨rfl, _, .of hJ⟩, ixM hL (atI_nat (lnat_at hp)) ?_⟩
    refine ⟨by decide, fun t ht => ?_⟩
    have hlen := Paired.len' hxs
    have e1 := ex_upd (o := .tup [vN (s.2.getD p 0), .int l]) ht
    have ut : upd H t (.tup [vN (s.2.getD p 0), .int l]) t = _ := upd_same
    generalize upd H t (.tup [vN (s.2.getD p 0), .int l]) = H1 at e1 ut ⊢
    have hJ1 := e1 _ _ hJ
    have hL1 : H1 L = _ := e1 _ _ hL
    have hxs1 : Paired (JnV K H1) xs s.1 := Paired.mapP hxs fun _ _ r => JnV.ex e1 r
    have htJ : t ≠ J := fun z => by rw [z, hJ1] at ut; cases ut
    refine ⟨J, _, _, rfl, rfl, hJ1, by rw [sizeLine_eq]; omega, ?_⟩
    have hJ2 : upd H1 J (.lst (xs ++ [.ref t])) J = _ := upd_same
    have hL2 : upd H1 J (.lst (xs ++ [.ref t])) L = some (.lst (s.2.map vN)) := by rw [upd_ne hne.symm]; exact hL1
    have g2 : Ex2 J L H (upd H1 J (.lst (xs ++ [.ref t]))) := fun b o n1 n2 h => by rw [upd_ne n1]; exact e1 _ _ h
    have hxs2 : Paired (JnV K (upd H1 J (.lst (xs ++ [.ref t])))) (xs ++ [.ref t]) (s.1 ++ [(s.2.getD p 0, l)]) := Paired.app' (Paired.mapP hxs1 fun _ _ r => JnV.mut hJ1 r) ⟨t, rfl, .of (by rw [upd_ne htJ]; exact ut)⟩
    generalize upd H1 J (.lst (xs ++ [.ref t])) = H2 at hJ2 hL2 g2 hxs2 ⊢
    refine ⟨_, .inl (.of hL2), _, .inl (.of hJ2), setL hL2 (j := p) (by rw [List.length_map]; exact Evl.ixN_nat hp) ?_⟩
    have ev : (((s.2.map vN).length : Int) + ((xs ++ [V.ref t]).length : Int) - 1) = ((s.2.length + s.1.length : Nat) : Int) := by
      rw [List.length_map, List.length_append, List.length_singleton]; omega
    rw [ev]
    refine q _ (g2.trans fun b o n1 n2 h => by rw [upd_ne n2]; exact h) ⟨_, by rw [upd_ne hne]; exact hJ2, Paired.mapP hxs2 fun _ _ r => JnV.mut hL2 r⟩ ?_
    show upd H2 L _ L = some (.lst ((s.2.set p (s.2.length + s.1.length)).map vN))
    rw [upd_same, List.map_set]
def sp_join_row (K : PySem.W.Frag) : Sp := sp_joins K .row
set_option maxHeartbeats 4000000 in
theorem ok_join_row (T : TxtW w K mg) : FnOk P w K mg base CX0 2 T.f_join_row T.d_join_row P_join_row (sp_join_row K) := by
  have G_add_join := ok_add_join (P := P) (w := w) (base := base) T
  refine T.F_join_row.ok sc_join_row (fun vs H Q E h => ?_) (fun cdv A outer s H vs Q E hr h => ?_)
  · obtain ⟨J, L, n, rfl, _⟩ := h; rfl
  · obtain ⟨J, L, n, rfl, h1, h2, hJ, hL, hne, q⟩ := h
    refine ⟨_, (pss_one (ps_for PassesOwn.never rfl (pi_range2 (by rfl) T.n_range (pa_cons pe_int (pa_cons (pe_callB call_len_seq (by rfl) T.n_len (by decide +kernel) (pa_cons (pv 1) pa_nil)) pa_nil))) (pg_name (i := 2) sc_join_row.nd rfl (Or.inl rfl)) (pss_one (ps_expr (pe_call G_add_join (hr.mono (by decide)) (by rfl) T.m_add_join T.F_add_join.kp T.b_add_join .nil pass0 (pa_cons (pv 0) (pa_cons (pv 1) (pa_cons (pv 2) (pa_cons (pe_ix ix_list (pv 1) (pe_op op_sub (pv 2) pe_int) (fun _ _ => rfl)) pa_nil))))))))), ?_⟩
    walk_at "rs"
    refine ⟨_, .inl (.of hL), by decide, by decide, by rw [List.length_map, List.length_range]; omega, by rw [List.length_map, List.length_range]; omega, ?_⟩
    have en : (((List.map vN (List.range n)).length : Int) - 1).toNat = n - 1 := by rw [List.length_map, List.length_range]; omega
    rw [en]
    refine lpR2 1 (n - 1) (fun i σ H' => Ex2 J L H H' ∧ JnAt K H' J (rngF rowF 1 1 i ([], List.range n)).1 ∧ LNat H' L (rngF rowF 1 1 i ([], List.range n)).2 ∧ ∃ t2, σ = [some (.ref J), some (.ref L), t2]) ⟨Ex2.refl _, JnAt.nil hJ, hL, none, rfl⟩ ?_ ?_
    · rintro i σ H2 hi ⟨e2, a, b, t2, rfl⟩
      obtain ⟨l1, l2⟩ := rngF_len rowF (fun s a => addJ_le _ _ _) 1 1 i ([], List.range n)
      rw [List.length_range] at l2
      rw [List.length_nil] at l1
      have sd : rngF rowF 1 1 (i + 1) ([], List.range n) = addJ (rngF rowF 1 1 i ([], List.range n)) (1 + i) ((rngF rowF 1 1 i ([], List.range n)).2.getD i 0) := by
        rw [rngF_succ, Nat.mul_one]
        show addJ _ (1 + i) (_ : Nat) = _
        rw [Nat.add_sub_cancel_left]
      rw [sd]
      generalize rngF rowF 1 1 i ([], List.range n) = s0 at *
      walk_at "rs"
      have e1 : (1 + (i : Int)) - 1 = (i : Int) := by omega
      rw [e1]
      refine ixM b (atI_nat (lnat_at (by omega))) ?_
      refine ⟨J, L, s0, 1 + i, s0.2.getD i 0, ?_, a, b, hne, by omega, by omega, fun H3 g a3 b3 => ?_⟩
      · have : (1 + (i : Int)) = ((1 + i : Nat) : Int) := by omega
        rw [this]
      · exact ⟨e2.trans g, a3, b3⟩
    · rintro σ H2 ⟨e2, a, b, t2, rfl⟩
      exact q _ e2 a b
def sp_join_halves (K : PySem.W.Frag) : Sp := sp_joins K .halves
set_option maxHeartbeats 4000000 in
theorem ok_join_halves (T : TxtW w K mg) : FnOk P w K mg base CX0 2 T.f_join_halves T.d_join_halves P_join_halves (sp_join_halves K) := by
  have G_steps_below := ok_steps_below (P := P) (w := w) (base := base) T
  have G_add_join := ok_add_join (P := P) (w := w) (base := base) T
  refine T.F_join_halves.ok sc_join_halves (fun vs H Q E h => ?_) (fun cdv A outer s H vs Q E hr h => ?_)
  · obtain ⟨J, L, n, rfl, _⟩ := h; rfl
  · obtain ⟨J, L, n, rfl, h1, h2, hJ, hL, hne, q⟩ := h
    refine ⟨_, (pss_one (ps_for PassesOwn.never rfl (pi_list (pe_call G_steps_below (hr.mono (by decide)) (by rfl) T.m_steps_below T.F_steps_below.kp T.b_steps_below .nil pass0 (pa_cons (pe_callB call_len_seq (by rfl) T.n_len (by decide +kernel) (pa_cons (pv 1) pa_nil)) pa_nil))) (pg_name (i := 2) sc_join_halves.nd rfl (Or.inl rfl)) (pss_one (ps_for PassesOwn.never rfl (pi_range1 (by rfl) T.n_range (pa_cons (pe_callB call_len_seq (by rfl) T.n_len (by decide +kernel) (pa_cons (pv 1) pa_nil)) pa_nil)) (pg_name (i := 3) sc_join_halves.nd rfl (Or.inl rfl)) (pss_one (ps_if (pt_cmpR op_eq (pe_op op_mod (pe_op op_fdivW (pv 3) (pv 2)) pe_int) pe_int (nomark _)) (pss_one (ps_expr (pe_call G_add_join (hr.mono (by decide)) (by rfl) T.m_add_join T.F_add_join.kp T.b_add_join .nil pass0 (pa_cons (pv 0) (pa_cons (pv 1) (pa_cons (pv 3) (pa_cons (pe_ix ix_list (pv 1) (pe_op op_sub (pe_op op_mulA (pe_op op_fdivW (pv 3) (pv 2)) (pv 2)) pe_int) (fun _ _ => rfl)) pa_nil))))))) pss_nil)))))), ?_⟩
    walk_at "rs"
    refine ⟨_, .inl (.of hL), n, by rw [List.length_map, List.length_range], h2, fun S H1 e1 hS lS => ?_⟩
    have hJ1 := e1 _ _ hJ
    have hL1 : LNat H1 L (List.range n) := e1 _ _ hL
    have nSJ : S ≠ J := fun z => by rw [z, hJ] at hS; cases hS
    have nSL : S ≠ L := fun z => by rw [z, hL] at hS; cases hS
    let f : JS → Nat → JS := fun s step => rngF (halfF step) 0 1 n s
    have hf : ∀ s a, (f s a).1.length ≤ s.1.length + 32 ∧ (f s a).2.length = s.2.length := fun s a => by
      obtain ⟨p1, p2⟩ := rngF_len (halfF a) (halfF_le a) 0 1 n s
      exact ⟨by show (rngF (halfF a) 0 1 n s).1.length ≤ _; omega, p2⟩
    refine ⟨S, rfl, ⟨_, .of lS⟩, lpL (xs := (stepsB n).map vN) (fun t σ H' => Ex2 J L H H' ∧ H' S = some (.lst ((stepsB n).map vN)) ∧ JnAt K H' J (((stepsB n).take t).foldl f ([], List.range n)).1 ∧ LNat H' L (((stepsB n).take t).foldl f ([], List.range n)).2 ∧ ∃ t2 t3, σ = [some (.ref J), some (.ref L), t2, t3]) ⟨.of e1, lS, JnAt.nil hJ1, hL1, none, none, rfl⟩ (fun i σ' H' _ h => .of h.2.1) ?_ ?_⟩
    · rintro t x σ H2 hx ⟨e2, u2, a2, b2, t2, t3, rfl⟩
      obtain ⟨d, hd, rfl⟩ := nat_at hx
      obtain ⟨d1, d2⟩ := steps_at hd
      rw [foldl_take f _ hd]
      obtain ⟨l1, l2⟩ := steps_fold n f hf (stepsB n) (steps_len n) ([], List.range n) t
      rw [List.length_range] at l2
      rw [List.length_nil] at l1
      generalize ((stepsB n).take t).foldl f ([], List.range n) = s0 at *
      walk_at "rs"
      refine ⟨_, .inl (.of b2), by rw [List.length_map]; omega, by rw [List.length_map]; omega, ?_⟩
      have en : (List.map vN s0.2).length = n := by rw [List.length_map]; omega
      rw [en]
      refine lpR n (fun i σ H' => Ex2 J L H H' ∧ H' S = some (.lst ((stepsB n).map vN)) ∧ JnAt K H' J (rngF (halfF d) 0 1 i s0).1 ∧ LNat H' L (rngF (halfF d) 0 1 i s0).2 ∧ ∃ t3, σ = [some (.ref J), some (.ref L), some (vN d), t3]) ⟨e2, u2, a2, b2, t3, rfl⟩ ?_ ?_
      · rintro i σ H4 hi ⟨e4, u4, a4, b4, t4, rfl⟩
        obtain ⟨m1, m2⟩ := rngF_len (halfF d) (halfF_le d) 0 1 i s0
        have sd : rngF (halfF d) 0 1 (i + 1) s0 = halfF d (rngF (halfF d) 0 1 i s0) i := by
          rw [rngF_succ, Nat.mul_one, Nat.zero_add]
        rw [sd]
        generalize rngF (halfF d) 0 1 i s0 = s4 at *
        walk_at "rs"
        have cd : CDivW (i : Int) (d : Int) := divw 6 (by omega) (by omega)
        have eq : (i : Int) / (d : Int) = ((i / d : Nat) : Int) := (Int.natCast_ediv i d).symm
        refine ⟨cd, by decide, ?_⟩
        rw [eq]
        unfold halfF
        by_cases hc : i / d % 2 = 1
        · rw [if_pos (show ((i / d : Nat) : Int) % 2 = 1 by omega)]
          simp only [if_pos hc]
          have g1 : 1 ≤ i / d * d := Nat.mul_pos (by rcases Nat.eq_zero_or_pos (i / d) with h | h; (rw [h] at hc; cases hc); exact h) d1
          have g2 : i / d * d ≤ i := Nat.div_mul_le_self i d
          have g3 : ((i / d : Nat) : Int) * (d : Int) - 1 = ((i / d * d - 1 : Nat) : Int) := by rw [← Int.natCast_mul]; omega
          rw [g3]
          refine ⟨divw 6 (by omega) (by omega), mulR (by omega), ixM b4 (atI_nat (lnat_at (by omega))) ?_⟩
          refine ⟨J, L, s4, i, s4.2.getD (i / d * d - 1) 0, rfl, a4, b4, hne, by omega, by omega, fun H5 g a5 b5 => ?_⟩
          exact ⟨e4.trans g, g _ _ nSJ nSL u4, a5, b5⟩
        · rw [if_neg (show ¬ ((i / d : Nat) : Int) % 2 = 1 by omega)]
          simp only [if_neg hc]
          exact ⟨e4, u4, a4, b4⟩
      · rintro σ H4 ⟨e4, u4, a4, b4, t4, rfl⟩
        exact ⟨e4, u4, a4, b4, _, _, rfl⟩
    · rintro σ H2 ⟨e2, u2, a2, b2, t2, t3, rfl⟩
      rw [List.length_map, List.take_length] at a2 b2
      exact q _ e2 a2 b2
def sp_join_doubling (K : PySem.W.Frag) : Sp := sp_joins K .doubling
set_option maxHeartbeats 4000000 in
theorem ok_join_doubling (T : TxtW w K mg) : FnOk P w K mg base CX0 2 T.f_join_doubling T.d_join_doubling P_join_doubling (sp_join_doubling K) := by
  have G_steps_below := ok_steps_below (P := P) (w := w) (base := base) T
  have G_add_join := ok_add_join (P := P) (w := w) (base := base) T
  refine T.F_join_doubling.ok sc_join_doubling (fun vs H Q E h => ?_) (fun cdv A outer s H vs Q E hr h => ?_)
  · obtain ⟨J, L, n, rfl, _⟩ := h; rfl
  · obtain ⟨J, L, n, rfl, h1, h2, hJ, hL, hne, q⟩ := h
    refine ⟨_, (pss_one (ps_for PassesOwn.never rfl (pi_list (pe_call G_steps_below (hr.mono (by decide)) (by rfl) T.m_steps_below T.F_steps_below.kp T.b_steps_below .nil pass0 (pa_cons (pe_callB call_len_seq (by rfl) T.n_len (by decide +kernel) (pa_cons (pv 1) pa_nil)) pa_nil))) (pg_name (i := 2) sc_join_doubling.nd rfl (Or.inl rfl)) (pss_cons (ps_set (i := 3) sc_join_doubling.nd rfl (Or.inl rfl) (pe_callTy call_list_of (by rfl) T.n_list (by decide +kernel) (pa_cons (pv 1) pa_nil)))
      (pss_one (ps_for PassesOwn.never rfl (pi_range2 (by rfl) T.n_range (pa_cons (pv 2) (pa_cons (pe_callB call_len_seq (by rfl) T.n_len (by decide +kernel) (pa_cons (pv 1) pa_nil)) pa_nil))) (pg_name (i := 4) sc_join_doubling.nd rfl (Or.inl rfl)) (pss_one (ps_expr (pe_call G_add_join (hr.mono (by decide)) (by rfl) T.m_add_join T.F_add_join.kp T.b_add_join .nil pass0 (pa_cons (pv 0) (pa_cons (pv 1) (pa_cons (pv 4) (pa_cons (pe_ix ix_list (pv 3) (pe_op op_sub (pv 4) (pv 2)) (fun _ _ => rfl)) pa_nil)))))))))))), ?_⟩
    walk_at "rs"
    refine ⟨_, .inl (.of hL), n, by rw [List.length_map, List.length_range], h2, fun S H1 e1 hS lS => ?_⟩
    have hJ1 := e1 _ _ hJ
    have hL1 : LNat H1 L (List.range n) := e1 _ _ hL
    have nSJ : S ≠ J := fun z => by rw [z, hJ] at hS; cases hS
    have nSL : S ≠ L := fun z => by rw [z, hL] at hS; cases hS
    let f : JS → Nat → JS := fun s step => rngF (dblF s.2 step) step 1 (n - step) s
    have hf : ∀ s a, (f s a).1.length ≤ s.1.length + 32 ∧ (f s a).2.length = s.2.length := fun s a => by
      obtain ⟨p1, p2⟩ := rngF_len (dblF s.2 a) (fun s a => addJ_le _ _ _) a 1 (n - a) s
      exact ⟨by show (rngF (dblF s.2 a) a 1 (n - a) s).1.length ≤ _; omega, p2⟩
    refine ⟨S, rfl, ⟨_, .of lS⟩, lpL (xs := (stepsB n).map vN) (fun t σ H' => Ex2 J L H H' ∧ H' S = some (.lst ((stepsB n).map vN)) ∧ JnAt K H' J (((stepsB n).take t).foldl f ([], List.range n)).1 ∧ LNat H' L (((stepsB n).take t).foldl f ([], List.range n)).2 ∧ ∃ t2 t3 t4, σ = [some (.ref J), some (.ref L), t2, t3, t4]) ⟨.of e1, lS, JnAt.nil hJ1, hL1, none, none, none, rfl⟩ (fun i σ' H' _ h => .of h.2.1) ?_ ?_⟩
    · rintro t x σ H2 hx ⟨e2, u2, a2, b2, t2, t3, t4, rfl⟩
      obtain ⟨d, hd, rfl⟩ := nat_at hx
      obtain ⟨d1, d2⟩ := steps_at hd
      rw [foldl_take f _ hd]
      obtain ⟨l1, l2⟩ := steps_fold n f hf (stepsB n) (steps_len n) ([], List.range n) t
      rw [List.length_range] at l2
      rw [List.length_nil] at l1
      generalize ((stepsB n).take t).foldl f ([], List.range n) = s0 at *
      walk_at "rs"
      refine ⟨_, .inl (.of b2), fun A hA => ?_⟩
      have e3 := ex_upd (o := .lst (s0.2.map vN)) hA
      have uA : upd H2 A (.lst (s0.2.map vN)) A = _ := upd_same
      generalize upd H2 A (.lst (s0.2.map vN)) = H3 at e3 uA ⊢
      have a3 := JnAt.ex e3 a2
      have b3 : LNat H3 L s0.2 := e3 _ _ b2
      obtain ⟨ys, a2', _⟩ := a2
      have nAJ : A ≠ J := fun z => by rw [z, a2'] at hA; cases hA
      have nAL : A ≠ L := fun z => by rw [z, b2] at hA; cases hA
      have u3 := e3 _ _ u2
      walk_at "rs"
      refine ⟨_, .inl (.of b3), by omega, by omega, by omega, by rw [List.length_map]; omega, ?_⟩
      have en : (((List.map vN s0.2).length : Int) - (d : Int)).toNat = n - d := by rw [List.length_map]; omega
      rw [en]
      refine lpR2 d (n - d) (fun i σ H' => Ex2 J L H H' ∧ H' S = some (.lst ((stepsB n).map vN)) ∧ H' A = some (.lst (s0.2.map vN)) ∧ JnAt K H' J (rngF (dblF s0.2 d) d 1 i s0).1 ∧ LNat H' L (rngF (dblF s0.2 d) d 1 i s0).2 ∧ ∃ t4, σ = [some (.ref J), some (.ref L), some (vN d), some (.ref A), t4]) ⟨e2.trans (.of e3), u3, uA, a3, b3, t4, rfl⟩ ?_ ?_
      · rintro i σ H4 hi ⟨e4, u4, uA4, a4, b4, t4, rfl⟩
        obtain ⟨m1, m2⟩ := rngF_len (dblF s0.2 d) (fun s a => addJ_le _ _ _) d 1 i s0
        have sd : rngF (dblF s0.2 d) d 1 (i + 1) s0 = addJ (rngF (dblF s0.2 d) d 1 i s0) (d + i) (s0.2.getD i 0) := by
          rw [rngF_succ, Nat.mul_one]
          show addJ _ (d + i) (_ : Nat) = _
          rw [Nat.add_sub_cancel_left]
        rw [sd]
        generalize rngF (dblF s0.2 d) d 1 i s0 = s4 at *
        walk_at "rs"
        have e1 : ((d : Int) + (i : Int)) - (d : Int) = (i : Int) := by omega
        rw [e1]
        refine ixM uA4 (atI_nat (lnat_at (by omega))) ?_
        refine ⟨J, L, s4, d + i, s0.2.getD i 0, ?_, a4, b4, hne, by omega, by omega, fun H5 g a5 b5 => ?_⟩
        · have : ((d : Int) + (i : Int)) = ((d + i : Nat) : Int) := by omega
          rw [this]
        · exact ⟨e4.trans g, g _ _ nSJ nSL u4, g _ _ nAJ nAL uA4, a5, b5⟩
      · rintro σ H4 ⟨e4, u4, uA4, a4, b4, t4, rfl⟩
        exact ⟨e4, u4, a4, b4, _, _, _, rfl⟩
    · rintro σ H2 ⟨e2, u2, a2, b2, t2, t3, t4, rfl⟩
      rw [List.length_map, List.take_length] at a2 b2
      exact q _ e2 a2 b2
def sp_join_ladder (K : PySem.W.Frag) : Sp := sp_joins K .ladder
set_option maxHeartbeats 4000000 in
theorem ok_join_ladder (T : TxtW w K mg) : FnOk P w K mg base CX0 2 T.f_join_ladder T.d_join_ladder P_join_ladder (sp_join_ladder K) := by
  have G_steps_below := ok_steps_below (P := P) (w := w) (base := base) T
  have G_add_join := ok_add_join (P := P) (w := w) (base := base) T
  refine T.F_join_ladder.ok sc_join_ladder (fun vs H Q E h => ?_) (fun cdv A outer s H vs Q E hr h => ?_)
  · obtain ⟨J, L, n, rfl, _⟩ := h; rfl
  · obtain ⟨J, L, n, rfl, h1, h2, hJ, hL, hne, q⟩ := h
    refine ⟨_, (pss_cons (ps_set (i := 2) sc_join_ladder.nd rfl (Or.inl rfl) (pe_call G_steps_below (hr.mono (by decide)) (by rfl) T.m_steps_below T.F_steps_below.kp T.b_steps_below .nil pass0 (pa_cons (pe_callB call_len_seq (by rfl) T.n_len (by decide +kernel) (pa_cons (pv 1) pa_nil)) pa_nil)))
      (pss_cons (ps_for PassesOwn.never rfl (pi_list (pv 2)) (pg_name (i := 3) sc_join_ladder.nd rfl (Or.inl rfl)) (pss_one (ps_for PassesOwn.never rfl (pi_range3 (by rfl) T.n_range (pa_cons (pe_op op_sub (pe_op op_mulA pe_int (pv 3)) pe_int) (pa_cons (pe_callB call_len_seq (by rfl) T.n_len (by decide +kernel) (pa_cons (pv 1) pa_nil)) (pa_cons (pe_op op_mulA pe_int (pv 3)) pa_nil)))) (pg_name (i := 4) sc_join_ladder.nd rfl (Or.inl rfl)) (pss_one (ps_expr (pe_call G_add_join (hr.mono (by decide)) (by rfl) T.m_add_join T.F_add_join.kp T.b_add_join .nil pass0 (pa_cons (pv 0) (pa_cons (pv 1) (pa_cons (pv 4) (pa_cons (pe_ix ix_list (pv 1) (pe_op op_sub (pv 4) (pv 3)) (fun _ _ => rfl)) pa_nil))))))))))
      (pss_one (ps_for PassesOwn.never rfl (pi_list (pe_revL (pv 2))) (pg_name (i := 3) sc_join_ladder.nd rfl (Or.inl rfl)) (pss_one (ps_for PassesOwn.never rfl (pi_range3 (by rfl) T.n_range (pa_cons (pe_op op_sub (pe_op op_mulA pe_int (pv 3)) pe_int) (pa_cons (pe_callB call_len_seq (by rfl) T.n_len (by decide +kernel) (pa_cons (pv 1) pa_nil)) (pa_cons (pe_op op_mulA pe_int (pv 3)) pa_nil)))) (pg_name (i := 4) sc_join_ladder.nd rfl (Or.inl rfl)) (pss_one (ps_expr (pe_call G_add_join (hr.mono (by decide)) (by rfl) T.m_add_join T.F_add_join.kp T.b_add_join .nil pass0 (pa_cons (pv 0) (pa_cons (pv 1) (pa_cons (pv 4) (pa_cons (pe_ix ix_list (pv 1) (pe_op op_sub (pv 4) (pv 3)) (fun _ _ => rfl)) pa_nil))))))))))))), ?_⟩
    walk_at "rs"
    refine ⟨_, .inl (.of hL), n, by rw [List.length_map, List.length_range], h2, fun S H1 e1 hS lS => ?_⟩
    have hJ1 := e1 _ _ hJ
    have hL1 : LNat H1 L (List.range n) := e1 _ _ hL
    have nSJ : S ≠ J := fun z => by rw [z, hJ] at hS; cases hS
    have nSL : S ≠ L := fun z => by rw [z, hL] at hS; cases hS
    have hup : ∀ s a, (upF n s a).1.length ≤ s.1.length + 32 ∧ (upF n s a).2.length = s.2.length := fun s a => upF_le h2 s a
    have hdn : ∀ s a, (downF n s a).1.length ≤ s.1.length + 32 ∧ (downF n s a).2.length = s.2.length := fun s a => downF_le h2 s a
    walk_at "rs"
    refine ⟨⟨_, .of lS⟩, lpL (xs := (stepsB n).map vN) (fun t σ H' => Ex2 J L H H' ∧ H' S = some (.lst ((stepsB n).map vN)) ∧ JnAt K H' J (((stepsB n).take t).foldl (upF n) ([], List.range n)).1 ∧ LNat H' L (((stepsB n).take t).foldl (upF n) ([], List.range n)).2 ∧ ∃ t3 t4, σ = [some (.ref J), some (.ref L), some (.ref S), t3, t4]) ⟨.of e1, lS, JnAt.nil hJ1, hL1, none, none, rfl⟩ (fun i σ' H' _ h => .of h.2.1) ?_ ?_⟩
    · rintro t x σ H2 hx ⟨e2, u2, a2, b2, t3, t4, rfl⟩
      obtain ⟨d, hd, rfl⟩ := nat_at hx
      obtain ⟨d1, d2⟩ := steps_at hd
      rw [foldl_take (upF n) _ hd]
      obtain ⟨l1, l2⟩ := steps_fold n (upF n) hup (stepsB n) (steps_len n) ([], List.range n) t
      rw [List.length_range] at l2
      rw [List.length_nil] at l1
      generalize ((stepsB n).take t).foldl (upF n) ([], List.range n) = s0 at *
      walk_at "rs"
      unfold iRng3
      walk_at "rs"
      have en : (List.map vN s0.2).length = n := by rw [List.length_map]; omega
      have c1 : 2 * (d : Int) - 1 = ((2 * d - 1 : Nat) : Int) := by omega
      have c2 : 2 * (d : Int) = ((2 * d : Nat) : Int) := by omega
      rw [c1, c2]
      refine ⟨mulL (by decide), _, .inl (.of b2), mulL (by decide), turns (2 * d - 1) n (2 * d), ?_, ?_⟩
      · rw [en]; exact rgUp h2 d1 d2
      refine lpC _ _ _ (fun i σ H' => Ex2 J L H H' ∧ H' S = some (.lst ((stepsB n).map vN)) ∧ JnAt K H' J (rngF (ladF d) (2 * d - 1) (2 * d) i s0).1 ∧ LNat H' L (rngF (ladF d) (2 * d - 1) (2 * d) i s0).2 ∧ ∃ t4, σ = [some (.ref J), some (.ref L), some (.ref S), some (vN d), t4]) ⟨e2, u2, a2, b2, t4, rfl⟩ ?_ ?_
      · rintro i σ H4 hi ⟨e4, u4, a4, b4, t4, rfl⟩
        obtain ⟨m1, m2⟩ := rngF_len (ladF d) (ladF_le d) (2 * d - 1) (2 * d) i s0
        have hlt := turns_lt (by omega) hi
        have sd : rngF (ladF d) (2 * d - 1) (2 * d) (i + 1) s0 = addJ (rngF (ladF d) (2 * d - 1) (2 * d) i s0) (2 * d - 1 + i * (2 * d)) ((rngF (ladF d) (2 * d - 1) (2 * d) i s0).2.getD (2 * d - 1 + i * (2 * d) - d) 0) := by
          rw [rngF_succ]; rfl
        have hi2 := turns_le (lo := 2 * d - 1) (c := 2 * d) h2
        rw [sd]
        generalize rngF (ladF d) (2 * d - 1) (2 * d) i s0 = s4 at *
        walk_at "rs"
        have ci : (((2 * d - 1 : Nat) : Int) + (i : Int) * ((2 * d : Nat) : Int)) = ((2 * d - 1 + i * (2 * d) : Nat) : Int) := by rw [Int.natCast_add, Int.natCast_mul i (2 * d)]
        rw [ci]
        have hge : 2 * d - 1 ≤ 2 * d - 1 + i * (2 * d) := Nat.le_add_right _ _
        generalize 2 * d - 1 + i * (2 * d) = P at *
        have cp : (P : Int) - (d : Int) = ((P - d : Nat) : Int) := by omega
        rw [cp]
        refine ixM b4 (atI_nat (lnat_at (by omega))) ?_
        refine ⟨J, L, s4, P, s4.2.getD (P - d) 0, rfl, a4, b4, hne, by omega, by omega, fun H5 g a5 b5 => ?_⟩
        exact ⟨e4.trans g, g _ _ nSJ nSL u4, a5, b5⟩
      · rintro σ H4 ⟨e4, u4, a4, b4, t4, rfl⟩
        exact ⟨e4, u4, a4, b4, _, _, rfl⟩
    · rintro σ H2 ⟨e2, u2, a2, b2, t3, t4, rfl⟩
      rw [List.length_map, List.take_length] at a2 b2
      obtain ⟨l1, l2⟩ := steps_fold n (upF n) hup (stepsB n) (steps_len n) ([], List.range n) (stepsB n).length
      rw [List.take_length, List.length_range] at l2
      rw [List.take_length, List.length_nil] at l1
      have pk : pkgM .ladder n = (stepsB n).reverse.foldl (downF n) ((stepsB n).foldl (upF n) ([], List.range n)) := rfl
      rw [pk] at q
      generalize (stepsB n).foldl (upF n) ([], List.range n) = s0 at *
      walk_at "rs"
      refine ⟨_, .of u2, fun R hR => ?_⟩
      have e3 := ex_upd (o := .lst (List.map vN (stepsB n)).reverse) hR
      have uR : upd H2 R (.lst (List.map vN (stepsB n)).reverse) R = _ := upd_same
      generalize upd H2 R (.lst (List.map vN (stepsB n)).reverse) = H3 at e3 uR ⊢
      rw [← List.map_reverse] at uR
      have a3 := JnAt.ex e3 a2
      have b3 : LNat H3 L s0.2 := e3 _ _ b2
      obtain ⟨ys, a2', _⟩ := a2
      have nRJ : R ≠ J := fun z => by rw [z, a2'] at hR; cases hR
      have nRL : R ≠ L := fun z => by rw [z, b2] at hR; cases hR
      have l1' : s0.1.length ≤ 192 := by omega
      have l2' : s0.2.length = n := l2
      refine ⟨⟨_, .of uR⟩, lpL (xs := (stepsB n).reverse.map vN) (fun t σ H' => Ex2 J L H H' ∧ H' R = some (.lst ((stepsB n).reverse.map vN)) ∧ JnAt K H' J (((stepsB n).reverse.take t).foldl (downF n) s0).1 ∧ LNat H' L (((stepsB n).reverse.take t).foldl (downF n) s0).2 ∧ ∃ t3 t4, σ = [some (.ref J), some (.ref L), some (.ref S), t3, t4]) ⟨e2.trans (.of e3), uR, a3, b3, t3, t4, rfl⟩ (fun i σ' H' _ h => .of h.2.1) ?_ ?_⟩
      · clear u2 a2' e2 b2 e3 a3 b3
        rintro t x σ H2 hx ⟨e2, u2, a2, b2, t3, t4, rfl⟩
        obtain ⟨d, hd, rfl⟩ := nat_at hx
        obtain ⟨d1, d2⟩ := steps_at' hd
        rw [foldl_take (downF n) _ hd]
        obtain ⟨l3, l4⟩ := steps_fold n (downF n) hdn (stepsB n).reverse (by rw [List.length_reverse]; exact steps_len n) s0 t
        have l1 : (((stepsB n).reverse.take t).foldl (downF n) s0).1.length ≤ 384 := by omega
        have l2 : (((stepsB n).reverse.take t).foldl (downF n) s0).2.length = n := by omega
        clear l3 l4
        generalize ((stepsB n).reverse.take t).foldl (downF n) s0 = s0 at *
        walk_at "rs"
        unfold iRng3
        walk_at "rs"
        have en : (List.map vN s0.2).length = n := by rw [List.length_map]; omega
        have c1 : 3 * (d : Int) - 1 = ((3 * d - 1 : Nat) : Int) := by omega
        have c2 : 2 * (d : Int) = ((2 * d : Nat) : Int) := by omega
        rw [c1, c2]
        refine ⟨mulL (by decide), _, .inl (.of b2), mulL (by decide), turns (3 * d - 1) n (2 * d), ?_, ?_⟩
        · rw [en]; exact rgDown h2 d1 d2
        refine lpC _ _ _ (fun i σ H' => Ex2 J L H H' ∧ H' R = some (.lst ((stepsB n).reverse.map vN)) ∧ JnAt K H' J (rngF (ladF d) (3 * d - 1) (2 * d) i s0).1 ∧ LNat H' L (rngF (ladF d) (3 * d - 1) (2 * d) i s0).2 ∧ ∃ t4, σ = [some (.ref J), some (.ref L), some (.ref S), some (vN d), t4]) ⟨e2, u2, a2, b2, t4, rfl⟩ ?_ ?_
        · rintro i σ H4 hi ⟨e4, u4, a4, b4, t4, rfl⟩
          obtain ⟨m1, m2⟩ := rngF_len (ladF d) (ladF_le d) (3 * d - 1) (2 * d) i s0
          have hlt := turns_lt (by omega) hi
          have sd : rngF (ladF d) (3 * d - 1) (2 * d) (i + 1) s0 = addJ (rngF (ladF d) (3 * d - 1) (2 * d) i s0) (3 * d - 1 + i * (2 * d)) ((rngF (ladF d) (3 * d - 1) (2 * d) i s0).2.getD (3 * d - 1 + i * (2 * d) - d) 0) := by
            rw [rngF_succ]; rfl
          have hi2 := turns_le (lo := 3 * d - 1) (c := 2 * d) h2
          rw [sd]
          generalize rngF (ladF d) (3 * d - 1) (2 * d) i s0 = s4 at *
          walk_at "rs"
          have ci : (((3 * d - 1 : Nat) : Int) + (i : Int) * ((2 * d : Nat) : Int)) = ((3 * d - 1 + i * (2 * d) : Nat) : Int) := by rw [Int.natCast_add, Int.natCast_mul i (2 * d)]
          rw [ci]
          have hge : 3 * d - 1 ≤ 3 * d - 1 + i * (2 * d) := Nat.le_add_right _ _
          generalize 3 * d - 1 + i * (2 * d) = P at *
          have cp : (P : Int) - (d : Int) = ((P - d : Nat) : Int) := by omega
          rw [cp]
          refine ixM b4 (atI_nat (lnat_at (by omega))) ?_
          refine ⟨J, L, s4, P, s4.2.getD (P - d) 0, rfl, a4, b4, hne, by omega, by omega, fun H5 g a5 b5 => ?_⟩
          exact ⟨e4.trans g, g _ _ nRJ nRL u4, a5, b5⟩
        · rintro σ H4 ⟨e4, u4, a4, b4, t4, rfl⟩
          exact ⟨e4, u4, a4, b4, _, _, rfl⟩
      · rintro σ H4 ⟨e4, u4, a4, b4, t3, t4, rfl⟩
        rw [List.length_map, List.take_length] at a4 b4
        exact q _ e4 a4 b4
def sp_plan_of (K : PySem.W.Frag) : Sp := fun vs H Q _ => ∃ (k : PK) (n : Nat), vs = [.str (pkS k), .int n] ∧ 1 ≤ n ∧ n ≤ 32 ∧ ∀ v H', Ex H H' → PlAt K H' v (pkgM k n) → Q v H'
set_option maxHeartbeats 4000000 in
theorem ok_plan_of (T : TxtW w K mg) : FnOk P w K mg base CX0 5 T.f_plan_of T.d_plan_of P_plan_of (sp_plan_of K) := by
  have G_check_size := ok_check_size (P := P) (w := w) (base := base) T
  have G_join_row := ok_join_row (P := P) (w := w) (base := base) T
  have G_join_halves := ok_join_halves (P := P) (w := w) (base := base) T
  have G_join_doubling := ok_join_doubling (P := P) (w := w) (base := base) T
  have G_join_ladder := ok_join_ladder (P := P) (w := w) (base := base) T
  refine T.F_plan_of.ok sc_plan_of (fun vs H Q E h => ?_) (fun cdv A outer s H vs Q E hr h => ?_)
  · obtain ⟨k, n, rfl, _⟩ := h; rfl
  · obtain ⟨k, n, rfl, h1, h2, q⟩ := h
    obtain ⟨fk, hA, hI⟩ : ∃ fk : Addr, Held P w K mg base 2 fk (sp_joins K k) ∧ PySem.W.nsIn K T.u_JOININGS (pkS k) = some (some (.ref fk)) := by
      cases k
      · exact ⟨_, ⟨_, _, G_join_row, T.F_join_row.kp, T.b_join_row⟩, T.it_JOININGS_row⟩
      · exact ⟨_, ⟨_, _, G_join_halves, T.F_join_halves.kp, T.b_join_halves⟩, T.it_JOININGS_halves⟩
      · exact ⟨_, ⟨_, _, G_join_doubling, T.F_join_doubling.kp, T.b_join_doubling⟩, T.it_JOININGS_doubling⟩
      · exact ⟨_, ⟨_, _, G_join_ladder, T.F_join_ladder.kp, T.b_join_ladder⟩, T.it_JOININGS_ladder⟩
    have A_put_joins : ∀ f sp, (fun a => if a = fk then some (sp_joins K k) else none : Addr → Option Sp) f = some sp → Held P w K mg base 2 f sp := by
      intro f sp hs
      by_cases e : f = fk
      · simp only [if_pos e] at hs
        cases hs
        rw [e]; exact hA
      · simp only [if_neg e] at hs
        cases hs
    refine ⟨_, (pss_cons (ps_if (PW.pt (pw_or (pt_not (pt_val (pe_callB call_isi (by rfl) T.n_isinstance (by decide +kernel) (pa_cons (pv 0) (pa_cons (pe_bltn (v := .ty "str") (by rfl) T.n_str (by decide +kernel) rfl) pa_nil))))) (pw_or1 (pt_cmpR (op_notIn_kd ⟨T.at_JOININGS, T.lit_JOININGS, T.low_JOININGS⟩) (pv 0) (pe_glob (v := .ref T.u_JOININGS) (by rfl) T.c_JOININGS rfl) (by rfl))))) pss_never pss_nil)
      (pss_cons (ps_expr (pe_call G_check_size (hr.mono (by decide)) (by rfl) T.m_check_size T.F_check_size.kp T.b_check_size .nil pass0 (pa_cons (pv 1) pa_nil)))
      (pss_cons (ps_set (i := 2) sc_plan_of.nd rfl (Or.inl rfl) (pe_lst pa_nil))
      (pss_cons (ps_set (i := 3) sc_plan_of.nd rfl (Or.inl rfl) (pe_listRg (by rfl) (by rfl) T.n_list (prg_1 (by rfl) T.n_range (pv 1))))
      (pss_cons (ps_set (i := 4) sc_plan_of.nd rfl (Or.inl rfl) (pe_ix (ix_kd ⟨T.at_JOININGS, T.lit_JOININGS, T.low_JOININGS⟩) (pe_glob (v := .ref T.u_JOININGS) (by rfl) T.c_JOININGS rfl) (pv 0) (fun _ _ => rfl)))
      (pss_cons (ps_expr (pe_callA (i := 4) A_put_joins (hr.mono (by decide)) (by rfl) (Or.inl rfl) (pa_cons (pv 2) (pa_cons (pv 3) pa_nil))))
      (pss_one (ps_ret (pe_tup (pa_cons (pe_callTy call_tuple_of (by rfl) T.n_tuple (by decide +kernel) (pa_cons (pv 2) pa_nil)) (pa_cons (pe_callTy call_tuple_of (by rfl) T.n_tuple (by decide +kernel) (pa_cons (pv 3) pa_nil)) pa_nil))))))))))), ?_⟩
    walk_at "rs"
    refine isi_to (.base (.str _)) (b := true) (by decide +kernel) ⟨_, rfl, ?_⟩
    walk_at "rs"
    refine ⟨_, hI, ?_⟩
    walk_at "rs"
    refine ⟨n, rfl, h1, h2, ?_⟩
    walk_at "rs"
    refine ⟨by decide, fun J hJ => ?_⟩
    unfold tLstRg tRg1
    walk_at "rs"
    refine ⟨RgOk.of_le (by omega) (by omega) (by omega) (by omega), fun L hL => ?_⟩
    have nLJ : L ≠ J := fun z => by rw [z, upd_same] at hL; cases hL
    have hL0 : H L = none := by rw [upd_ne nLJ] at hL; exact hL
    have erg : rgV 0 (n : Int) = (List.range n).map vN := by
      unfold rgV
      have : ((n : Int) - 0).toNat = n := by omega
      rw [this]
      exact List.map_congr_left fun i _ => by rw [Int.zero_add]
    have e2 : Ex H (upd (upd H J (.lst [])) L (.lst (rgV 0 n))) := (ex_upd hJ).trans (ex_upd hL)
    have uJ : upd (upd H J (.lst [])) L (.lst (rgV 0 n)) J = some (.lst []) := by rw [upd_ne nLJ.symm, upd_same]
    have uL : LNat (upd (upd H J (.lst [])) L (.lst (rgV 0 n))) L (List.range n) := by unfold LNat; rw [upd_same, erg]
    generalize upd (upd H J (.lst [])) L (.lst (rgV 0 n)) = H2 at e2 uJ uL ⊢
    walk_at "rs"
    refine ⟨_, hI, .ref fk, rfl, ?_⟩
    walk_at "rs"
    unfold tCallA
    walk_at "rs"
    refine ⟨J, L, n, rfl, h1, h2, uJ, uL, nLJ.symm, fun H3 g a b => ?_⟩
    have e3 : Ex H H3 := fun x o hx => g x o (fun z => by rw [z, hJ] at hx; cases hx) (fun z => by rw [z, hL0] at hx; cases hx) (e2 x o hx)
    obtain ⟨xs, hJ3, hxs⟩ := a
    refine ⟨xs, .inl ⟨.of hJ3, fun t1 ht1 => ?_⟩⟩
    have f1 := ex_upd (o := .tup xs) ht1
    have v1 : upd H3 t1 (.tup xs) t1 = _ := upd_same
    generalize upd H3 t1 (.tup xs) = H4 at f1 v1 ⊢
    have b4 : LNat H4 L (pkgM k n).2 := f1 _ _ b
    refine ⟨_, .inl ⟨.of b4, fun t2 ht2 => ⟨by decide, fun p hp => ?_⟩⟩⟩
    have f2 := ex_upd (o := .tup ((pkgM k n).2.map vN)) ht2
    have v2 : upd H4 t2 (.tup ((pkgM k n).2.map vN)) t2 = _ := upd_same
    generalize upd H4 t2 (.tup ((pkgM k n).2.map vN)) = H5 at f2 v2 hp ⊢
    have f3 := ex_upd (o := .tup [.ref t1, .ref t2]) hp
    have v3 : upd H5 p (.tup [.ref t1, .ref t2]) p = _ := upd_same
    generalize upd H5 p (.tup [.ref t1, .ref t2]) = H6 at f3 v3 ⊢
    refine q _ _ (e3.trans (f1.trans (f2.trans f3))) ⟨p, t1, t2, xs, rfl, .of v3, .of (f3 _ _ (f2 _ _ v1)), Paired.mapP hxs fun _ _ r => JnV.ex (f1.trans (f2.trans f3)) r, .of (f3 _ _ v2)⟩
def sp_is_join (K : PySem.W.Frag) : Sp := fun vs H Q _ => ∃ (v : V) (p : Jn) (m : Nat), vs = [v, .int m] ∧ JnV K H v p ∧ p.1 < m ∧ p.2 < m ∧ m ≤ 100000 ∧ Q (.bl true) H
set_option maxHeartbeats 4000000 in
theorem ok_is_join (T : TxtW w K mg) : FnOk P w K mg base CX0 4 T.f_is_join T.d_is_join P_is_join (sp_is_join K) := by
  have G_is_pair := ok_is_pair (P := P) (w := w) (base := base) T
  have G_is_index := ok_is_index (P := P) (w := w) (base := base) T
  refine T.F_is_join.ok sc_is_join (fun vs H Q E h => ?_) (fun cdv A outer s H vs Q E hr h => ?_)
  · obtain ⟨v, p, m, rfl, _⟩ := h; rfl
  · obtain ⟨v, p, m, rfl, ⟨q1, rfl, h1⟩, h2, h3, h4, q⟩ := h
    refine ⟨_, (pss_one (ps_ret (pe_and (pe_call G_is_pair (hr.mono (by decide)) (by rfl) T.m_is_pair T.F_is_pair.kp T.b_is_pair .nil pass0 (pa_cons (pv 0) pa_nil)) (pe_and (pe_call G_is_index (hr.mono (by decide)) (by rfl) T.m_is_index T.F_is_index.kp T.b_is_index .nil pass0 (pa_cons (pe_ix ix_tup (pv 0) pe_int (fun _ _ => rfl)) (pa_cons (pv 1) pa_nil))) (pe_one (pe_call G_is_index (hr.mono (by decide)) (by rfl) T.m_is_index T.F_is_index.kp T.b_is_index .nil pass0 (pa_cons (pe_ix ix_tup (pv 0) pe_int (fun _ _ => rfl)) (pa_cons (pv 1) pa_nil)))))))), ?_⟩
    walk_at "rs"
    refine ⟨_, some _, rfl, ⟨q1, rfl, h1⟩, ?_⟩
    rw [show pairB (some [vN p.1, vN p.2]) = true from rfl]
    walk_at "rs"
    refine ixT h1 rfl ⟨_, _, rfl, .int, ?_⟩
    rw [btw_ok (by omega) (by omega) (by omega) (by omega)]
    walk_at "rs"
    refine ixT h1 rfl ⟨_, _, rfl, .int, ?_⟩
    rw [btw_ok (by omega) (by omega) (by omega) (by omega)]
    exact q
def sp_is_plan (K : PySem.W.Frag) : Sp := fun vs H Q _ => ∃ (n : Nat) (v : V) (s : JS), vs = [.int n, v] ∧ 1 ≤ n ∧ n ≤ 32 ∧ PlAt K H v s ∧ POk n s ∧ ∀ H', Ex H H' → Q (.bl true) H'
set_option maxHeartbeats 4000000 in
theorem ok_is_plan (T : TxtW w K mg) : FnOk P w K mg base CX0 5 T.f_is_plan T.d_is_plan P_is_plan (sp_is_plan K) := by
  have G_check_size := ok_check_size (P := P) (w := w) (base := base) T
  have G_is_pair := ok_is_pair (P := P) (w := w) (base := base) T
  have G_is_tuple_of := ok_is_tuple_of (P := P) (w := w) (base := base) T
  have G_is_index := ok_is_index (P := P) (w := w) (base := base) T
  have G_is_join := ok_is_join (P := P) (w := w) (base := base) T
  refine T.F_is_plan.ok sc_is_plan (fun vs H Q E h => ?_) (fun cdv A outer s H vs Q E hr h => ?_)
  · obtain ⟨n, v, s, rfl, _⟩ := h; rfl
  · obtain ⟨n, v, s, rfl, h1, h2, ⟨a, b, c, xs, rfl, ha, hb, hxs, hc⟩, ⟨o1, o2, o3, o4⟩, q⟩ := h
    refine ⟨_, (pss_cons (ps_expr (pe_call G_check_size (hr.mono (by decide)) (by rfl) T.m_check_size T.F_check_size.kp T.b_check_size .nil pass0 (pa_cons (pv 0) pa_nil)))
      (pss_cons (ps_if (PW.pt (pw_or (pt_not (pt_val (pe_call G_is_pair (hr.mono (by decide)) (by rfl) T.m_is_pair T.F_is_pair.kp T.b_is_pair .nil pass0 (pa_cons (pv 1) pa_nil)))) (pw_or (pt_not (pt_val (pe_call G_is_tuple_of (hr.mono (by decide)) (by rfl) T.m_is_tuple_of T.F_is_tuple_of.kp T.b_is_tuple_of .nil pass0 (pa_cons (pe_ix ix_tup (pv 1) pe_int (fun _ _ => rfl)) (pa_cons pe_int (pa_cons (pe_glob (by rfl) T.c_MAX_JOINS T.r_MAX_JOINS) pa_nil)))))) (pw_or1 (pt_not (pt_val (pe_call G_is_tuple_of (hr.mono (by decide)) (by rfl) T.m_is_tuple_of T.F_is_tuple_of.kp T.b_is_tuple_of .nil pass0 (pa_cons (pe_ix ix_tup (pv 1) pe_int (fun _ _ => rfl)) (pa_cons (pv 0) (pa_cons (pv 0) pa_nil)))))))))) (pss_one (ps_ret pe_bl)) pss_nil)
      (pss_cons (ps_asg (pv 1) (pg_tup (n := 2) rfl (pgs_cons (pg_name (i := 2) sc_is_plan.nd rfl (Or.inr rfl)) (pgs_cons (pg_name (i := 3) sc_is_plan.nd rfl (Or.inl rfl)) pgs_nil))))
      (pss_cons (ps_if (pt_not (pt_val (pe_callB (cr_all rfl) (by rfl) T.n_all (by decide +kernel) (pa_cons (pe_lc (own := [("at", 4), ("pair", 5)]) (g := gTup K 2 (gCons (gName 4) (gCons (gName 5) gNil))) (tt := tYes) (by rfl) sc_is_plan.nd (pi_enumT (by rfl) T.n_enumerate (pa_cons (pv 2) pa_nil)) (blkOk_by (own := [("at", 4), ("pair", 5)]) (N := N_is_plan) (sc := defScope s_is_plan) (by decide +kernel)) (fun _ _ _ _ _ => (pg_tup (n := 2) rfl (pgs_cons (pg_name (i := 4) sc_is_plan.nd rfl (by first | exact Or.inl rfl | exact Or.inr rfl)) (pgs_cons (pg_name (i := 5) sc_is_plan.nd rfl (by first | exact Or.inl rfl | exact Or.inr rfl)) pgs_nil)))) (fun _ _ _ _ _ => pts_nil) (fun _ _ _ _ _ => (pe_call G_is_join (hr.mono (by decide)) (by rfl) T.m_is_join T.F_is_join.kp T.b_is_join .nil pass0 (pa_cons (pv 5) (pa_cons (pe_op op_add (pv 0) (pv 4)) pa_nil))))) pa_nil)))) (pss_one (ps_ret pe_bl)) pss_nil)
      (pss_one (ps_ret (pe_callB (cr_all rfl) (by rfl) T.n_all (by decide +kernel) (pa_cons (pe_lc (own := [("piece", 6)]) (g := gName 6) (tt := tYes) (by rfl) sc_is_plan.nd (pi_tup (pv 3)) (blkOk_by (own := [("piece", 6)]) (N := N_is_plan) (sc := defScope s_is_plan) (by decide +kernel)) (fun _ _ _ _ _ => (pg_name (i := 6) sc_is_plan.nd rfl (by first | exact Or.inl rfl | exact Or.inr rfl))) (fun _ _ _ _ _ => pts_nil) (fun _ _ _ _ _ => (pe_call G_is_index (hr.mono (by decide)) (by rfl) T.m_is_index T.F_is_index.kp T.b_is_index .nil pass0 (pa_cons (pv 6) (pa_cons (pe_op op_add (pv 0) (pe_callB (k_call_len (K := K) rfl) (by rfl) T.n_len (by decide +kernel) (pa_cons (pv 2) pa_nil))) pa_nil))))) pa_nil)))))))), ?_⟩
    have hlen := Paired.len' hxs
    walk_at "rs"
    refine ⟨n, rfl, h1, h2, ?_⟩
    walk_at "rs"
    refine ⟨_, some _, rfl, ⟨a, rfl, ha⟩, ?_⟩
    rw [show pairB (some [.ref b, .ref c]) = true from rfl]
    walk_at "rs"
    refine ixT ha rfl ⟨_, some xs, 0, 400, rfl, ⟨b, rfl, hb⟩, ?_⟩
    rw [show tupB (some xs) 0 400 = true from decide_eq_true (by omega)]
    walk_at "rs"
    refine ixT ha rfl ⟨_, some _, _, _, rfl, ⟨c, rfl, hc⟩, ?_⟩
    rw [show tupB (some (s.2.map vN)) n n = true from decide_eq_true (by rw [List.length_map]; omega)]
    walk_at "rs"
    refine ⟨_, ha, rfl, _, _, rfl, _, _, rfl, rfl, ?_⟩
    walk_at "rs"
    refine ⟨⟨_, hb⟩, fun D hD => ?_⟩
    refine lc_map (walk_enumT (xs := xs)) (fun _ => .bl true) (by omega) hD (fun H' e => Evl.ex_t e hb) ?_ ?_
    · rintro i x H' H2' hi e ⟨t, x1, x2, rfl, ht, rfl, hx1, hx⟩ Qe qe
      cases hx1
      obtain ⟨p, hp, hpv⟩ := Paired.at' hxs hx
      obtain ⟨b1, b2⟩ := o4 i p hp
      have hpv := (hpv.ex e).ex (ex_upd (o := .tup [.int i, x2]) ht)
      have ut : upd H' t (.tup [.int i, x2]) t = _ := upd_same
      have et := ex_upd (o := .tup [.int i, x2]) ht
      generalize upd H' t (.tup [.int i, x2]) = H3 at hpv ut et ⊢
      walk_at "rs"
      refine ⟨_, .of ut, rfl, _, _, rfl, _, _, rfl, rfl, ?_⟩
      walk_at "rs"
      exact ⟨x2, p, n + i, by congr 2, hpv, b1, b2, by omega, qe _ et⟩
    intro H1 e1 l1
    refine all_true (n := xs.length) l1 (fun _ _ => rfl) ?_
    walk_at "rs"
    have hc1 := Evl.ex_t e1 hc
    refine ⟨⟨_, hc1⟩, fun D2 hD2 => ?_⟩
    refine lc_map (walk_tup (xs := s.2.map vN)) (fun _ => .bl true) (by rw [List.length_map]; omega) hD2 (fun H' e => Evl.ex_t e hc1) ?_ ?_
    · rintro i x H' H2' hi e ⟨rfl, hx⟩ Qe qe
      rw [List.getElem?_map] at hx
      cases hz : s.2[i]? with
      | none => rw [hz] at hx; cases hx
      | some o =>
        rw [hz] at hx
        cases hx
        have ho := o3 o (List.mem_of_getElem? hz)
        walk_at "rs"
        refine ⟨_, .inr (Evl.ex_t e (Evl.ex_t e1 hb)), ?_⟩
        walk_at "rs"
        refine ⟨_, _, rfl, .int, ?_⟩
        rw [btw_ok (by omega) (by omega) (by omega) (by omega)]
        exact qe _ (Ex.refl _)
    intro H2 e2 l2
    refine all_true (n := (s.2.map vN).length) l2 (fun _ _ => rfl) ?_
    exact q _ (e1.trans e2)
def sp_check_plan (K : PySem.W.Frag) : Sp := fun vs H Q _ => ∃ (n : Nat) (v : V) (s : JS), vs = [.int n, v] ∧ 1 ≤ n ∧ n ≤ 32 ∧ PlAt K H v s ∧ POk n s ∧ ∀ H', Ex H H' → Q .non H'
set_option maxHeartbeats 4000000 in
theorem ok_check_plan (T : TxtW w K mg) : FnOk P w K mg base CX0 6 T.f_check_plan T.d_check_plan P_check_plan (sp_check_plan K) := by
  have G_is_plan := ok_is_plan (P := P) (w := w) (base := base) T
  refine T.F_check_plan.ok sc_check_plan (fun vs H Q E h => ?_) (fun cdv A outer s H vs Q E hr h => ?_)
  · obtain ⟨n, v, s, rfl, _⟩ := h; rfl
  · obtain ⟨n, v, s, rfl, h1, h2, h3, h4, q⟩ := h
    refine ⟨_, (pss_one (ps_if (pt_not (pt_val (pe_call G_is_plan (hr.mono (by decide)) (by rfl) T.m_is_plan T.F_is_plan.kp T.b_is_plan .nil pass0 (pa_cons (pv 0) (pa_cons (pv 1) pa_nil))))) pss_never pss_nil)), ?_⟩
    walk_at "rs"
    refine ⟨n, v, s, rfl, h1, h2, h3, h4, fun H1 e1 => ?_⟩
    walk_at "rs"
    exact q _ e1
def sp_rows_found (K : PySem.W.Frag) : Sp := fun vs H Q _ => ∃ (n : Nat) (v : V) (s : JS), vs = [.int n, v] ∧ 1 ≤ n ∧ n ≤ 32 ∧ PlAt K H v s ∧ POk n s ∧ ∀ p rs H', Ex H H' → H p = none → H' p = some (.lst rs) → Paired (TNat K H') rs (rowsM n s.1) → Q (.ref p) H'
set_option maxHeartbeats 4000000 in
theorem ok_rows_found (T : TxtW w K mg) : FnOk P w K mg base CX0 1 T.f_rows_found T.d_rows_found P_rows_found (sp_rows_found K) := by
  refine T.F_rows_found.ok sc_rows_found (fun vs H Q E h => ?_) (fun cdv A outer s H vs Q E hr h => ?_)
  · obtain ⟨n, v, s, rfl, _⟩ := h; rfl
  · obtain ⟨n, v, s, rfl, h1, h2, ⟨a, b, c, xs, rfl, ha, hb, hxs, hc⟩, ⟨o1, o2, o3, o4⟩, q⟩ := h
    refine ⟨_, (pss_cons (ps_setLc (i := 2) (own := [("place", 3)]) (g := gName 3) (tt := tYes) (by rfl) sc_rows_found.nd rfl rfl (sw_true rfl rfl rfl (by decide +kernel)) (pi_range1 (by rfl) T.n_range (pa_cons (pv 0) pa_nil)) (blkOk_by (own := [("place", 3)]) (N := N_rows_found) (sc := defScope s_rows_found) (by decide +kernel)) (fun _ _ _ _ _ => (pg_name (i := 3) sc_rows_found.nd rfl (by first | exact Or.inl rfl | exact Or.inr rfl))) (fun _ _ _ _ _ => pts_nil) (fun _ _ _ _ _ => (pe_tup (pa_cons (pv 3) pa_nil))))
      (pss_cons (ps_for PassesOwn.never rfl (pi_tup (pe_ix ix_tup (pv 1) pe_int (fun _ _ => rfl))) (pg_tup (n := 2) rfl (pgs_cons (pg_name (i := 4) sc_rows_found.nd rfl (Or.inl rfl)) (pgs_cons (pg_name (i := 5) sc_rows_found.nd rfl (Or.inl rfl)) pgs_nil))) (pss_cons (ps_set (i := 6) sc_rows_found.nd rfl (Or.inr rfl) (pe_dc (own := [("place", 3)]) (g := gName 3) (tt := tYes) (by rfl) sc_rows_found.nd (pi_tup (pe_ix ix_list (pv 2) (pv 4) (fun _ _ => rfl))) (blkOk_by (own := [("place", 3)]) (N := N_rows_found) (sc := defScope s_rows_found) (by decide +kernel)) (fun _ _ _ _ _ => (pg_name (i := 3) sc_rows_found.nd rfl (by first | exact Or.inl rfl | exact Or.inr rfl))) (fun _ _ _ _ _ => pts_nil) (fun _ _ _ _ _ => (pv 3)) (fun _ _ _ _ _ => pe_bl)))
      (pss_one (ps_expr (pe_bm PySem.F.plainAttrs_list PySem.F.slot_list_append PySem.F.type_list_append mt_append (pv 2) (pa_cons (pe_op op_catA (pe_ix ix_list (pv 2) (pv 4) (fun _ _ => rfl)) (pe_callTy call_tuple_of (by rfl) T.n_tuple (by decide +kernel) (pa_cons (pe_lc (own := [("place", 3)]) (g := gName 3) (by rfl) sc_rows_found.nd (pi_tup (pe_ix ix_list (pv 2) (pv 5) (fun _ _ => rfl))) (blkOk_by (own := [("place", 3)]) (N := N_rows_found) (sc := defScope s_rows_found) (by decide +kernel)) (fun _ _ _ _ _ => (pg_name (i := 3) sc_rows_found.nd rfl (by first | exact Or.inl rfl | exact Or.inr rfl))) (fun _ _ _ _ _ => pts_one (pt_cmp (pc_dnotin (u1 hr.units) (pv 3) (pv 6)))) (fun _ _ _ _ _ => (pv 3))) pa_nil))) pa_nil))))))
      (pss_one (ps_ret (pv 2))))), ?_⟩
    have hlen := Paired.len' hxs
    walk_at "rs"
    refine ⟨by omega, by omega, fun D hD => ?_⟩
    refine lc_rel (n := n) walk_range (fun H v i => TNat K H v [i]) (fun H H' v i e h => h.ex e) (fun H p o ys v i h0 h => h.mut h0) (by omega) hD (fun _ _ => trivial) ?_ ?_
    · rintro k x H' H2 hk e ⟨rfl, rfl⟩ Qe qe
      walk_at "rs"
      rw [Int.zero_add]
      exact ⟨by decide, fun t ht => qe _ _ (ex_upd ht) ⟨t, rfl, .of upd_same⟩⟩
    intro H1 rs e1 u1 hr1
    walk_at "rs"
    refine ixT (Evl.ex_t e1 ha) rfl ?_
    have hr1 : Paired (TNat K H1) rs (rowsM n []) := Paired.mapR (f := fun i => [i]) (fun _ _ r => r) hr1
    refine ⟨b, rfl, ⟨_, Evl.ex_t e1 hb⟩, lpT (xs := xs) (fun i σ H' => Ex H H' ∧ ∃ rs t3 t4 t5 t6, σ = [some (.int n), some (.ref a), some (.ref D), t3, t4, t5, t6] ∧ H' D = some (.lst rs) ∧ Paired (TNat K H') rs (rowsM n (s.1.take i))) ⟨e1, rs, none, none, none, none, rfl, u1, hr1⟩ (fun i σ' H' _ h => Evl.ex_t h.1 hb) ?_ ?_⟩
    · rintro i x σ H2 hx ⟨e2, rs, t3, t4, t5, t6, rfl, u2, hr2⟩
      obtain ⟨p, hp, ⟨q0, rfl, hq0⟩⟩ := Paired.at' hxs hx
      have hq0 := Evl.ex_t e2 hq0
      have hi : i < s.1.length := (List.getElem?_eq_some_iff.mp hp).1
      obtain ⟨p1, p2⟩ := o4 i p hp
      have hrl := Paired.len' hr2
      rw [rows_len, List.length_take, Nat.min_eq_left (by omega)] at hrl
      have rowAt : ∀ j, j < n + i → ∃ q1, rs[j]? = some (.ref q1) ∧ SqT K H2 q1 (((rowsM n (s.1.take i)).getD j []).map vN) := fun j hj => by
        have hq9 := List.getElem?_eq_getElem (show j < rs.length by omega)
        obtain ⟨y, hy1, ⟨q1, e9, hq1⟩⟩ := Paired.at' hr2 hq9
        rw [e9] at hq9
        refine ⟨q1, hq9, ?_⟩
        have : (rowsM n (s.1.take i)).getD j [] = y := by simp [List.getD, hy1]
        rw [this]; exact hq1
      obtain ⟨qh, hh1, hh2⟩ := rowAt p.1 p1
      obtain ⟨ql, hl1, hl2⟩ := rowAt p.2 p2
      have rdef : rowsM n (s.1.take (i + 1)) = rowStep (rowsM n (s.1.take i)) p := by rw [List.take_add_one, hp]; exact rowsM_app _ _ _
      have okr := rows_ok n (s.1.take i)
      have lnr : ∀ j, j < n + i → ((rowsM n (s.1.take i)).getD j []).length ≤ n := fun j hj => rowOk_len (okr _ (by
        have hj2 : j < (rowsM n (s.1.take i)).length := by rw [rows_len, List.length_take, Nat.min_eq_left (by omega)]; exact hj
        have : (rowsM n (s.1.take i)).getD j [] = (rowsM n (s.1.take i))[j] := by simp [List.getD, List.getElem?_eq_getElem hj2]
        rw [this]; exact List.getElem_mem hj2))
      have lh := lnr _ p1
      have ll := lnr _ p2
      unfold rowStep at rdef
      generalize (rowsM n (s.1.take i)).getD p.1 [] = rh at hh2 rdef lh
      generalize (rowsM n (s.1.take i)).getD p.2 [] = rl at hl2 rdef ll
      walk_at "rs"
      refine ⟨_, hq0, rfl, _, _, rfl, _, _, rfl, rfl, ?_⟩
      walk_at "rs"
      refine ixM u2 (atI_nat hh1) ?_
      refine ⟨qh, rfl, ⟨_, hh2⟩, fun T hT => ?_⟩
      refine dc_tup (xs := rh.map vN) (fun j H' => Ex H2 H' ∧ ∃ kvs : List (L2.Key × V), H' T = some (.dK kvs) ∧ kvs.length ≤ j ∧ ∀ x : Nat, (valV kvs (.inl (x : Int))).isSome = true ↔ x ∈ rh.take j) ⟨ex_upd hT, [], upd_same, Nat.le_refl _, fun x => ⟨fun h => (by cases h), fun h => (by cases h)⟩⟩ (fun j H' _ h => Evl.ex_t h.1 hh2) ?_ ?_
      · rintro j x H' hx ⟨e3, kvs, u3, hlk, hk⟩
        rw [List.getElem?_map] at hx
        cases hz : rh[j]? with
        | none => rw [hz] at hx; cases hx
        | some z =>
          rw [hz] at hx
          cases hx
          have hj : j < rh.length := (List.getElem?_eq_some_iff.mp hz).1
          walk_at "rs"
          refine ⟨kvs, .inl (z : Int), rfl, u3, by rw [sizeLine_eq]; omega, e3.mut hT, _, upd_same, ?_, fun x => ?_⟩
          · have := length_putK kvs (.inl (z : Int)) (.bl true); omega
          · rw [valV_put, Bool.or_eq_true, hk x, decide_eq_true_iff, List.take_add_one, hz]
            simp only [Option.toList_some, List.mem_append, List.mem_singleton, Sum.inl.injEq]
            constructor
            · rintro (h | h)
              · exact .inr (by omega)
              · exact .inl h
            · rintro (h | h)
              · exact .inr h
              · exact .inl (by omega)
      rintro H3 ⟨e3, kvs, u3, _, hk⟩
      rw [List.length_map, List.take_length] at hk
      walk_at "rs"
      have u3' := e3 _ _ u2
      refine ⟨.inl ⟨rfl, _, .of u3'⟩, ixM u3' (atI_nat hh1) ?_⟩
      walk_at "rs"
      refine ixM u3' (atI_nat hl1) ?_
      have hl3 := Evl.ex_t e3 hl2
      have hh3 := Evl.ex_t e3 hh2
      refine ⟨ql, rfl, ⟨_, hl3⟩, fun E1 hE1 => ?_⟩
      refine lc_go (walk_tup (xs := rl.map vN)) (fun k => !rh.contains (rl.getD k 0)) (fun k => vN (rl.getD k 0)) (by rw [List.length_map]; omega) hE1 (fun H' e => Evl.ex_t e hl3) ?_ ?_
      · rintro k x H' H2' hk9 e ⟨rfl, hx⟩ Qe Qn qe qn
        rw [List.getElem?_map] at hx
        cases hz : rl[k]? with
        | none => rw [hz] at hx; cases hx
        | some z =>
          rw [hz] at hx
          cases hx
          have gz : rl.getD k 0 = z := by simp [List.getD, hz]
          rw [gz] at qe qn
          walk_at "rs"
          refine ⟨_, DGet.k (k := .inl (z : Int)) (e _ _ u3), ?_⟩
          walk_at "rs"
          by_cases hc : z ∈ rh
          · rw [(hk z).mpr hc]
            have := qn _ (Ex.refl _) (by rw [List.contains_iff_mem.mpr hc]; rfl)
            walk_at "rs"
            exact this
          · have hn : (valV kvs (.inl (z : Int))).isSome = false := Bool.eq_false_iff.mpr fun h => hc ((hk z).mp h)
            rw [hn]
            have hcf : rh.contains z = false := Bool.eq_false_iff.mpr fun h => hc (List.contains_iff_mem.mp h)
            have := qe _ (Ex.refl _) (by rw [hcf]; rfl)
            walk_at "rs"
            exact this
      intro H4 e4 l4
      rw [List.length_map, kept_filter (fun x => !rh.contains x)] at l4
      refine ⟨_, .inl ⟨.of l4, fun t ht => ?_⟩⟩
      have e5 := e4.trans (ex_upd (o := .tup ((rl.filter fun x => !rh.contains x).map vN)) ht)
      have ut : upd H4 t (.tup ((rl.filter fun x => !rh.contains x).map vN)) t = _ := upd_same
      generalize upd H4 t (.tup ((rl.filter fun x => !rh.contains x).map vN)) = H5 at e5 ut ⊢
      refine catT_use (Evl.ex_t e5 hh3) (.of ut) (by rw [List.length_map, List.length_map]; have := List.length_filter_le (fun x => !rh.contains x) rl; omega) fun v6 H6 e6 h6 => ?_
      have e26 := e3.trans (e5.trans e6)
      have u6 := e26 _ _ u2
      refine ⟨D, _, _, rfl, rfl, u6, by rw [sizeLine_eq]; omega, ?_⟩
      refine ⟨(e2.trans e26).mut hD, _, upd_same, ?_⟩
      rw [rdef]
      refine Paired.app' (Paired.mapP hr2 fun _ _ r => (r.ex e26).mut u6) ⟨v6, rfl, sqT_mut u6 ?_⟩
      rw [List.map_append]; exact h6
    · rintro σ H2 ⟨e2, rs, t3, t4, t5, t6, rfl, u2, hr2⟩
      walk_at "rs"
      rw [hlen, List.take_length] at hr2
      exact q D rs H2 e2 hD u2 hr2
def sp_row_of (K : PySem.W.Frag) : Sp := fun vs H Q _ => ∃ (n : Nat) (v : V) (s : JS) (o : Nat), vs = [.int n, v, .int o] ∧ 1 ≤ n ∧ n ≤ 32 ∧ PlAt K H v s ∧ POk n s ∧ o < n + s.1.length ∧ ∀ r H', Ex H H' → TNat K H' r ((rowsM n s.1).getD o []) → Q r H'
set_option maxHeartbeats 4000000 in
theorem ok_row_of (T : TxtW w K mg) : FnOk P w K mg base CX0 7 T.f_row_of T.d_row_of P_row_of (sp_row_of K) := by
  have G_check_plan := ok_check_plan (P := P) (w := w) (base := base) T
  have G_check_number := ok_check_number (P := P) (w := w) (base := base) T
  have G_rows_found := ok_rows_found (P := P) (w := w) (base := base) T
  refine T.F_row_of.ok sc_row_of (fun vs H Q E h => ?_) (fun cdv A outer s H vs Q E hr h => ?_)
  · obtain ⟨n, v, s, o, rfl, _⟩ := h; rfl
  · obtain ⟨n, v, s, o, rfl, h1, h2, hpl, hok, ho, q⟩ := h
    refine ⟨_, (pss_cons (ps_expr (pe_call G_check_plan (hr.mono (by decide)) (by rfl) T.m_check_plan T.F_check_plan.kp T.b_check_plan .nil pass0 (pa_cons (pv 0) (pa_cons (pv 1) pa_nil))))
      (pss_cons (ps_expr (pe_call G_check_number (hr.mono (by decide)) (by rfl) T.m_check_number T.F_check_number.kp T.b_check_number .nil pass0 (pa_cons (pv 2) (pa_cons pe_int (pa_cons (pe_op op_sub (pe_op op_add (pv 0) (pe_callB call_len_seq (by rfl) T.n_len (by decide +kernel) (pa_cons (pe_ix ix_tup (pv 1) pe_int (fun _ _ => rfl)) pa_nil))) pe_int) pa_nil)))))
      (pss_one (ps_ret (pe_ix ix_list (pe_call G_rows_found (hr.mono (by decide)) (by rfl) T.m_rows_found T.F_rows_found.kp T.b_rows_found .nil pass0 (pa_cons (pv 0) (pa_cons (pv 1) pa_nil))) (pv 2) (fun _ _ => rfl)))))), ?_⟩
    walk_at "rs"
    refine ⟨n, v, s, rfl, h1, h2, hpl, hok, fun H0 e0 => ?_⟩
    have hpl0 := hpl.ex e0
    obtain ⟨a, b, c, xs, rfl, ha, hb, hxs, hc⟩ := hpl0
    have hlen := Paired.len' hxs
    have o1 := hok.1
    walk_at "rs"
    refine ixT ha rfl ?_
    walk_at "rs"
    refine ⟨xs, .inr hb, ?_⟩
    walk_at "rs"
    refine ⟨_, _, _, rfl, .int, btw_ok (by omega) (by omega) (by omega) (by omega), ?_⟩
    walk_at "rs"
    refine ⟨n, _, s, rfl, h1, h2, hpl.ex e0, hok, fun p rs H1 e1 hp u1 hr1 => ?_⟩
    have hrl := Paired.len' hr1
    rw [rows_len] at hrl
    obtain ⟨y, hy1, hy2⟩ := Paired.at' hr1 (List.getElem?_eq_getElem (show o < rs.length by omega))
    refine ixM u1 (atI_nat (List.getElem?_eq_getElem (show o < rs.length by omega))) ?_
    refine q _ _ (e0.trans e1) ?_
    have : (rowsM n s.1).getD o [] = y := by simp [List.getD, hy1]
    rw [this]; exact hy2
def sp_plan_depth (K : PySem.W.Frag) : Sp := fun vs H Q _ => ∃ (n : Nat) (v : V) (s : JS), vs = [.int n, v] ∧ 1 ≤ n ∧ n ≤ 32 ∧ PlAt K H v s ∧ POk n s ∧ ∀ H', Ex H H' → Q (vN (maxL (s.2.map fun o => (depM n s.1).getD o 0))) H'
set_option maxHeartbeats 4000000 in
theorem ok_plan_depth (T : TxtW w K mg) : FnOk P w K mg base CX0 7 T.f_plan_depth T.d_plan_depth P_plan_depth (sp_plan_depth K) := by
  have G_check_plan := ok_check_plan (P := P) (w := w) (base := base) T
  refine T.F_plan_depth.ok sc_plan_depth (fun vs H Q E h => ?_) (fun cdv A outer s H vs Q E hr h => ?_)
  · obtain ⟨n, v, s, rfl, _⟩ := h; rfl
  · obtain ⟨n, v, s, rfl, h1, h2, hpl, hok, q⟩ := h
    refine ⟨_, (pss_cons (ps_expr (pe_call G_check_plan (hr.mono (by decide)) (by rfl) T.m_check_plan T.F_check_plan.kp T.b_check_plan .nil pass0 (pa_cons (pv 0) (pa_cons (pv 1) pa_nil))))
      (pss_cons (ps_asg (pv 1) (pg_tup (n := 2) rfl (pgs_cons (pg_name (i := 2) sc_plan_depth.nd rfl (Or.inl rfl)) (pgs_cons (pg_name (i := 3) sc_plan_depth.nd rfl (Or.inl rfl)) pgs_nil))))
      (pss_cons (ps_set (i := 4) sc_plan_depth.nd rfl (Or.inr rfl) (pe_op op_rep (pe_lst (pa_cons pe_int pa_nil)) (pv 0)))
      (pss_cons (ps_for PassesOwn.never rfl (pi_tup (pv 2)) (pg_tup (n := 2) rfl (pgs_cons (pg_name (i := 5) sc_plan_depth.nd rfl (Or.inl rfl)) (pgs_cons (pg_name (i := 6) sc_plan_depth.nd rfl (Or.inl rfl)) pgs_nil))) (pss_one (ps_expr (pe_bm PySem.F.plainAttrs_list PySem.F.slot_list_append PySem.F.type_list_append mt_append (pv 4) (pa_cons (pe_op op_add (pe_callB (call_max2 rfl) (by rfl) T.n_max (by decide +kernel) (pa_cons (pe_ix ix_list (pv 4) (pv 5) (fun _ _ => rfl)) (pa_cons (pe_ix ix_list (pv 4) (pv 6) (fun _ _ => rfl)) pa_nil))) pe_int) pa_nil)))))
      (pss_one (ps_ret (pe_callB (cr_max rfl) (by rfl) T.n_max (by decide +kernel) (pa_cons (pe_lc (own := [("piece", 7)]) (g := gName 7) (tt := tYes) (by rfl) sc_plan_depth.nd (pi_tup (pv 3)) (blkOk_by (own := [("piece", 7)]) (N := N_plan_depth) (sc := defScope s_plan_depth) (by decide +kernel)) (fun _ _ _ _ _ => (pg_name (i := 7) sc_plan_depth.nd rfl (by first | exact Or.inl rfl | exact Or.inr rfl))) (fun _ _ _ _ _ => pts_nil) (fun _ _ _ _ _ => (pe_ix (k_ix_list (K := K) rfl) (pv 4) (pv 7) (fun _ _ => rfl)))) pa_nil)))))))), ?_⟩
    walk_at "rs"
    refine ⟨n, v, s, rfl, h1, h2, hpl, hok, fun H0 e0 => ?_⟩
    obtain ⟨a, b, c, xs, rfl, ha, hb, hxs, hc⟩ := hpl.ex e0
    obtain ⟨o1, o2, o3, o4⟩ := hok
    have hlen := Paired.len' hxs
    walk_at "rs"
    refine ⟨_, ha, rfl, _, _, rfl, _, _, rfl, rfl, ?_⟩
    walk_at "rs"
    refine ⟨by decide, fun z hz => ⟨z, _, _, rfl, rfl, upd_same, by omega, by omega, by rw [List.length_singleton, sizeLine_eq]; omega, fun D hD => ?_⟩⟩
    rw [Int.toNat_natCast, flat_rep]
    have e1 := (ex_upd (o := .lst [.int 0]) hz).trans (ex_upd (o := .lst (List.replicate n (.int 0))) hD)
    have u1 : upd (upd H0 z (.lst [.int 0])) D (.lst (List.replicate n (.int 0))) D = some (.lst ((depM n []).map vN)) := by
      rw [upd_same]; unfold depM; rw [List.foldl_nil, List.map_replicate]; rfl
    have hD0 := (ex_upd (o := .lst [.int 0]) hz).fresh hD
    generalize upd (upd H0 z (.lst [.int 0])) D (.lst (List.replicate n (.int 0))) = H1 at e1 u1 ⊢
    walk_at "rs"
    have dapp : ∀ js p, depM n (js ++ [p]) = depStep (depM n js) p := fun js p => by unfold depM; rw [List.foldl_append]; rfl
    have dlen : ∀ js : List Jn, (depM n js).length = n + js.length := by
      intro js
      unfold depM
      have gen : ∀ (js : List Jn) (ds : List Nat), (js.foldl depStep ds).length = ds.length + js.length := by
        intro js
        induction js with
        | nil => intro ds; rfl
        | cons p t ih => intro ds; rw [List.foldl_cons, ih]; unfold depStep; rw [List.length_append, List.length_singleton, List.length_cons]; omega
      rw [gen, List.length_replicate]
    refine ⟨⟨_, Evl.ex_t e1 hb⟩, lpT (xs := xs) (fun i σ H' => Ex H0 H' ∧ H' D = some (.lst ((depM n (s.1.take i)).map vN)) ∧ ∃ t5 t6, σ = [some (.int n), some (.ref a), some (.ref b), some (.ref c), some (.ref D), t5, t6, none]) ⟨e1, u1, none, none, rfl⟩ (fun i σ' H' _ h => Evl.ex_t h.1 hb) ?_ ?_⟩
    · rintro i x σ H2 hx ⟨e2, u2, t5, t6, rfl⟩
      obtain ⟨p, hp, ⟨q0, rfl, hq0⟩⟩ := Paired.at' hxs hx
      have hq0 := Evl.ex_t e2 hq0
      have hi : i < s.1.length := (List.getElem?_eq_some_iff.mp hp).1
      obtain ⟨p1, p2⟩ := o4 i p hp
      have hl := dlen (s.1.take i)
      rw [List.length_take, Nat.min_eq_left (by omega)] at hl
      walk_at "rs"
      refine ⟨_, hq0, rfl, _, _, rfl, _, _, rfl, rfl, ?_⟩
      walk_at "rs"
      refine ⟨.inl ⟨rfl, _, .of u2⟩, ixM u2 (atI_nat (lnat_at (by omega))) (ixM u2 (atI_nat (lnat_at (by omega))) ?_)⟩
      walk_at "rs"
      refine ⟨D, _, _, rfl, rfl, u2, by rw [List.length_map, sizeLine_eq]; omega, e2.mut hD0, ?_⟩
      rw [upd_same, List.take_add_one, hp]
      show _ = some (HO.lst ((depM n (s.1.take i ++ [p])).map vN))
      rw [dapp]
      unfold depStep
      rw [List.map_append]
      congr 4
      show V.int _ = V.int _
      congr 1
      by_cases hc : (((depM n (s.1.take i)).getD p.2 0 : Nat) : Int) > ((depM n (s.1.take i)).getD p.1 0 : Nat)
      · rw [if_pos hc]; omega
      · rw [if_neg hc]; omega
    · rintro σ H2 ⟨e2, u2, t5, t6, rfl⟩
      walk_at "rs"
      rw [hlen, List.take_length] at u2
      have hl := dlen s.1
      refine ⟨⟨_, Evl.ex_t e2 hc⟩, fun M hM => ?_⟩
      refine lc_map (walk_tup (xs := s.2.map vN)) (fun k => vN ((depM n s.1).getD (s.2.getD k 0) 0)) (by rw [List.length_map]; omega) hM (fun H' e => Evl.ex_t e (Evl.ex_t e2 hc)) ?_ ?_
      · rintro k x H' H2' hk9 e ⟨rfl, hx⟩ Qe qe
        rw [List.getElem?_map] at hx
        cases hz : s.2[k]? with
        | none => rw [hz] at hx; cases hx
        | some o =>
          rw [hz] at hx
          cases hx
          have gz : s.2.getD k 0 = o := by simp [List.getD, hz]
          rw [gz] at qe
          have := o3 o (List.mem_of_getElem? hz)
          walk_at "rs"
          exact ixM (e _ _ u2) (atI_nat (lnat_at (by omega))) (qe _ (Ex.refl _))
      intro H3 e3 l3
      have l3' : H3 M = some (.lst (((s.2.map fun o => (depM n s.1).getD o 0).map (fun z : Nat => (z : Int))).map V.int)) := by
        rw [l3, List.length_map, List.map_map, List.map_map]
        congr 2
        have := range_take s.2 0
        conv => rhs; rw [← this, List.map_map]
        rfl
      refine ⟨M, _, rfl, .of l3', by rw [List.length_map, List.length_map]; omega, fun m hm hmx => ?_⟩
      walk_at "rs"
      have hmax := maxL_is (l := s.2.map fun o => (depM n s.1).getD o 0) (by rw [List.length_map]; omega)
      obtain ⟨mz, hmz, rfl⟩ := List.mem_map.mp hm
      have h1 := hmx _ (List.mem_map.mpr ⟨_, hmax.1, rfl⟩)
      have h2 := hmax.2 _ hmz
      have : mz = maxL (s.2.map fun o => (depM n s.1).getD o 0) := by omega
      rw [this]
      exact q _ ((e0.trans e2).trans e3)
def sp_carries_told (K : PySem.W.Frag) : Sp := fun vs H Q _ => ∃ (n : Nat) (v : V) (s : JS) (i j : Int) (c : Bool), vs = [.int n, v, .int i, .int j, .int (b2i c)] ∧ 1 ≤ n ∧ n ≤ 32 ∧ PlAt K H v s ∧ POk n s ∧ 0 ≤ i ∧ 0 ≤ j ∧ ∀ p H', Ex H H' → H' p = some (.tup (s.2.map fun o => .int (b2i (rowB i j ((rowsM n s.1).getD o []) c)))) → Q (.ref p) H'
set_option maxHeartbeats 4000000 in
theorem ok_carries_told (T : TxtW w K mg) : FnOk P w K mg base CX0 1 T.f_carries_told T.d_carries_told P_carries_told (sp_carries_told K) := by
  refine T.F_carries_told.ok sc_carries_told (fun vs H Q E h => ?_) (fun cdv A outer s H vs Q E hr h => ?_)
  · obtain ⟨n, v, s, i, j, cc, rfl, _⟩ := h; rfl
  · obtain ⟨n, v, s, i, j, cc, rfl, h1, h2, ⟨a, b, c, xs, rfl, ha, hb, hxs, hc⟩, ⟨o1, o2, o3, o4⟩, i0, j0, q⟩ := h
    refine ⟨_, (pss_cons (ps_asg (pv 1) (pg_tup (n := 2) rfl (pgs_cons (pg_name (i := 5) sc_carries_told.nd rfl (Or.inl rfl)) (pgs_cons (pg_name (i := 6) sc_carries_told.nd rfl (Or.inl rfl)) pgs_nil))))
      (pss_cons (ps_set (i := 7) sc_carries_told.nd rfl (Or.inr rfl) (pe_lc (own := [("place", 8)]) (g := gName 8) (tt := tYes) (by rfl) sc_carries_told.nd (pi_range1 (by rfl) T.n_range (pa_cons (pv 0) pa_nil)) (blkOk_by (own := [("place", 8)]) (N := N_carries_told) (sc := defScope s_carries_told) (by decide +kernel)) (fun _ _ _ _ _ => (pg_name (i := 8) sc_carries_told.nd rfl (by first | exact Or.inl rfl | exact Or.inr rfl))) (fun _ _ _ _ _ => pts_nil) (fun _ _ _ _ _ => (pe_op op_and1 (pe_op op_shr (pe_op op_and (pv 2) (pv 3)) (pv 8)) pe_int))))
      (pss_cons (ps_set (i := 9) sc_carries_told.nd rfl (Or.inr rfl) (pe_lc (own := [("place", 8)]) (g := gName 8) (tt := tYes) (by rfl) sc_carries_told.nd (pi_range1 (by rfl) T.n_range (pa_cons (pv 0) pa_nil)) (blkOk_by (own := [("place", 8)]) (N := N_carries_told) (sc := defScope s_carries_told) (by decide +kernel)) (fun _ _ _ _ _ => (pg_name (i := 8) sc_carries_told.nd rfl (by first | exact Or.inl rfl | exact Or.inr rfl))) (fun _ _ _ _ _ => pts_nil) (fun _ _ _ _ _ => (pe_op op_and1 (pe_op op_shr (pe_op op_xor (pv 2) (pv 3)) (pv 8)) pe_int))))
      (pss_cons (ps_for PassesOwn.never rfl (pi_tup (pv 5)) (pg_tup (n := 2) rfl (pgs_cons (pg_name (i := 10) sc_carries_told.nd rfl (Or.inl rfl)) (pgs_cons (pg_name (i := 11) sc_carries_told.nd rfl (Or.inl rfl)) pgs_nil))) (pss_cons (ps_expr (pe_bm PySem.F.plainAttrs_list PySem.F.slot_list_append PySem.F.type_list_append mt_append (pv 7) (pa_cons (pe_op op_or (pe_ix ix_list (pv 7) (pv 10) (fun _ _ => rfl)) (pe_op op_and (pe_ix ix_list (pv 9) (pv 10) (fun _ _ => rfl)) (pe_ix ix_list (pv 7) (pv 11) (fun _ _ => rfl)))) pa_nil)))
      (pss_one (ps_expr (pe_bm PySem.F.plainAttrs_list PySem.F.slot_list_append PySem.F.type_list_append mt_append (pv 9) (pa_cons (pe_op op_and (pe_ix ix_list (pv 9) (pv 10) (fun _ _ => rfl)) (pe_ix ix_list (pv 9) (pv 11) (fun _ _ => rfl))) pa_nil))))))
      (pss_one (ps_ret (pe_callTy call_tuple_of (by rfl) T.n_tuple (by decide +kernel) (pa_cons (pe_lc (own := [("piece", 12)]) (g := gName 12) (tt := tYes) (by rfl) sc_carries_told.nd (pi_tup (pv 6)) (blkOk_by (own := [("piece", 12)]) (N := N_carries_told) (sc := defScope s_carries_told) (by decide +kernel)) (fun _ _ _ _ _ => (pg_name (i := 12) sc_carries_told.nd rfl (by first | exact Or.inl rfl | exact Or.inr rfl))) (fun _ _ _ _ _ => pts_nil) (fun _ _ _ _ _ => (pe_op op_or (pe_ix (k_ix_list (K := K) rfl) (pv 7) (pv 12) (fun _ _ => rfl)) (pe_op op_and (pe_ix (k_ix_list (K := K) rfl) (pv 9) (pv 12) (fun _ _ => rfl)) (pv 4))))) pa_nil)))))))), ?_⟩
    have hlen := Paired.len' hxs
    walk_at "rs"
    refine ⟨_, ha, rfl, _, _, rfl, _, _, rfl, rfl, ?_⟩
    walk_at "go"
    intro M hM
    refine lc_map (n := n) walk_range (fun k => .int (b2i (bitB i k && bitB j k))) (by omega) hM (fun _ _ => trivial) ?_ ?_
    · rintro k x H' H2' hk9 e ⟨rfl, rfl⟩ Qe qe
      walk_at "rs"
      rw [Int.zero_add]
      refine ⟨by omega, ?_⟩
      rw [Int.toNat_natCast, bit_and i0 j0]
      exact qe _ (Ex.refl _)
    intro H1 e1 l1
    walk_at "rs"
    refine ⟨by omega, by omega, fun N hN => ?_⟩
    refine lc_map (n := n) walk_range (fun k => .int (b2i (bitB i k ^^ bitB j k))) (by omega) hN (fun _ _ => trivial) ?_ ?_
    · rintro k x H' H2' hk9 e ⟨rfl, rfl⟩ Qe qe
      walk_at "rs"
      rw [Int.zero_add]
      refine ⟨by omega, ?_⟩
      rw [Int.toNat_natCast, bit_xor i0 j0]
      exact qe _ (Ex.refl _)
    intro H2 e2 l2
    walk_at "rs"
    have nMN : M ≠ N := fun z => by rw [← z, l1] at hN; cases hN
    have hM0 := hM
    have hN0 : H N = none := e1.fresh hN
    have e12 := e1.trans e2
    have u1 : H2 M = some (.lst (((List.range n).map fun p => bitB i p && bitB j p).map fun z => V.int (b2i z))) := by rw [e2 _ _ l1, List.map_map]; rfl
    have u2 : H2 N = some (.lst (((List.range n).map fun p => bitB i p ^^ bitB j p).map fun z => V.int (b2i z))) := by rw [l2, List.map_map]; rfl
    have bAt : ∀ (gs : List Bool) (k : Nat), k < gs.length → (gs.map fun z => V.int (b2i z))[k]? = some (V.int (b2i (gs.getD k false))) := fun gs k hk => by
      rw [List.getElem?_map]
      have : gs[k]? = some (gs.getD k false) := by unfold List.getD; rw [List.getElem?_eq_getElem hk]; rfl
      rw [this]; rfl
    refine ⟨⟨_, Evl.ex_t e12 hb⟩, lpT (xs := xs) (fun t σ H' => Ex H H' ∧ ∃ gs ps : List Bool, H' M = some (.lst (gs.map fun z => V.int (b2i z))) ∧ H' N = some (.lst (ps.map fun z => V.int (b2i z))) ∧ GP i j (rowsM n (s.1.take t)) gs ps ∧ ∃ t8 t10 t11, σ = [some (.int n), some (.ref a), some (.int i), some (.int j), some (.int (b2i cc)), some (.ref b), some (.ref c), some (.ref M), t8, some (.ref N), t10, t11, none]) ⟨e12, _, _, u1, u2, GP.init i j n, none, none, none, rfl⟩ (fun i σ' H' _ h => Evl.ex_t h.1 hb) ?_ ?_⟩
    · rintro t x σ H3 hx ⟨e3, gs, ps, w1, w2, hgp, t8, t10, t11, rfl⟩
      obtain ⟨p, hp, ⟨q0, rfl, hq0⟩⟩ := Paired.at' hxs hx
      have hq0 := Evl.ex_t e3 hq0
      have ht : t < s.1.length := (List.getElem?_eq_some_iff.mp hp).1
      obtain ⟨p1, p2⟩ := o4 t p hp
      have hrl := rows_len n (s.1.take t)
      rw [List.length_take, Nat.min_eq_left (by omega)] at hrl
      have g1 := hgp.1
      have g2 := hgp.2.1
      walk_at "rs"
      refine ⟨_, hq0, rfl, _, _, rfl, _, _, rfl, rfl, ?_⟩
      walk_at "rs"
      refine ⟨.inl ⟨rfl, _, .of w1⟩, ixM w1 (atI_nat (bAt gs _ (by omega))) ?_⟩
      refine ixM w2 (atI_nat (bAt ps _ (by omega))) (ixM w1 (atI_nat (bAt gs _ (by omega))) ⟨_, rfl, _, rfl, _, rfl, ?_⟩)
      rw [and_b2i, or_b2i]
      refine ⟨M, _, _, rfl, rfl, w1, by rw [List.length_map, sizeLine_eq]; omega, ?_⟩
      have w3 : upd H3 M (.lst ((gs.map fun z => V.int (b2i z)) ++ [.int (b2i (gs.getD p.1 false || (ps.getD p.1 false && gs.getD p.2 false)))])) N = some (.lst (ps.map fun z => V.int (b2i z))) := by rw [upd_ne nMN.symm]; exact w2
      refine ⟨.inl ⟨rfl, _, .of w3⟩, ixM w3 (atI_nat (bAt ps _ (by omega))) (ixM w3 (atI_nat (bAt ps _ (by omega))) ⟨_, rfl, _, rfl, ?_⟩)⟩
      rw [and_b2i]
      refine ⟨N, _, _, rfl, rfl, w3, by rw [List.length_map, sizeLine_eq]; omega, ?_⟩
      refine ⟨(e3.mut hM0).mut hN0, gs ++ [gs.getD p.1 false || (ps.getD p.1 false && gs.getD p.2 false)], ?_, ps ++ [ps.getD p.1 false && ps.getD p.2 false], ?_, ?_⟩
      · rw [upd_ne nMN, upd_same, List.map_append]; rfl
      · rw [upd_same, List.map_append]; rfl
      · rw [List.take_add_one, hp]
        show GP i j (rowsM n (s.1.take t ++ [p])) _ _
        rw [rowsM_app]
        exact hgp.step (by omega) (by omega)
    · rintro σ H3 ⟨e3, gs, ps, w1, w2, hgp, t8, t10, t11, rfl⟩
      rw [hlen, List.take_length] at hgp
      have hrl := rows_len n s.1
      have g1 := hgp.1
      have g2 := hgp.2.1
      walk_at "rs"
      refine ⟨⟨_, Evl.ex_t e3 hc⟩, fun D hD => ?_⟩
      refine lc_map (walk_tup (xs := s.2.map vN)) (fun k => .int (b2i (rowB i j ((rowsM n s.1).getD (s.2.getD k 0) []) cc))) (by rw [List.length_map]; omega) hD (fun H' e => Evl.ex_t e (Evl.ex_t e3 hc)) ?_ ?_
      · rintro k x H' H2' hk9 e ⟨rfl, hx⟩ Qe qe
        rw [List.getElem?_map] at hx
        cases hz : s.2[k]? with
        | none => rw [hz] at hx; cases hx
        | some o =>
          rw [hz] at hx
          cases hx
          have gz : s.2.getD k 0 = o := by simp [List.getD, hz]
          rw [gz] at qe
          have := o3 o (List.mem_of_getElem? hz)
          walk_at "rs"
          refine ixM (e _ _ w1) (atI_nat (bAt gs _ (by omega))) (ixM (e _ _ w2) (atI_nat (bAt ps _ (by omega))) ⟨_, rfl, _, rfl, ?_⟩)
          rw [and_b2i, or_b2i, hgp.2.2 o (by omega) cc]
          exact qe _ (Ex.refl _)
      intro H4 e4 l4
      refine ⟨_, .inl ⟨.of l4, fun l hl => q _ _ ((e3.trans e4).trans (ex_upd hl)) ?_⟩⟩
      rw [upd_same, List.length_map]
      congr 2
      conv => rhs; rw [← range_take s.2 0, List.map_map]
      rfl
def sp_carries_by (K : PySem.W.Frag) : Sp := fun vs H Q _ => ∃ (n : Nat) (v : V) (s : JS) (i j : Int) (c : Bool), vs = [.int n, v, .int i, .int j, .int (b2i c)] ∧ 1 ≤ n ∧ n ≤ 32 ∧ PlAt K H v s ∧ POk n s ∧ 0 ≤ i ∧ i < 2 ^ n ∧ 0 ≤ j ∧ j < 2 ^ n ∧ ∀ p H', Ex H H' → H' p = some (.tup (s.2.map fun o => .int (b2i (rowB i j ((rowsM n s.1).getD o []) c)))) → Q (.ref p) H'
set_option maxHeartbeats 4000000 in
theorem ok_carries_by (T : TxtW w K mg) : FnOk P w K mg base CX0 7 T.f_carries_by T.d_carries_by P_carries_by (sp_carries_by K) := by
  have G_check_plan := ok_check_plan (P := P) (w := w) (base := base) T
  have G_check_word := ok_check_word (P := P) (w := w) (base := base) T
  have G_check_number := ok_check_number (P := P) (w := w) (base := base) T
  have G_carries_told := ok_carries_told (P := P) (w := w) (base := base) T
  refine T.F_carries_by.ok sc_carries_by (fun vs H Q E h => ?_) (fun cdv A outer s H vs Q E hr h => ?_)
  · obtain ⟨n, v, s, i, j, cc, rfl, _⟩ := h; rfl
  · obtain ⟨n, v, s, i, j, cc, rfl, h1, h2, hpl, hok, i0, i1, j0, j1, q⟩ := h
    refine ⟨_, (pss_cons (ps_expr (pe_call G_check_plan (hr.mono (by decide)) (by rfl) T.m_check_plan T.F_check_plan.kp T.b_check_plan .nil pass0 (pa_cons (pv 0) (pa_cons (pv 1) pa_nil))))
      (pss_cons (ps_expr (pe_call G_check_word (hr.mono (by decide)) (by rfl) T.m_check_word T.F_check_word.kp T.b_check_word .nil pass0 (pa_cons (pv 0) (pa_cons (pv 2) pa_nil))))
      (pss_cons (ps_expr (pe_call G_check_word (hr.mono (by decide)) (by rfl) T.m_check_word T.F_check_word.kp T.b_check_word .nil pass0 (pa_cons (pv 0) (pa_cons (pv 3) pa_nil))))
      (pss_cons (ps_expr (pe_call G_check_number (hr.mono (by decide)) (by rfl) T.m_check_number T.F_check_number.kp T.b_check_number .nil pass0 (pa_cons (pv 4) (pa_cons pe_int (pa_cons pe_int pa_nil)))))
      (pss_one (ps_ret (pe_call G_carries_told (hr.mono (by decide)) (by rfl) T.m_carries_told T.F_carries_told.kp T.b_carries_told .nil pass0 (pa_cons (pv 0) (pa_cons (pv 1) (pa_cons (pv 2) (pa_cons (pv 3) (pa_cons (pv 4) pa_nil)))))))))))), ?_⟩
    walk_at "rs"
    refine ⟨n, v, s, rfl, h1, h2, hpl, hok, fun H0 e0 => ?_⟩
    walk_at "rs"
    refine ⟨n, i, rfl, by omega, i0, i1, ?_⟩
    walk_at "rs"
    refine ⟨n, j, rfl, by omega, j0, j1, ?_⟩
    walk_at "rs"
    have hc : 0 ≤ b2i cc ∧ b2i cc ≤ 1 := by cases cc <;> decide
    refine ⟨_, _, _, rfl, .int, btw_ok hc.1 hc.2 (by omega) (by omega), ?_⟩
    walk_at "rs"
    exact ⟨n, v, s, i, j, cc, rfl, h1, h2, hpl.ex e0, hok, i0, j0, fun p H1 e1 u1 => q p H1 (e0.trans e1) u1⟩
def sp_paper_for (K : PySem.W.Frag) : Sp := fun vs H Q _ => ∃ (p : Nat) (r : V), vs = [.int p, r] ∧ p ≤ 100 ∧ TNat K H r (downTo p) ∧ ∀ H', Ex H H' → Q .non H'
set_option maxHeartbeats 4000000 in
theorem ok_paper_for (T : TxtW w K mg) : FnOk P w K mg base CX0 1 T.f_paper_for T.d_paper_for P_paper_for (sp_paper_for K) := by
  refine T.F_paper_for.ok sc_paper_for (fun vs H Q E h => ?_) (fun cdv A outer s H vs Q E hr h => ?_)
  · obtain ⟨p, r, rfl, _⟩ := h; rfl
  · obtain ⟨p, r, rfl, hp, ⟨q1, rfl, h1⟩, q⟩ := h
    refine ⟨_, (pss_cons (ps_set (i := 2) sc_paper_for.nd rfl (Or.inl rfl) (pe_tupRg3 (by rfl) (by rfl) T.n_tuple (prg_3 (by rfl) T.n_range (pa_cons (pv 0) (pa_cons (pe_un un_neg pe_int) (pa_cons (pe_un un_neg pe_int) pa_nil))))))
      (pss_cons (ps_if (pt_cmpR (op_eqD hr.units) (pv 1) (pv 2) (nomark _)) (pss_one (ps_ret pe_non)) pss_nil)
      (pss_cons (ps_set (i := 3) sc_paper_for.nd rfl (Or.inl rfl) pe_int)
      (pss_cons (ps_while PassesOwn.never (PW.pt (pw_and (pt_cmpR op_lt (pv 3) (pe_callB (call_min2 rfl) (by rfl) T.n_min (by decide +kernel) (pa_cons (pe_callB call_len_seq (by rfl) T.n_len (by decide +kernel) (pa_cons (pv 1) pa_nil)) (pa_cons (pe_callB call_len_seq (by rfl) T.n_len (by decide +kernel) (pa_cons (pv 2) pa_nil)) pa_nil))) (nomark _)) (pw_and1 (pt_cmpR op_eq (pe_ix ix_tup (pv 1) (pv 3) (fun _ _ => rfl)) (pe_ix ix_tup (pv 2) (pv 3) (fun _ _ => rfl)) (nomark _))))) (pss_one (ps_aug (i := 3) sc_paper_for.nd rfl (Or.inl rfl) pe_int ip_add)))
      (pss_cons (ps_set (i := 4) sc_paper_for.nd rfl (Or.inl rfl) (pe_ifExp (pt_cmpR op_lt (pv 3) (pe_callB call_len_seq (by rfl) T.n_len (by decide +kernel) (pa_cons (pv 2) pa_nil)) (nomark _)) (pe_ix ix_tup (pv 2) (pv 3) (fun _ _ => rfl)) (pe_ix ix_tup (pv 1) (pv 3) (fun _ _ => rfl))))
      (pss_cons (ps_set (i := 5) sc_paper_for.nd rfl (Or.inl rfl) (pe_callB (cr_sum rfl) (by rfl) T.n_sum (by decide +kernel) (pa_cons (pe_lc (own := [("at", 6)]) (g := gName 6) (tt := tYes) (by rfl) sc_paper_for.nd (pi_tup (pe_slice sl_tupA (pv 2) po_none (po_some (pv 3)))) (blkOk_by (own := [("at", 6)]) (N := N_paper_for) (sc := defScope s_paper_for) (by decide +kernel)) (fun _ _ _ _ _ => (pg_name (i := 6) sc_paper_for.nd rfl (by first | exact Or.inl rfl | exact Or.inr rfl))) (fun _ _ _ _ _ => pts_nil) (fun _ _ _ _ _ => (pe_op op_shl pe_int (pv 6)))) pa_nil)))
      (pss_one (ps_ret (pe_tup (pa_cons (pv 0) (pa_cons (pe_op op_or (pv 5) (pe_op op_shl pe_int (pv 4))) (pa_cons (pe_op op_shl pe_int (pv 4)) (pa_cons pe_int pa_nil))))))))))))), ?_⟩
    walk_at "rs"
    unfold tTupRg3 tRg3
    walk_at "rs"
    refine ⟨⟨by omega, by omega, by omega, by omega, by omega⟩, fun t ht => ?_⟩
    have e1 := ex_upd (o := .tup (rgD (p : Int) (-1))) ht
    have u1 : upd H t (.tup (rgD (p : Int) (-1))) t = _ := upd_same
    generalize upd H t (.tup (rgD (p : Int) (-1))) = H1 at e1 u1 ⊢
    rw [rgD_down] at u1
    walk_at "rs"
    refine eqTN (Evl.ex_t e1 h1) (.of u1) ?_
    rw [decide_eq_true (rfl : downTo p = downTo p)]
    exact ⟨true, rfl, by rw [if_pos rfl]; exact q H1 e1⟩
def sp_plan_paper (K : PySem.W.Frag) : Sp := fun vs H Q _ => ∃ (n : Nat) (v : V) (s : JS), vs = [.int n, v] ∧ 1 ≤ n ∧ n ≤ 32 ∧ PlAt K H v s ∧ POk n s ∧ (∀ at_, at_ < n → (rowsM n s.1).getD (s.2.getD at_ 0) [] = downTo at_) ∧ ∀ H', Ex H H' → Q .non H'
set_option maxHeartbeats 4000000 in
theorem ok_plan_paper (T : TxtW w K mg) : FnOk P w K mg base CX0 7 T.f_plan_paper T.d_plan_paper P_plan_paper (sp_plan_paper K) := by
  have G_check_plan := ok_check_plan (P := P) (w := w) (base := base) T
  have G_rows_found := ok_rows_found (P := P) (w := w) (base := base) T
  have G_paper_for := ok_paper_for (P := P) (w := w) (base := base) T
  refine T.F_plan_paper.ok sc_plan_paper (fun vs H Q E h => ?_) (fun cdv A outer s H vs Q E hr h => ?_)
  · obtain ⟨n, v, s, rfl, _⟩ := h; rfl
  · obtain ⟨n, v, s, rfl, h1, h2, hpl, hok, hrows, q⟩ := h
    refine ⟨_, (pss_cons (ps_expr (pe_call G_check_plan (hr.mono (by decide)) (by rfl) T.m_check_plan T.F_check_plan.kp T.b_check_plan .nil pass0 (pa_cons (pv 0) (pa_cons (pv 1) pa_nil))))
      (pss_cons (ps_set (i := 2) sc_plan_paper.nd rfl (Or.inl rfl) (pe_call G_rows_found (hr.mono (by decide)) (by rfl) T.m_rows_found T.F_rows_found.kp T.b_rows_found .nil pass0 (pa_cons (pv 0) (pa_cons (pv 1) pa_nil))))
      (pss_cons (ps_for PassesOwn.never rfl (pi_enumT (by rfl) T.n_enumerate (pa_cons (pe_ix ix_tup (pv 1) pe_int (fun _ _ => rfl)) pa_nil)) (pg_tup (n := 2) rfl (pgs_cons (pg_name (i := 3) sc_plan_paper.nd rfl (Or.inl rfl)) (pgs_cons (pg_name (i := 4) sc_plan_paper.nd rfl (Or.inl rfl)) pgs_nil))) (pss_cons (ps_set (i := 5) sc_plan_paper.nd rfl (Or.inl rfl) (pe_call G_paper_for (hr.mono (by decide)) (by rfl) T.m_paper_for T.F_paper_for.kp T.b_paper_for .nil pass0 (pa_cons (pv 3) (pa_cons (pe_ix ix_list (pv 2) (pv 4) (fun _ _ => rfl)) pa_nil))))
      (pss_one (ps_if (pt_cmpR op_notN (pv 5) pe_non (nomark _)) (pss_one (ps_ret (pv 5))) pss_nil))))
      (pss_one (ps_ret pe_non))))), ?_⟩
    walk_at "rs"
    refine ⟨n, v, s, rfl, h1, h2, hpl, hok, fun H0 e0 => ?_⟩
    walk_at "rs"
    refine ⟨n, v, s, rfl, h1, h2, hpl.ex e0, hok, fun P rs H1 e1 hP u1 hr1 => ?_⟩
    obtain ⟨a, b, c, xs, rfl, ha, hb, hxs, hc⟩ := (hpl.ex e0).ex e1
    walk_at "rs"
    refine ixT ha rfl ?_
    have ol := hok.2.1
    refine ⟨c, rfl, ⟨_, hc⟩, lpET (xs := s.2.map vN) (fun t σ H' => Ex H1 H' ∧ ∃ t3 t4 t5, σ = [some (.int n), some (.ref a), some (.ref P), t3, t4, t5]) ⟨Ex.refl _, none, none, none, rfl⟩ (fun i σ' H' _ h => Evl.ex_t h.1 hc) ?_ ?_⟩
    · rintro t x B σ H2 hx ⟨e2, t3, t4, t5, rfl⟩ hB
      obtain ⟨o, ho, rfl⟩ := nat_at hx
      have ht : t < n := by have := (List.getElem?_eq_some_iff.mp ho).1; omega
      have hro := hrows t ht
      have go : s.2.getD t 0 = o := by simp [List.getD, ho]
      rw [go] at hro
      have hol := hok.2.2.1 o (List.mem_of_getElem? ho)
      have hrl := Paired.len' hr1
      rw [rows_len] at hrl
      have hq9 := List.getElem?_eq_getElem (show o < rs.length by omega)
      obtain ⟨y, hy1, hq1⟩ := Paired.at' hr1 hq9
      have : (rowsM n s.1).getD o [] = y := by simp [List.getD, hy1]
      rw [hro] at this
      rw [← this] at hq1
      have e3 := ex_upd (o := .tup [V.int t, vN o]) hB
      have u3 : upd H2 B (.tup [V.int t, vN o]) B = _ := upd_same
      generalize upd H2 B (.tup [V.int t, vN o]) = H3 at e3 u3 ⊢
      walk_at "rs"
      refine ⟨_, .of u3, rfl, _, _, rfl, _, _, rfl, rfl, ?_⟩
      walk_at "rs"
      refine ixM (e3 _ _ (e2 _ _ u1)) (atI_nat hq9) ?_
      refine ⟨t, _, rfl, by omega, hq1.ex (e2.trans e3), fun H4 e4 => ?_⟩
      walk_at "rs"
      exact e2.trans (e3.trans e4)
    · rintro σ H2 ⟨e2, t3, t4, t5, rfl⟩
      walk_at "rs"
      exact q H2 (e0.trans (e1.trans e2))
def sp_law_dice (K : PySem.W.Frag) : Sp := fun vs H Q _ => ∃ (a : Addr) (ns : List Int) (k : Nat), vs = [.ref a, .int k] ∧ SqL K H a (ns.map V.int) ∧ k ≤ 1000 ∧ ∀ l m p, 0 ≤ l → 0 ≤ m → H p = none → Q (.ref p) (upd H p (dice3 l m 0))
set_option maxHeartbeats 4000000 in
theorem ok_law_dice (T : TxtW w K mg) : FnOk P w K mg base CX0 1 T.f_law_dice T.d_law_dice P_law_dice (sp_law_dice K) := by
  refine T.F_law_dice.ok sc_law_dice (fun vs H Q E h => ?_) (fun cdv A outer s H vs Q E hr h => ?_)
  · obtain ⟨a, ns, k, rfl, _⟩ := h; rfl
  · obtain ⟨a, ns, k, rfl, hS, hk, q⟩ := h
    refine ⟨_, (pss_cons (ps_set (i := 2) sc_law_dice.nd rfl (Or.inl rfl) (pe_op op_add (pe_op op_mulA pe_int (pv 1)) pe_int))
      (pss_cons (ps_if (pt_cmpR op_lt (pv 1) (pe_callB call_len_seq (by rfl) T.n_len (by decide +kernel) (pa_cons (pv 0) pa_nil)) (nomark _)) (pss_one (ps_set (i := 2) sc_law_dice.nd rfl (Or.inl rfl) (pe_ix ix_list (pv 0) (pv 1) (fun _ _ => rfl)))) pss_nil)
      (pss_cons (ps_set (i := 3) sc_law_dice.nd rfl (Or.inl rfl) (pe_op op_mod (pe_callTy call_int1 (by rfl) T.n_int (by decide +kernel) (pa_cons (pe_callB call_abs (by rfl) T.n_abs (by decide +kernel) (pa_cons (pv 2) pa_nil)) pa_nil)) (pe_op op_powW (pe_op op_powW pe_int pe_int) pe_int)))
      (pss_cons (ps_set (i := 4) sc_law_dice.nd rfl (Or.inl rfl) (pe_op op_fdivW (pv 3) (pe_op op_powW pe_int pe_int)))
      (pss_cons (ps_set (i := 5) sc_law_dice.nd rfl (Or.inl rfl) (pe_op op_add (pe_op op_add (pe_op op_add (pe_op op_mulA (pe_op op_mod (pv 3) pe_int) pe_int) (pe_op op_mulA pe_int (pv 1))) (pe_op op_mulA pe_int (pe_callTy call_int1 (by rfl) T.n_int (by decide +kernel) (pa_cons (pe_cmpR op_lt (pv 2) pe_int (nomark _)) pa_nil)))) pe_int))
      (pss_one (ps_ret (pe_lst (pa_cons (pv 4) (pa_cons (pe_op op_mod (pv 5) pe_int) (pa_cons pe_int pa_nil))))))))))), ?_⟩
    walk_at "rd"
    have hM : (0 : Int) < (10 ^ Int.toNat 62) ^ Int.toNat 10 := by decide +kernel
    have hD : (0 : Int) < 10 ^ Int.toNat 18 := by decide +kernel
    have p1 : CPowW 10 62 := ⟨by decide, by decide +kernel⟩
    have p2 : CPowW (10 ^ Int.toNat 62) 10 := ⟨by decide, by decide +kernel⟩
    have p3 : CPowW 10 18 := ⟨by decide, by decide +kernel⟩
    have d1 : ∀ x : Int, CDivW x (10 ^ Int.toNat 18) := fun x => divw 100 hD (by decide +kernel)
    refine ⟨mulL (by decide), ns.map V.int, .inl hS, ?_⟩
    refine ite2 (fun hlt => ?_) (fun hlt => ?_)
    · have hlt' : k < ns.length := by simpa using hlt
      refine ixL (v := .int ns[k]) hS (atI_nat (by simp [hlt'])) ⟨ns[k], rfl, p1, p2, hM, p3, d1 _, by decide, mulR (by decide), mulL (by decide), ns[k], rfl, mulL (by decide), by decide, by decide, fun p hp => q _ _ p ?_ ?_ hp⟩
      · exact Int.ediv_nonneg (mod_bd hM).1 (by omega)
      · exact (mod_bd (by decide)).1
    · refine ⟨p1, p2, hM, p3, d1 _, by decide, mulR (by decide), mulL (by decide), mulL (by decide), by decide, by decide, fun p hp => q _ _ p ?_ ?_ hp⟩
      · exact Int.ediv_nonneg (mod_bd hM).1 (by omega)
      · exact (mod_bd (by decide)).1
def sp_law_roll (K : PySem.W.Frag) : Sp := fun vs H Q _ => ∃ (d : Addr) (t : Int), vs = [.ref d, .int t] ∧ DiceAt H d ∧ 0 < t ∧ t < 2 ^ 4000 ∧ ∀ i l m n, 0 ≤ i → i < t → 0 ≤ l → 0 ≤ m → 0 ≤ n → Q (.int i) (upd H d (dice3 l m n))
set_option maxHeartbeats 4000000 in
theorem ok_law_roll (T : TxtW w K mg) : FnOk P w K mg base CX0 1 T.f_law_roll T.d_law_roll P_law_roll (sp_law_roll K) := by
  refine T.F_law_roll.ok sc_law_roll (fun vs H Q E h => ?_) (fun cdv A outer s H vs Q E hr h => ?_)
  · obtain ⟨d, t, rfl, _⟩ := h; rfl
  · obtain ⟨d, t, rfl, ⟨l, m, n, hl, hm, hn, hd⟩, h0, h1, q⟩ := h
    refine ⟨_, (pss_cons (ps_set (i := 2) sc_law_roll.nd rfl (Or.inl rfl) (pe_callTy call_int1 (by rfl) T.n_int (by decide +kernel) (pa_cons (pv 1) pa_nil)))
      (pss_cons (ps_if (pt_cmpR op_gt (pe_ix ix_list (pv 0) pe_int (fun _ _ => rfl)) pe_int (nomark _)) (pss_cons (ps_set (i := 3) sc_law_roll.nd rfl (Or.inl rfl) (pe_op op_mod (pe_ix ix_list (pv 0) pe_int (fun _ _ => rfl)) (pv 2)))
      (pss_cons (ps_asg (pe_op op_fdivW (pe_ix ix_list (pv 0) pe_int (fun _ _ => rfl)) (pv 2)) (pg_sub (pv 0) pe_int set_list))
      (pss_one (ps_ret (pe_callTy call_int1 (by rfl) T.n_int (by decide +kernel) (pa_cons (pv 3) pa_nil)))))) pss_nil)
      (pss_cons (ps_asg (pe_op op_add (pe_ix ix_list (pv 0) pe_int (fun _ _ => rfl)) pe_int) (pg_sub (pv 0) pe_int set_list))
      (pss_cons (ps_set (i := 4) sc_law_roll.nd rfl (Or.inl rfl) (pe_op op_mod (pe_op op_add (pe_ix ix_list (pv 0) pe_int (fun _ _ => rfl)) (pe_op op_mulA pe_int (pe_ix ix_list (pv 0) pe_int (fun _ _ => rfl)))) pe_int))
      (pss_cons (ps_set (i := 5) sc_law_roll.nd rfl (Or.inl rfl) (pe_op op_add (pe_op op_mulA (pe_op op_mod (pe_op op_mulA (pv 4) (pv 4)) pe_int) (pv 4)) (pe_op op_mulA pe_int (pe_ix ix_list (pv 0) pe_int (fun _ _ => rfl)))))
      (pss_cons (ps_set (i := 5) sc_law_roll.nd rfl (Or.inl rfl) (pe_op op_mod (pv 5) pe_int))
      (pss_one (ps_ret (pe_callTy call_int1 (by rfl) T.n_int (by decide +kernel) (pa_cons (pe_op op_mod (pe_op op_fdivW (pv 5) pe_int) (pv 2)) pa_nil)))))))))), ?_⟩
    walk_at "rd"
    refine ixM hd (v := .int l) rfl ⟨l, rfl, ite2 (fun hl0 => ?_) (fun hl0 => ?_)⟩
    · refine ixM hd (v := .int l) rfl ⟨l, rfl, h0, ixM hd (v := .int l) rfl ⟨l, rfl, divw 4000 h0 (by omega), setL hd (j := 0) rfl ?_⟩⟩
      exact q _ _ m n (mod_bd h0).1 (mod_bd h0).2 (Int.ediv_nonneg hl (by omega)) hm hn
    · refine ixM hd (v := .int n) rfl ⟨n, rfl, setL hd (j := 2) rfl (ixM upd_same (v := .int m) rfl (ixM upd_same (v := .int (n + 1)) rfl ⟨_, rfl, mulL (by decide), _, rfl, by decide, ?_⟩))⟩
      have b1 := mod_bd (a := m + 1000427 * (n + 1)) (b := 2305843009213693951) (by decide)
      generalize (m + 1000427 * (n + 1)) % 2305843009213693951 = one at b1 ⊢
      refine ⟨mulL (by omega), by decide, mulR (by omega), ixM upd_same (v := .int (n + 1)) rfl ⟨_, rfl, mulL (by decide), by decide, divw 20 (by decide) (by decide), h0, ?_⟩⟩
      exact q _ l m (n + 1) (mod_bd h0).1 (mod_bd h0).2 hl hm (by omega)
def sp_law_two_to (K : PySem.W.Frag) : Sp := fun vs H Q _ => ∃ n : Nat, vs = [.int n] ∧ n ≤ 100000 ∧ Q (.int (2 ^ n)) H
set_option maxHeartbeats 4000000 in
theorem ok_law_two_to (T : TxtW w K mg) : FnOk P w K mg base CX0 1 T.f_law_two_to T.d_law_two_to P_law_two_to (sp_law_two_to K) := by
  refine T.F_law_two_to.ok sc_law_two_to (fun vs H Q E h => ?_) (fun cdv A outer s H vs Q E hr h => ?_)
  · obtain ⟨n, rfl, _⟩ := h; rfl
  · obtain ⟨n, rfl, hn, q⟩ := h
    refine ⟨_, (pss_cons (ps_set (i := 1) sc_law_two_to.nd rfl (Or.inl rfl) pe_int)
      (pss_cons (ps_for PassesOwn.never rfl (pi_range1 (by rfl) T.n_range (pa_cons (pv 0) pa_nil)) (pg_name (i := 2) sc_law_two_to.nd rfl (Or.inl rfl)) (pss_one (ps_set (i := 1) sc_law_two_to.nd rfl (Or.inl rfl) (pe_op op_mulA pe_int (pv 1)))))
      (pss_one (ps_ret (pv 1))))), ?_⟩
    walk_at "rd"
    refine ⟨by omega, by omega, lpR n (fun i σ H' => H' = H ∧ ∃ t, σ = [some (.int n), some (.int (2 ^ i)), t]) ⟨rfl, _, rfl⟩ ?_ ?_⟩
    · rintro i σ H' hi ⟨rfl, t, rfl⟩
      walk_at "rd"
      exact ⟨mulL (by decide), by rw [Int.pow_succ, Int.mul_comm]⟩
    · rintro σ H' ⟨rfl, t, rfl⟩
      walk_at "rd"
      exact q
def sp_law_rounds (K : PySem.W.Frag) : Sp := fun vs H Q _ => ∃ (k : PK) (n : Nat), vs = [.str (pkS k), .int n] ∧ 1 ≤ n ∧ n ≤ 32 ∧ ∀ p xs H', Ex H H' → H p = none → H' p = some (.lst xs) → Paired (RdN K H H') xs (roundsM k n) → Q (.ref p) H'
set_option maxHeartbeats 4000000 in
theorem ok_law_rounds (T : TxtW w K mg) : FnOk P w K mg base CX0 1 T.f_law_rounds T.d_law_rounds P_law_rounds (sp_law_rounds K) := by
  refine T.F_law_rounds.ok sc_law_rounds (fun vs H Q E h => ?_) (fun cdv A outer s H vs Q E hr h => ?_)
  · obtain ⟨k, n, rfl, _⟩ := h; rfl
  · obtain ⟨k, n, rfl, h1, h2, q⟩ := h
    refine ⟨_, (pss_cons (ps_if (pt_cmpR op_eq (pv 0) pe_str (nomark _)) (pss_one (ps_ret (pe_lc (own := [("at", 2)]) (g := gName 2) (tt := tYes) (by rfl) sc_law_rounds.nd (pi_range2 (by rfl) T.n_range (pa_cons pe_int (pa_cons (pv 1) pa_nil))) (blkOk_by (own := [("at", 2)]) (N := N_law_rounds) (sc := defScope s_law_rounds) (by decide +kernel)) (fun _ _ _ _ _ => (pg_name (i := 2) sc_law_rounds.nd rfl (by first | exact Or.inl rfl | exact Or.inr rfl))) (fun _ _ _ _ _ => pts_nil) (fun _ _ _ _ _ => (pe_lst (pa_cons (pe_tup (pa_cons (pv 2) (pa_cons (pe_op op_sub (pv 2) pe_int) pa_nil))) pa_nil)))))) pss_nil)
      (pss_cons (ps_setLc (i := 3) (own := [("step", 4)]) (g := gName 4) (by rfl) sc_law_rounds.nd rfl rfl (sw_true rfl rfl rfl (by decide +kernel)) (pi_tup (pe_tup (pa_cons pe_int (pa_cons pe_int (pa_cons pe_int (pa_cons pe_int (pa_cons pe_int pa_nil))))))) (blkOk_by (own := [("step", 4)]) (N := N_law_rounds) (sc := defScope s_law_rounds) (by decide +kernel)) (fun _ _ _ _ _ => (pg_name (i := 4) sc_law_rounds.nd rfl (by first | exact Or.inl rfl | exact Or.inr rfl))) (fun _ _ _ _ _ => pts_one (pt_cmpR op_lt (pv 4) (pv 1) (nomark _))) (fun _ _ _ _ _ => (pv 4)))
      (pss_cons (ps_if (pt_cmpR op_eq (pv 0) pe_str (nomark _)) (pss_cons (ps_set (i := 5) sc_law_rounds.nd rfl (Or.inl rfl) (pe_lst pa_nil))
      (pss_cons (ps_for PassesOwn.never rfl (pi_list (pv 3)) (pg_name (i := 4) sc_law_rounds.nd rfl (Or.inr rfl)) (pss_one (ps_expr (pe_bm PySem.F.plainAttrs_list PySem.F.slot_list_append PySem.F.type_list_append mt_append (pv 5) (pa_cons (pe_lc (own := [("at", 2)]) (g := gName 2) (by rfl) sc_law_rounds.nd (pi_range1 (by rfl) T.n_range (pa_cons (pv 1) pa_nil)) (blkOk_by (own := [("at", 2)]) (N := N_law_rounds) (sc := defScope s_law_rounds) (by decide +kernel)) (fun _ _ _ _ _ => (pg_name (i := 2) sc_law_rounds.nd rfl (by first | exact Or.inl rfl | exact Or.inr rfl))) (fun _ _ _ _ _ => pts_one (pt_cmpR op_eq (pe_op op_mod (pe_op op_fdivW (pv 2) (pv 4)) pe_int) pe_int (nomark _))) (fun _ _ _ _ _ => (pe_tup (pa_cons (pv 2) (pa_cons (pe_op op_sub (pe_op op_mulA (pe_op op_fdivW (pv 2) (pv 4)) (pv 4)) pe_int) pa_nil))))) pa_nil)))))
      (pss_one (ps_ret (pv 5))))) pss_nil)
      (pss_cons (ps_if (pt_cmpR op_eq (pv 0) pe_str (nomark _)) (pss_one (ps_ret (pe_lc (own := [("step", 4)]) (g := gName 4) (tt := tYes) (by rfl) sc_law_rounds.nd (pi_list (pv 3)) (blkOk_by (own := [("step", 4)]) (N := N_law_rounds) (sc := defScope s_law_rounds) (by decide +kernel)) (fun _ _ _ _ _ => (pg_name (i := 4) sc_law_rounds.nd rfl (by first | exact Or.inl rfl | exact Or.inr rfl))) (fun _ _ _ _ _ => pts_nil) (fun _ _ _ _ _ => (pe_lc (own := [("at", 2)]) (g := gName 2) (tt := tYes) (by rfl) sc_law_rounds.nd (pi_range2 (by rfl) T.n_range (pa_cons (pv 4) (pa_cons (pv 1) pa_nil))) (blkOk_by (own := [("at", 2)]) (N := N_law_rounds) (by rfl)) (fun _ _ _ _ _ => (pg_name (i := 2) sc_law_rounds.nd rfl (by first | exact Or.inl rfl | exact Or.inr rfl))) (fun _ _ _ _ _ => pts_nil) (fun _ _ _ _ _ => (pe_tup (pa_cons (pv 2) (pa_cons (pe_op op_sub (pv 2) (pv 4)) pa_nil))))))))) pss_nil)
      (pss_cons (ps_setLc (i := 5) (own := [("step", 4)]) (g := gName 4) (tt := tYes) (by rfl) sc_law_rounds.nd rfl rfl (sw_true rfl rfl rfl (by decide +kernel)) (pi_list (pv 3)) (blkOk_by (own := [("step", 4)]) (N := N_law_rounds) (sc := defScope s_law_rounds) (by decide +kernel)) (fun _ _ _ _ _ => (pg_name (i := 4) sc_law_rounds.nd rfl (by first | exact Or.inl rfl | exact Or.inr rfl))) (fun _ _ _ _ _ => pts_nil) (fun _ _ _ _ _ => (pe_lc (own := [("at", 2)]) (g := gName 2) (tt := tYes) (by rfl) sc_law_rounds.nd (pi_range3 (by rfl) T.n_range (pa_cons (pe_op op_sub (pe_op op_mulA pe_int (pv 4)) pe_int) (pa_cons (pv 1) (pa_cons (pe_op op_mulA pe_int (pv 4)) pa_nil)))) (blkOk_by (own := [("at", 2)]) (N := N_law_rounds) (by rfl)) (fun _ _ _ _ _ => (pg_name (i := 2) sc_law_rounds.nd rfl (by first | exact Or.inl rfl | exact Or.inr rfl))) (fun _ _ _ _ _ => pts_nil) (fun _ _ _ _ _ => (pe_tup (pa_cons (pv 2) (pa_cons (pe_op op_sub (pv 2) (pv 4)) pa_nil)))))))
      (pss_one (ps_ret (pe_op op_cat (pv 5) (pe_lc (own := [("step", 4)]) (g := gName 4) (tt := tYes) (by rfl) sc_law_rounds.nd (pi_list (pe_revL (pv 3))) (blkOk_by (own := [("step", 4)]) (N := N_law_rounds) (sc := defScope s_law_rounds) (by decide +kernel)) (fun _ _ _ _ _ => (pg_name (i := 4) sc_law_rounds.nd rfl (by first | exact Or.inl rfl | exact Or.inr rfl))) (fun _ _ _ _ _ => pts_nil) (fun _ _ _ _ _ => (pe_lc (own := [("at", 2)]) (g := gName 2) (tt := tYes) (by rfl) sc_law_rounds.nd (pi_range3 (by rfl) T.n_range (pa_cons (pe_op op_sub (pe_op op_mulA pe_int (pv 4)) pe_int) (pa_cons (pv 1) (pa_cons (pe_op op_mulA pe_int (pv 4)) pa_nil)))) (blkOk_by (own := [("at", 2)]) (N := N_law_rounds) (by rfl)) (fun _ _ _ _ _ => (pg_name (i := 2) sc_law_rounds.nd rfl (by first | exact Or.inl rfl | exact Or.inr rfl))) (fun _ _ _ _ _ => pts_nil) (fun _ _ _ _ _ => (pe_tup (pa_cons (pv 2) (pa_cons (pe_op op_sub (pv 2) (pv 4)) pa_nil))))))))))))))), ?_⟩
    by_cases hk : k = .row
    · subst hk
      simp only [pkS]; walk_at "rs"
      refine ⟨by decide, by decide, by omega, by omega, fun D hD => ?_⟩
      rw [show ((n : Int) - 1).toNat = n - 1 by omega]
      refine lc_relA (n := n - 1) walk_range (fun H' v i => RdD K H D H' v [(1 + i, 1 + i - 1)]) (fun _ _ _ _ e r => r.ex e) (fun _ _ _ _ _ h r => r.mut h) (by omega) hD (fun _ _ => trivial) ?_ ?_
      · rintro i x H' H2 ys hi e hy ⟨rfl, rfl⟩ Qe qe
        walk_at "rs"
        refine ⟨by decide, fun p hp => ⟨by decide, fun q hq => ?_⟩⟩
        have e2 := (ex_upd hp).trans (ex_upd (o := .lst [.ref p]) hq)
        refine qe _ _ e2 ⟨q, rfl, (ne_of_none (ex_upd hp _ _ hy) hq).symm, (e.trans (ex_upd hp)).fresh hq, [.ref p], upd_same, .cons ⟨p, rfl, .of ?_⟩ .nil⟩
        rw [ex_upd hq _ _ upd_same]
        congr 4
        show V.int _ = V.int _
        congr 1; omega
      · intro H' ys e l r
        exact q D ys H' e hD l (Paired.mapR (f := fun i => [(1 + i, 1 + i - 1)]) (fun _ _ h => h.new) r)
    · obtain ⟨z, hz⟩ : ∃ z, pkS k = z := ⟨_, rfl⟩
      have hz1 : z ≠ Str.ofString "row" := by
        rw [← hz]
        cases k
        · exact absurd rfl hk
        · show ¬ (Str.ofString "halves" = Str.ofString "row"); rw [ofStr_inj]; decide
        · show ¬ (Str.ofString "doubling" = Str.ofString "row"); rw [ofStr_inj]; decide
        · show ¬ (Str.ofString "ladder" = Str.ofString "row"); rw [ofStr_inj]; decide
      rw [hz]
      walk_at "rs"
      simp only [hz1, if_false, ite_false, decide_false]
      walk_at "rs"
      refine ⟨by decide, fun p hp => ⟨⟨_, .of upd_same⟩, fun S hS => ?_⟩⟩
      have up : upd H p (.tup [V.int 1, V.int 2, V.int 4, V.int 8, V.int 16]) p = _ := upd_same
      have e1 := ex_upd (o := .tup [V.int 1, V.int 2, V.int 4, V.int 8, V.int 16]) hp
      generalize upd H p (.tup [V.int 1, V.int 2, V.int 4, V.int 8, V.int 16]) = H1 at up e1 hS ⊢
      refine lc_go (walk_tup (xs := [V.int 1, V.int 2, V.int 4, V.int 8, V.int 16])) (fun k => decide (2 ^ k < n)) (fun k => vN (2 ^ k)) (by decide) hS (fun H' e => .of (e _ _ up)) ?_ ?_
      · rintro i x H' H2 hi e ⟨rfl, hx⟩ Qe Qn qe qn
        have hxv : x = vN (2 ^ i) := by
          have hi : i < 5 := hi
          have : i = 0 ∨ i = 1 ∨ i = 2 ∨ i = 3 ∨ i = 4 := by omega
          rcases this with rfl | rfl | rfl | rfl | rfl <;> (simp at hx; subst hx; rfl)
        subst hxv
        walk_at "rs"
        by_cases hc : 2 ^ i < n
        · rw [if_pos (by omega)]; exact qe _ (Ex.refl _) (decide_eq_true hc)
        · rw [if_neg (by omega)]; exact qn _ (Ex.refl _) (decide_eq_false hc)
      intro H2 e2 lS
      have lS : LNat H2 S (stepsB n) := by
        unfold LNat
        rw [lS]
        unfold kept stepsB
        rw [List.map_map]
        congr 3
        rw [show List.range 6 = List.range 5 ++ [5] from rfl, List.filter_append]
        have : ([5].filter fun b => decide (2 ^ b < n)) = [] := by
          rw [List.filter_cons, if_neg (by rw [decide_eq_true_iff]; omega)]; rfl
        rw [this, List.append_nil]; rfl
      have e12 := e1.trans e2
      cases k
      · exact absurd rfl hk
      · subst hz
        simp only [pkS]
        walk_at "rs"
        refine ⟨by decide, fun F hF => ?_⟩
        have e3 := ex_upd (o := .lst []) hF
        have uF : upd H2 F (.lst []) F = some (.lst []) := upd_same
        have lS3 : LNat (upd H2 F (.lst [])) S (stepsB n) := e3 _ _ lS
        have hF0 : H F = none := e12.fresh hF
        have nSF : S ≠ F := ne_of_none lS hF
        have e13 := e12.trans e3
        generalize upd H2 F (.lst []) = H3 at e3 uF lS3 e13 ⊢
        let f : Nat → List Jn := fun step => ((List.range n).filter fun at_ => decide (at_ / step % 2 = 1)).map fun at_ => (at_, at_ / step * step - 1)
        walk_at "rs"
        refine ⟨⟨_, .of lS3⟩, lpL (xs := (stepsB n).map vN) (fun t σ H' => Ex H H' ∧ LNat H' S (stepsB n) ∧ (∃ xs, H' F = some (.lst xs) ∧ Paired (RdD K H F H') xs (((stepsB n).take t).map f)) ∧ ∃ t2 t4, σ = [some (.str (Str.ofString "halves")), some (.int n), t2, some (.ref S), t4, some (.ref F)]) ⟨e13, lS3, ⟨[], uF, .nil⟩, none, none, rfl⟩ (fun i σ' H' _ h => .of h.2.1) ?_ ?_⟩
        · rintro t x σ H4 hx ⟨e4, l4, ⟨xs, u4, r4⟩, t2, t4, rfl⟩
          obtain ⟨d, hd, rfl⟩ := nat_at hx
          obtain ⟨d1, d2⟩ := steps_at hd
          have hlen := Paired.len' r4
          rw [List.length_map, List.length_take] at hlen
          have hsl := steps_len n
          walk_at "rs"
          refine ⟨.inl ⟨rfl, _, .of u4⟩, by omega, by omega, fun D hD => ?_⟩
          refine lc_relK (n := n) walk_range (fun i => decide (i / d % 2 = 1)) (fun H v i => JnV K H v (i, i / d * d - 1)) (fun _ _ _ _ e r => r.ex e) (fun _ _ _ _ _ h r => r.mut h) (by omega) hD (fun _ _ => trivial) ?_ ?_
          · rintro i x H' H5 ys hi e hy ⟨rfl, rfl⟩ Qe Qn qe qn
            walk_at "rs"
            rw [Int.zero_add]
            have cd : CDivW (i : Int) (d : Int) := divw 6 (by omega) (by omega)
            have eq : (i : Int) / (d : Int) = ((i / d : Nat) : Int) := (Int.natCast_ediv i d).symm
            refine ⟨cd, by decide, ?_⟩
            rw [eq]
            by_cases hc : i / d % 2 = 1
            · rw [if_pos (show ((i / d : Nat) : Int) % 2 = 1 by omega)]
              have g1 : 1 ≤ i / d * d := Nat.mul_pos (by rcases Nat.eq_zero_or_pos (i / d) with h | h; (rw [h] at hc; cases hc); exact h) d1
              have g2 : i / d * d ≤ i := Nat.div_mul_le_self i d
              have g3 : ((i / d : Nat) : Int) * (d : Int) - 1 = ((i / d * d - 1 : Nat) : Int) := by rw [← Int.natCast_mul]; omega
              rw [g3]
              refine ⟨divw 6 (by omega) (by omega), mulR (by omega), by decide, fun p hp => qe _ _ (ex_upd hp) (decide_eq_true hc) ⟨p, rfl, .of upd_same⟩⟩
            · rw [if_neg (show ¬ ((i / d : Nat) : Int) % 2 = 1 by omega)]
              exact qn _ (Ex.refl _) (decide_eq_false hc)
          intro H5 ys e5 l5 r5
          have r5 : Paired (JnV K H5) ys (f d) := Paired.mapR (f := fun i => (i, i / d * d - 1)) (fun _ _ h => h) r5
          have u5 := e5 _ _ u4
          refine ⟨F, _, _, rfl, rfl, u5, by rw [sizeLine_eq]; omega, ?_⟩
          have nDF : D ≠ F := (ne_of_none u4 hD).symm
          refine ⟨(e4.trans e5).mut hF0, ?_, _, upd_same, ?_⟩
          · show upd H5 F _ S = _
            rw [upd_ne nSF]; exact e5 _ _ l4
          · rw [List.take_add_one, hd, List.map_append]
            refine Paired.app' (Paired.mapP r4 fun _ _ r => (r.ex e5).mut u5) ?_
            exact RdD.mut u5 ⟨D, rfl, nDF, e4.fresh hD, ys, l5, r5⟩
        · rintro σ H4 ⟨e4, l4, ⟨xs, u4, r4⟩, t2, t4, rfl⟩
          rw [List.length_map, List.take_length] at r4
          walk_at "rs"
          exact q F xs H4 e4 hF0 u4 (Paired.mapP r4 fun _ _ r => r.new)
      · subst hz
        simp only [pkS]
        walk_at "rs"
        refine ⟨⟨_, .of lS⟩, fun D hD => ?_⟩
        refine lc_relA (walk_list (xs := (stepsB n).map vN)) (fun H' v t => ∃ d, (stepsB n)[t]? = some d ∧ RdD K H D H' v ((List.range (n - d)).map fun i => (d + i, d + i - d))) (fun _ _ _ _ e ⟨d, h, r⟩ => ⟨d, h, r.ex e⟩) (fun _ _ _ _ _ h ⟨d, hd, r⟩ => ⟨d, hd, r.mut h⟩) (by rw [List.length_map]; have := steps_len n; omega) hD (fun H' e => .of (e _ _ lS)) ?_ ?_
        · rintro t x H' H3 ys ht e hy ⟨rfl, hx⟩ Qe qe
          obtain ⟨d, hd, rfl⟩ := nat_at hx
          obtain ⟨d1, d2⟩ := steps_at hd
          walk_at "rs"
          refine ⟨by omega, by omega, by omega, by omega, fun L hL => ?_⟩
          rw [show ((n : Int) - (d : Int)).toNat = n - d by omega]
          refine lc_relA (n := n - d) walk_range (fun H v i => JnV K H v (d + i, d + i - d)) (fun _ _ _ _ e r => r.ex e) (fun _ _ _ _ _ h r => r.mut h) (by omega) hL (fun _ _ => trivial) ?_ ?_
          · rintro i x H' H4 ys hi e hy ⟨rfl, rfl⟩ Qe qe
            walk_at "rs"
            refine ⟨by decide, fun p hp => qe _ _ (ex_upd hp) ⟨p, rfl, .of ?_⟩⟩
            rw [upd_same]
            congr 4
            show V.int _ = V.int _
            congr 1; omega
          · intro H4 zs e4 l4 r4
            exact qe _ _ e4 ⟨d, hd, L, rfl, (ne_of_none hy hL).symm, (e12.trans e).fresh hL, zs, l4, Paired.mapR (f := fun i => (d + i, d + i - d)) (fun _ _ h => h) r4⟩
        · intro H3 ys e3 l3 r3
          rw [List.length_map] at r3
          refine q D ys H3 (e12.trans e3) (e12.fresh hD) l3 ?_
          exact Paired.mapR (f := fun d => (List.range (n - d)).map fun i => (d + i, d + i - d)) (fun _ _ h => h.new) (paired_list (S := fun v d => RdD K H D H3 v ((List.range (n - d)).map fun i => (d + i, d + i - d))) r3)
      · subst hz
        simp only [pkS]
        walk_at "rs"
        walk_at "rs"
        refine ⟨⟨_, .of lS⟩, fun D hD => ?_⟩
        refine lc_relA (walk_list (xs := (stepsB n).map vN)) (fun H' v t => ∃ d, (stepsB n)[t]? = some d ∧ RdD K H D H' v ((List.range (turns (2 * d - 1) n (2 * d))).map fun i => (2 * d - 1 + i * (2 * d), 2 * d - 1 + i * (2 * d) - d))) (fun _ _ _ _ e ⟨d, h, r⟩ => ⟨d, h, r.ex e⟩) (fun _ _ _ _ _ h ⟨d, hd, r⟩ => ⟨d, hd, r.mut h⟩) (by rw [List.length_map]; have := steps_len n; omega) hD (fun H' e => .of (e _ _ lS)) ?_ ?_
        · rintro t x H' H9 ys ht e hy ⟨rfl, hx⟩ Qe qe
          obtain ⟨d, hd, rfl⟩ := nat_at hx
          obtain ⟨d1, d2⟩ := steps_at hd
          walk_at "rs"
          unfold iRng3
          walk_at "rs"
          have c1 : 2 * (d : Int) - 1 = ((2 * d - 1 : Nat) : Int) := by omega
          have c2 : 2 * (d : Int) = ((2 * d : Nat) : Int) := by omega
          rw [c1, c2]
          refine ⟨mulL (by decide), mulL (by decide), turns (2 * d - 1) n (2 * d), rgUp h2 d1 d2, fun L hL => ?_⟩
          have htl := turns_le (lo := 2 * d - 1) (c := 2 * d) h2
          refine lc_relA (n := turns (2 * d - 1) n (2 * d)) walk_rangeC (fun H v i => JnV K H v (2 * d - 1 + i * (2 * d), 2 * d - 1 + i * (2 * d) - d)) (fun _ _ _ _ e r => r.ex e) (fun _ _ _ _ _ h r => r.mut h) (by omega) hL (fun _ _ => trivial) ?_ ?_
          · rintro i x H' H4 ys hi e hy ⟨rfl, rfl⟩ Qe qe
            walk_at "rs"
            refine ⟨by decide, fun p hp => qe _ _ (ex_upd hp) ⟨p, rfl, .of ?_⟩⟩
            rw [upd_same]
            have ci : (((2 * d - 1 : Nat) : Int) + (i : Int) * ((2 * d : Nat) : Int)) = ((2 * d - 1 + i * (2 * d) : Nat) : Int) := by rw [Int.natCast_add, Int.natCast_mul i (2 * d)]
            rw [ci]
            have hge : 2 * d - 1 ≤ 2 * d - 1 + i * (2 * d) := Nat.le_add_right _ _
            generalize 2 * d - 1 + i * (2 * d) = P at *
            have cp : (P : Int) - (d : Int) = ((P - d : Nat) : Int) := by omega
            rw [cp]
          · intro H4 zs e4 l4 r4
            exact qe _ _ e4 ⟨d, hd, L, rfl, (ne_of_none hy hL).symm, (e12.trans e).fresh hL, zs, l4, Paired.mapR (f := fun i => (2 * d - 1 + i * (2 * d), 2 * d - 1 + i * (2 * d) - d)) (fun _ _ h => h) r4⟩
        intro H3 ys e3 l3 r3
        rw [List.length_map] at r3
        have r3 := paired_list (S := fun v d => RdD K H D H3 v ((List.range (turns (2 * d - 1) n (2 * d))).map fun i => (2 * d - 1 + i * (2 * d), 2 * d - 1 + i * (2 * d) - d))) r3
        have lS3 : LNat H3 S (stepsB n) := e3 _ _ lS
        refine ⟨_, .of lS3, fun R hR => ⟨⟨_, .of upd_same⟩, fun B hB => ?_⟩⟩
        have e4 := ex_upd (o := .lst (List.map vN (stepsB n)).reverse) hR
        have uR : upd H3 R (.lst (List.map vN (stepsB n)).reverse) R = _ := upd_same
        generalize upd H3 R (.lst (List.map vN (stepsB n)).reverse) = H4 at e4 uR hB ⊢
        rw [← List.map_reverse] at uR
        have e14 := e12.trans (e3.trans e4)
        refine lc_relA (walk_list (xs := ((stepsB n).reverse).map vN)) (fun H' v t => ∃ d, ((stepsB n).reverse)[t]? = some d ∧ RdD K H B H' v ((List.range (turns (3 * d - 1) n (2 * d))).map fun i => (3 * d - 1 + i * (2 * d), 3 * d - 1 + i * (2 * d) - d))) (fun _ _ _ _ e ⟨d, h, r⟩ => ⟨d, h, r.ex e⟩) (fun _ _ _ _ _ h ⟨d, hd, r⟩ => ⟨d, hd, r.mut h⟩) (by rw [List.length_map]; rw [List.length_reverse]; have := steps_len n; omega) hB (fun H' e => .of (e _ _ uR)) ?_ ?_
        · rintro t x H' H9 ys ht e hy ⟨rfl, hx⟩ Qe qe
          obtain ⟨d, hd, rfl⟩ := nat_at hx
          obtain ⟨d1, d2⟩ := steps_at' hd
          walk_at "rs"
          unfold iRng3
          walk_at "rs"
          have c1 : 3 * (d : Int) - 1 = ((3 * d - 1 : Nat) : Int) := by omega
          have c2 : 2 * (d : Int) = ((2 * d : Nat) : Int) := by omega
          rw [c1, c2]
          refine ⟨mulL (by decide), mulL (by decide), turns (3 * d - 1) n (2 * d), rgDown h2 d1 d2, fun L hL => ?_⟩
          have htl := turns_le (lo := 3 * d - 1) (c := 2 * d) h2
          refine lc_relA (n := turns (3 * d - 1) n (2 * d)) walk_rangeC (fun H v i => JnV K H v (3 * d - 1 + i * (2 * d), 3 * d - 1 + i * (2 * d) - d)) (fun _ _ _ _ e r => r.ex e) (fun _ _ _ _ _ h r => r.mut h) (by omega) hL (fun _ _ => trivial) ?_ ?_
          · rintro i x H' H4 ys hi e hy ⟨rfl, rfl⟩ Qe qe
            walk_at "rs"
            refine ⟨by decide, fun p hp => qe _ _ (ex_upd hp) ⟨p, rfl, .of ?_⟩⟩
            rw [upd_same]
            have ci : (((3 * d - 1 : Nat) : Int) + (i : Int) * ((2 * d : Nat) : Int)) = ((3 * d - 1 + i * (2 * d) : Nat) : Int) := by rw [Int.natCast_add, Int.natCast_mul i (2 * d)]
            rw [ci]
            have hge : 3 * d - 1 ≤ 3 * d - 1 + i * (2 * d) := Nat.le_add_right _ _
            generalize 3 * d - 1 + i * (2 * d) = P at *
            have cp : (P : Int) - (d : Int) = ((P - d : Nat) : Int) := by omega
            rw [cp]
          · intro H4 zs e4 l4 r4
            exact qe _ _ e4 ⟨d, hd, L, rfl, (ne_of_none hy hL).symm, (e14.trans e).fresh hL, zs, l4, Paired.mapR (f := fun i => (3 * d - 1 + i * (2 * d), 3 * d - 1 + i * (2 * d) - d)) (fun _ _ h => h) r4⟩
        intro H5 zs e5 l5 r5
        rw [List.length_map] at r5
        have r5 := paired_list (S := fun v d => RdD K H B H5 v ((List.range (turns (3 * d - 1) n (2 * d))).map fun i => (3 * d - 1 + i * (2 * d), 3 * d - 1 + i * (2 * d) - d))) r5
        have l3' := (e4.trans e5) _ _ l3
        have n1 := Paired.len' r3
        have n2 := Paired.len' r5
        rw [List.length_reverse] at n2
        have n3 := steps_len n
        refine ⟨D, B, ys, zs, rfl, rfl, l3', l5, by rw [sizeLine_eq]; omega, fun p hp => ?_⟩
        have e9 := ex_upd (o := .lst (ys ++ zs)) hp
        refine q p _ _ ((e14.trans e5).trans e9) ((e14.trans e5).fresh hp) upd_same ?_
        refine Paired.append' ?_ ?_
        · exact Paired.mapR (f := fun d => (List.range (turns (2 * d - 1) n (2 * d))).map fun i => (2 * d - 1 + i * (2 * d), 2 * d - 1 + i * (2 * d) - d)) (fun _ _ h => (h.ex ((e4.trans e5).trans e9)).new) r3
        · exact Paired.mapR (f := fun d => (List.range (turns (3 * d - 1) n (2 * d))).map fun i => (3 * d - 1 + i * (2 * d), 3 * d - 1 + i * (2 * d) - d)) (fun _ _ h => (h.ex e9).new) r5
def sp_law_plan (K : PySem.W.Frag) : Sp := fun vs H Q _ => ∃ (k : PK) (n : Nat), vs = [.str (pkS k), .int n] ∧ 1 ≤ n ∧ n ≤ 32 ∧ ∀ v H', Ex H H' → PlAt K H' v (lawM k n) → Q v H'
set_option maxHeartbeats 4000000 in
theorem ok_law_plan (T : TxtW w K mg) : FnOk P w K mg base CX0 2 T.f_law_plan T.d_law_plan P_law_plan (sp_law_plan K) := by
  have G_law_rounds := ok_law_rounds (P := P) (w := w) (base := base) T
  refine T.F_law_plan.ok sc_law_plan (fun vs H Q E h => ?_) (fun cdv A outer s H vs Q E hr h => ?_)
  · obtain ⟨k, n, rfl, _⟩ := h; rfl
  · obtain ⟨k, n, rfl, h1, h2, q⟩ := h
    refine ⟨_, (pss_cons (ps_par (i := 2) (j := 3) (by rfl) sc_law_plan.nd rfl rfl (by decide) rfl rfl (pa_cons (pe_listRg (by rfl) (by rfl) T.n_list (prg_1 (by rfl) T.n_range (pv 1))) (pa_cons (pe_lst pa_nil) pa_nil)) (by rfl))
      (pss_cons (ps_for PassesOwn.never rfl (pi_list (pe_call G_law_rounds (hr.mono (by decide)) (by rfl) T.m_law_rounds T.F_law_rounds.kp T.b_law_rounds .nil pass0 (pa_cons (pv 0) (pa_cons (pv 1) pa_nil)))) (pg_name (i := 4) sc_law_plan.nd rfl (Or.inl rfl)) (pss_cons (ps_set (i := 5) sc_law_plan.nd rfl (Or.inl rfl) (pe_callTy call_list_of (by rfl) T.n_list (by decide +kernel) (pa_cons (pv 2) pa_nil)))
      (pss_one (ps_for PassesOwn.never rfl (pi_list (pv 4)) (pg_tup (n := 2) rfl (pgs_cons (pg_name (i := 6) sc_law_plan.nd rfl (Or.inl rfl)) (pgs_cons (pg_name (i := 7) sc_law_plan.nd rfl (Or.inl rfl)) pgs_nil))) (pss_cons (ps_asg (pe_op op_add (pv 1) (pe_callB call_len_seq (by rfl) T.n_len (by decide +kernel) (pa_cons (pv 3) pa_nil))) (pg_sub (pv 2) (pv 6) set_list))
      (pss_one (ps_expr (pe_bm PySem.F.plainAttrs_list PySem.F.slot_list_append PySem.F.type_list_append mt_append (pv 3) (pa_cons (pe_tup (pa_cons (pe_ix ix_list (pv 5) (pv 6) (fun _ _ => rfl)) (pa_cons (pe_ix ix_list (pv 5) (pv 7) (fun _ _ => rfl)) pa_nil))) pa_nil)))))))))
      (pss_one (ps_ret (pe_tup (pa_cons (pe_callTy call_tuple_of (by rfl) T.n_tuple (by decide +kernel) (pa_cons (pv 3) pa_nil)) (pa_cons (pe_callTy call_tuple_of (by rfl) T.n_tuple (by decide +kernel) (pa_cons (pv 2) pa_nil)) pa_nil))))))), ?_⟩
    walk_at "rs"
    unfold tLstRg tRg1
    walk_at "rs"
    refine ⟨RgOk.of_le (by omega) (by omega) (by omega) (by omega), fun L hL => ?_⟩
    have erg : rgV 0 (n : Int) = (List.range n).map vN := by
      unfold rgV
      have : ((n : Int) - 0).toNat = n := by omega
      rw [this]
      exact List.map_congr_left fun i _ => by rw [Int.zero_add]
    have e1 := ex_upd (o := .lst (rgV 0 n)) hL
    have uL : LNat (upd H L (.lst (rgV 0 n))) L (List.range n) := by unfold LNat; rw [upd_same, erg]
    generalize upd H L (.lst (rgV 0 n)) = H1 at e1 uL ⊢
    refine ⟨by decide, fun J hJ => ?_⟩
    have e2 := ex_upd (o := .lst []) hJ
    have uJ : upd H1 J (.lst []) J = some (.lst []) := upd_same
    have uL2 : LNat (upd H1 J (.lst [])) L (List.range n) := e2 _ _ uL
    have nLJ : L ≠ J := ne_of_none uL hJ
    have hL0 := hL
    have hJ0 : H J = none := e1.fresh hJ
    have e12 := e1.trans e2
    generalize upd H1 J (.lst []) = H2 at e2 uJ uL2 e12 ⊢
    walk_at "rs"
    obtain ⟨_, _, _, _, hin⟩ := checkK_use (chk_at k h1 h2)
    obtain ⟨hs1, hs2⟩ := rounds_small k h2
    refine ⟨k, n, rfl, h1, h2, fun P xs H3 e3 hP u3 r3 => ?_⟩
    have uJ3 := e3 _ _ uJ
    have uL3 : LNat H3 L (List.range n) := e3 _ _ uL2
    have nPJ : P ≠ J := (ne_of_none uJ hP).symm
    have nPL : P ≠ L := (ne_of_none uL2 hP).symm
    have hlen := Paired.len' r3
    walk_at "rs"
    refine ⟨⟨_, .of u3⟩, lpL (xs := xs) (fun t σ H' => Ex2 J L H3 H' ∧ H' P = some (.lst xs) ∧ JnAt K H' J (((roundsM k n).take t).foldl (roundF n) ([], List.range n)).1 ∧ LNat H' L (((roundsM k n).take t).foldl (roundF n) ([], List.range n)).2 ∧ ∃ t4 t5 t6 t7, σ = [some (.str (pkS k)), some (.int n), some (.ref L), some (.ref J), t4, t5, t6, t7]) ⟨.refl _, u3, JnAt.nil uJ3, uL3, none, none, none, none, rfl⟩ (fun i σ' H' _ h => .of h.2.1) ?_ ?_⟩
    · rintro t x σ H4 hx ⟨e4, u4, a4, b4, t4, t5, t6, t7, rfl⟩
      obtain ⟨r, hr, ⟨q0, rfl, hq0, hq1⟩⟩ := Paired.at' r3 hx
      have hrm := List.mem_of_getElem? hr
      have nq0J : q0 ≠ J := (ne_of_none uJ hq0).symm
      have nq0L : q0 ≠ L := (ne_of_none uL2 hq0).symm
      have ht : t < (roundsM k n).length := (List.getElem?_eq_some_iff.mp hr).1
      rw [foldl_take (roundF n) _ hr]
      obtain ⟨l1, l2⟩ := rounds_len n ((roundsM k n).take t) ([], List.range n) fun z hz => hs2 z (List.mem_of_mem_take hz)
      rw [List.length_range] at l2
      rw [List.length_nil, List.length_take, Nat.min_eq_left (by omega)] at l1
      have lr := hs2 r hrm
      have inr := hin r hrm
      generalize ((roundsM k n).take t).foldl (roundF n) ([], List.range n) = s0 at *
      obtain ⟨ys, hy1, hy2⟩ := Ex2.jn uJ3 uL3 nq0J nq0L e4 hq1
      have hq1v : Paired (JnV K H3) ys r := by
        obtain ⟨ys', y1, y2⟩ := hq1
        have := e4 _ _ nq0J nq0L y1
        rw [hy1] at this
        cases this
        exact y2
      have hlen2 := Paired.len' hy2
      walk_at "rs"
      refine ⟨_, .inl (.of b4), fun A hA => ?_⟩
      have e5 := ex_upd (o := .lst (s0.2.map vN)) hA
      have uA : upd H4 A (.lst (s0.2.map vN)) A = _ := upd_same
      have nAJ : A ≠ J := fun z => by obtain ⟨zs, z1, _⟩ := a4; rw [z, z1] at hA; cases hA
      have nAL : A ≠ L := (ne_of_none b4 hA).symm
      have a5 := JnAt.ex e5 a4
      have b5 : LNat (upd H4 A (.lst (s0.2.map vN))) L s0.2 := e5 _ _ b4
      have u5 := e5 _ _ u4
      have v5 := e5 _ _ hy1
      have w5 : Paired (JnV K (upd H4 A (.lst (s0.2.map vN)))) ys r := Paired.mapP hy2 fun _ _ h => h.ex e5
      have e45 := e4.trans (.of (J := J) (L := L) e5)
      generalize upd H4 A (.lst (s0.2.map vN)) = H5 at uA a5 b5 u5 v5 w5 e45 ⊢
      walk_at "rs"
      refine ⟨⟨_, .of v5⟩, lpL (xs := ys) (fun i σ H' => Ex2 J L H3 H' ∧ H' P = some (.lst xs) ∧ H' A = some (.lst (s0.2.map vN)) ∧ H' q0 = some (.lst ys) ∧ JnAt K H' J ((r.take i).foldl (pairF n s0.2) s0).1 ∧ LNat H' L ((r.take i).foldl (pairF n s0.2) s0).2 ∧ ∃ t6 t7, σ = [some (.str (pkS k)), some (.int n), some (.ref L), some (.ref J), some (.ref q0), some (.ref A), t6, t7]) ⟨e45, u5, uA, v5, a5, b5, t6, t7, rfl⟩ (fun i σ' H' _ h => .of h.2.2.2.1) ?_ ?_⟩
      · rintro i x σ H6 hx ⟨e6, u6, z6, v6, a6, b6, t6, t7, rfl⟩
        obtain ⟨p, hp, hpv⟩ := Paired.at' hq1v hx
        obtain ⟨q1, rfl, hq1'⟩ := hpv
        have hq6 := sqT_ex2 uJ3 uL3 e6 hq1'
        obtain ⟨p1, p2⟩ := inr p (List.mem_of_getElem? hp)
        obtain ⟨m1, m2⟩ := pairs_len n s0.2 (r.take i) s0
        rw [List.length_take] at m1
        have hi : i < r.length := (List.getElem?_eq_some_iff.mp hp).1
        rw [foldl_take (pairF n s0.2) _ hp]
        have sd : pairF n s0.2 ((r.take i).foldl (pairF n s0.2) s0) p = (((r.take i).foldl (pairF n s0.2) s0).1 ++ [(s0.2.getD p.1 0, s0.2.getD p.2 0)], ((r.take i).foldl (pairF n s0.2) s0).2.set p.1 (n + ((r.take i).foldl (pairF n s0.2) s0).1.length)) := rfl
        rw [sd]
        generalize (r.take i).foldl (pairF n s0.2) s0 = s6 at *
        obtain ⟨zs, hz1, hz2⟩ := a6
        have hlen3 := Paired.len' hz2
        walk_at "rs"
        refine ⟨_, hq6, rfl, _, _, rfl, _, _, rfl, rfl, ?_⟩
        walk_at "rs"
        have lh : s0.2.length = n := l2
        have c0 : V.int ((n : Int) + (zs.length : Nat)) = vN (n + s6.1.length) := by rw [hlen3]; rfl
        refine ⟨_, .inl (.of hz1), ?_⟩
        rw [c0]
        refine setL b6 (Evl.ixN_nat (by rw [List.length_map]; omega)) ?_
        rw [lnat_set (K := K) (H := H6) (L := L)]
        have y1 : upd H6 L (.lst ((s6.2.set p.1 (n + s6.1.length)).map vN)) J = some (.lst zs) := by rw [upd_ne nLJ.symm]; exact hz1
        have y2 : upd H6 L (.lst ((s6.2.set p.1 (n + s6.1.length)).map vN)) A = some (.lst (s0.2.map vN)) := by rw [upd_ne nAL]; exact z6
        refine ⟨.inl ⟨rfl, _, .of y1⟩, ixM y2 (atI_nat (lnat_at (by omega))) (ixM y2 (atI_nat (lnat_at (by omega))) ⟨by decide, fun p1 hp1 => ?_⟩)⟩
        have y3 := ex_upd (o := .tup [vN (s0.2.getD p.1 0), vN (s0.2.getD p.2 0)]) hp1
        have y4 := y3 _ _ y1
        refine ⟨J, _, _, rfl, rfl, y4, by rw [sizeLine_eq]; omega, ?_⟩
        have n1J : p1 ≠ J := (ne_of_none y1 hp1).symm
        have keep : ∀ b o, b ≠ J → b ≠ L → H6 b = some o → upd (upd (upd H6 L (.lst ((s6.2.set p.1 (n + s6.1.length)).map vN))) p1 (.tup [vN (s0.2.getD p.1 0), vN (s0.2.getD p.2 0)])) J (.lst (zs ++ [.ref p1])) b = some o := fun b o n1 n2 hb => by
          rw [upd_ne n1]
          exact y3 _ _ (by rw [upd_ne n2]; exact hb)
        refine ⟨fun b o n1 n2 hb => keep b o n1 n2 (e6 b o n1 n2 hb), keep _ _ nPJ nPL u6, keep _ _ nAJ nAL z6, keep _ _ nq0J nq0L v6, ⟨_, upd_same, Paired.app' (Paired.mapP hz2 fun _ _ h => ?_) ⟨p1, rfl, .of (by rw [upd_ne n1J, upd_same])⟩⟩, ?_⟩
        · obtain ⟨q9, q91, q92⟩ := h
          exact ⟨q9, q91, sqT_mut y4 (Evl.ex_t y3 (sqT_mut b6 q92))⟩
        · show _ = _
          rw [upd_ne nLJ]
          exact y3 _ _ upd_same
      · rintro σ H6 ⟨e6, u6, z6, v6, a6, b6, t6, t7, rfl⟩
        rw [hlen2, List.take_length] at a6 b6
        exact ⟨e6, u6, a6, b6, _, _, _, _, rfl⟩
    · rintro σ H4 ⟨e4, u4, a4, b4, t4, t5, t6, t7, rfl⟩
      rw [hlen, List.take_length] at a4 b4
      walk_at "rs"
      have eH : Ex H H4 := fun x o hx => e4 x o (ne_of_none hx hJ0) (ne_of_none hx hL0) ((e12.trans e3) x o hx)
      obtain ⟨zs, hJ4, hzs⟩ := a4
      refine ⟨zs, .inl ⟨.of hJ4, fun t1 ht1 => ?_⟩⟩
      have f1 := ex_upd (o := .tup zs) ht1
      have v1 : upd H4 t1 (.tup zs) t1 = _ := upd_same
      generalize upd H4 t1 (.tup zs) = H5 at f1 v1 ⊢
      have b5 : LNat H5 L (lawM k n).2 := f1 _ _ b4
      refine ⟨_, .inl ⟨.of b5, fun t2 ht2 => ⟨by decide, fun p hp => ?_⟩⟩⟩
      have f2 := ex_upd (o := .tup ((lawM k n).2.map vN)) ht2
      have v2 : upd H5 t2 (.tup ((lawM k n).2.map vN)) t2 = _ := upd_same
      generalize upd H5 t2 (.tup ((lawM k n).2.map vN)) = H6 at f2 v2 hp ⊢
      have f3 := ex_upd (o := .tup [.ref t1, .ref t2]) hp
      have v3 : upd H6 p (.tup [.ref t1, .ref t2]) p = _ := upd_same
      generalize upd H6 p (.tup [.ref t1, .ref t2]) = H7 at f3 v3 ⊢
      exact q _ _ (eH.trans (f1.trans (f2.trans f3))) ⟨p, t1, t2, zs, rfl, .of v3, .of (f3 _ _ (f2 _ _ v1)), Paired.mapP hzs fun _ _ r => JnV.ex (f1.trans (f2.trans f3)) r, .of (f3 _ _ v2)⟩
def sp_law_rows (K : PySem.W.Frag) : Sp := fun vs H Q _ => ∃ (n : Nat) (b : Addr) (js : List Jn) (xs : List V), vs = [.int n, .ref b] ∧ 1 ≤ n ∧ n ≤ 32 ∧ SqT K H b xs ∧ Paired (JnV K H) xs js ∧ js.length ≤ 400 ∧ (∀ (i : Nat) (p : Jn), js[i]? = some p → p.1 < n + i ∧ p.2 < n + i) ∧ ∀ p rs H', Ex H H' → H p = none → H' p = some (.lst rs) → Paired (TNat K H') rs (rowsM n js) → Q (.ref p) H'
set_option maxHeartbeats 4000000 in
theorem ok_law_rows (T : TxtW w K mg) : FnOk P w K mg base CX0 1 T.f_law_rows T.d_law_rows P_law_rows (sp_law_rows K) := by
  refine T.F_law_rows.ok sc_law_rows (fun vs H Q E h => ?_) (fun cdv A outer s H vs Q E hr h => ?_)
  · obtain ⟨n, b, js, xs, rfl, _⟩ := h; rfl
  · obtain ⟨n, b, js, xs, rfl, h1, h2, hb, hxs, hj, o4, q⟩ := h
    refine ⟨_, (pss_cons (ps_set (i := 2) sc_law_rows.nd rfl (Or.inr rfl) (pe_lc (own := [("at", 3)]) (g := gName 3) (tt := tYes) (by rfl) sc_law_rows.nd (pi_range1 (by rfl) T.n_range (pa_cons (pv 0) pa_nil)) (blkOk_by (own := [("at", 3)]) (N := N_law_rows) (sc := defScope s_law_rows) (by decide +kernel)) (fun _ _ _ _ _ => (pg_name (i := 3) sc_law_rows.nd rfl (by first | exact Or.inl rfl | exact Or.inr rfl))) (fun _ _ _ _ _ => pts_nil) (fun _ _ _ _ _ => (pe_tup (pa_cons (pv 3) pa_nil)))))
      (pss_cons (ps_for PassesOwn.never rfl (pi_tup (pv 1)) (pg_tup (n := 2) rfl (pgs_cons (pg_name (i := 4) sc_law_rows.nd rfl (Or.inr rfl)) (pgs_cons (pg_name (i := 5) sc_law_rows.nd rfl (Or.inl rfl)) pgs_nil))) (pss_one (ps_expr (pe_bm PySem.F.plainAttrs_list PySem.F.slot_list_append PySem.F.type_list_append mt_append (pv 2) (pa_cons (pe_op op_catA (pe_ix ix_list (pv 2) (pv 4) (fun _ _ => rfl)) (pe_callTy call_tuple_of (by rfl) T.n_tuple (by decide +kernel) (pa_cons (pe_lc (own := [("at", 3)]) (g := gName 3) (by rfl) sc_law_rows.nd (pi_tup (pe_ix ix_list (pv 2) (pv 5) (fun _ _ => rfl))) (blkOk_by (own := [("at", 3)]) (N := N_law_rows) (sc := defScope s_law_rows) (by decide +kernel)) (fun _ _ _ _ _ => (pg_name (i := 3) sc_law_rows.nd rfl (by first | exact Or.inl rfl | exact Or.inr rfl))) (fun _ _ _ _ _ => pts_one (pt_cmpR (k_op_notin (K := K) rfl) (pv 3) (pe_ix (k_ix_list (K := K) rfl) (pv 2) (pv 4) (fun _ _ => rfl)) (by rfl))) (fun _ _ _ _ _ => (pv 3))) pa_nil))) pa_nil)))))
      (pss_one (ps_ret (pv 2))))), ?_⟩
    have hlen := Paired.len' hxs
    walk_at "rs"
    refine ⟨by omega, by omega, fun D hD => ?_⟩
    refine lc_rel (n := n) walk_range (fun H v i => TNat K H v [i]) (fun H H' v i e h => h.ex e) (fun H p o ys v i h0 h => h.mut h0) (by omega) hD (fun _ _ => trivial) ?_ ?_
    · rintro k x H' H2 hk e ⟨rfl, rfl⟩ Qe qe
      walk_at "rs"
      rw [Int.zero_add]
      exact ⟨by decide, fun t ht => qe _ _ (ex_upd ht) ⟨t, rfl, .of upd_same⟩⟩
    intro H1 rs e1 u1 hr1
    walk_at "rs"
    have hr1 : Paired (TNat K H1) rs (rowsM n []) := Paired.mapR (f := fun i => [i]) (fun _ _ r => r) hr1
    refine ⟨⟨_, Evl.ex_t e1 hb⟩, lpT (xs := xs) (fun i σ H' => Ex H H' ∧ ∃ rs t3 t4 t5, σ = [some (.int n), some (.ref b), some (.ref D), t3, t4, t5] ∧ H' D = some (.lst rs) ∧ Paired (TNat K H') rs (rowsM n (js.take i))) ⟨e1, rs, none, none, none, rfl, u1, hr1⟩ (fun i σ' H' _ h => Evl.ex_t h.1 hb) ?_ ?_⟩
    · rintro i x σ H2 hx ⟨e2, rs, t3, t4, t5, rfl, u2, hr2⟩
      obtain ⟨p, hp, ⟨q0, rfl, hq0⟩⟩ := Paired.at' hxs hx
      have hq0 := Evl.ex_t e2 hq0
      have hi : i < js.length := (List.getElem?_eq_some_iff.mp hp).1
      obtain ⟨p1, p2⟩ := o4 i p hp
      have hrl := Paired.len' hr2
      rw [rows_len, List.length_take, Nat.min_eq_left (by omega)] at hrl
      have rowAt : ∀ j, j < n + i → ∃ q1, rs[j]? = some (.ref q1) ∧ SqT K H2 q1 (((rowsM n (js.take i)).getD j []).map vN) := fun j hj => by
        have hq9 := List.getElem?_eq_getElem (show j < rs.length by omega)
        obtain ⟨y, hy1, ⟨q1, e9, hq1⟩⟩ := Paired.at' hr2 hq9
        rw [e9] at hq9
        refine ⟨q1, hq9, ?_⟩
        have : (rowsM n (js.take i)).getD j [] = y := by simp [List.getD, hy1]
        rw [this]; exact hq1
      obtain ⟨qh, hh1, hh2⟩ := rowAt p.1 p1
      obtain ⟨ql, hl1, hl2⟩ := rowAt p.2 p2
      have rdef : rowsM n (js.take (i + 1)) = rowStep (rowsM n (js.take i)) p := by rw [List.take_add_one, hp]; exact rowsM_app _ _ _
      have okr := rows_ok n (js.take i)
      have lnr : ∀ j, j < n + i → ((rowsM n (js.take i)).getD j []).length ≤ n := fun j hj => rowOk_len (okr _ (by
        have hj2 : j < (rowsM n (js.take i)).length := by rw [rows_len, List.length_take, Nat.min_eq_left (by omega)]; exact hj
        have : (rowsM n (js.take i)).getD j [] = (rowsM n (js.take i))[j] := by simp [List.getD, List.getElem?_eq_getElem hj2]
        rw [this]; exact List.getElem_mem hj2))
      have lh := lnr _ p1
      have ll := lnr _ p2
      unfold rowStep at rdef
      generalize (rowsM n (js.take i)).getD p.1 [] = rh at hh2 rdef lh
      generalize (rowsM n (js.take i)).getD p.2 [] = rl at hl2 rdef ll
      walk_at "rs"
      refine ⟨_, hq0, rfl, _, _, rfl, _, _, rfl, rfl, ?_⟩
      walk_at "rs"
      refine ⟨.inl ⟨rfl, _, .of u2⟩, ixM u2 (atI_nat hh1) (ixM u2 (atI_nat hl1) ?_)⟩
      refine ⟨ql, rfl, ⟨_, hl2⟩, fun E1 hE1 => ?_⟩
      refine lc_go (walk_tup (xs := rl.map vN)) (fun k => !rh.contains (rl.getD k 0)) (fun k => vN (rl.getD k 0)) (by rw [List.length_map]; omega) hE1 (fun H' e => Evl.ex_t e hl2) ?_ ?_
      · rintro k x H' H2' hk9 e ⟨rfl, hx⟩ Qe Qn qe qn
        rw [List.getElem?_map] at hx
        cases hz : rl[k]? with
        | none => rw [hz] at hx; cases hx
        | some z =>
          rw [hz] at hx
          cases hx
          have gz : rl.getD k 0 = z := by simp [List.getD, hz]
          rw [gz] at qe qn
          walk_at "rs"
          refine ixM (e _ _ u2) (atI_nat hh1) ?_
          refine ⟨qh, _, rfl, .inr (Evl.ex_t e hh2), rfl, flatN rh, ?_⟩
          rw [if_pos rfl, inVN]
          refine ⟨_, rfl, ?_⟩
          by_cases hc : (!rh.contains z) = true
          · rw [if_pos hc]; exact qe _ (Ex.refl _) hc
          · rw [if_neg hc]; exact qn _ (Ex.refl _) (Bool.eq_false_iff.mpr hc)
      intro H4 e4 l4
      rw [List.length_map, kept_filter (fun x => !rh.contains x)] at l4
      refine ⟨_, .inl ⟨.of l4, fun t ht => ?_⟩⟩
      have e5 := e4.trans (ex_upd (o := .tup ((rl.filter fun x => !rh.contains x).map vN)) ht)
      have ut : upd H4 t (.tup ((rl.filter fun x => !rh.contains x).map vN)) t = _ := upd_same
      generalize upd H4 t (.tup ((rl.filter fun x => !rh.contains x).map vN)) = H5 at e5 ut ⊢
      refine catT_use (Evl.ex_t e5 hh2) (.of ut) (by rw [List.length_map, List.length_map]; have := List.length_filter_le (fun x => !rh.contains x) rl; omega) fun v6 H6 e6 h6 => ?_
      have e26 := e5.trans e6
      have u6 := e26 _ _ u2
      refine ⟨D, _, _, rfl, rfl, u6, by rw [sizeLine_eq]; omega, ?_⟩
      refine ⟨(e2.trans e26).mut hD, _, upd_same, ?_⟩
      rw [rdef]
      refine Paired.app' (Paired.mapP hr2 fun _ _ r => (r.ex e26).mut u6) ⟨v6, rfl, sqT_mut u6 ?_⟩
      rw [List.map_append]; exact h6
    · rintro σ H2 ⟨e2, rs, t3, t4, t5, rfl, u2, hr2⟩
      walk_at "rs"
      rw [hlen, List.take_length] at hr2
      exact q D rs H2 e2 hD u2 hr2
def sp_law_true (K : PySem.W.Frag) : Sp := fun vs H Q _ => ∃ (n : Nat) (i j : Int) (c : Bool), vs = [.int n, .int i, .int j, .int (b2i c)] ∧ 1 ≤ n ∧ n ≤ 32 ∧ 0 ≤ i ∧ i < 2 ^ n ∧ 0 ≤ j ∧ j < 2 ^ n ∧ ∀ p H', Ex H H' → H' p = some (.lst ((List.range n).map fun k => .int (b2i (rowB i j (downTo k) c)))) → Q (.ref p) H'
set_option maxHeartbeats 4000000 in
theorem ok_law_true (T : TxtW w K mg) : FnOk P w K mg base CX0 2 T.f_law_true T.d_law_true P_law_true (sp_law_true K) := by
  have G_law_two_to := ok_law_two_to (P := P) (w := w) (base := base) T
  refine T.F_law_true.ok sc_law_true (fun vs H Q E h => ?_) (fun cdv A outer s H vs Q E hr h => ?_)
  · obtain ⟨n, i, j, cc, rfl, _⟩ := h; rfl
  · obtain ⟨n, i, j, cc, rfl, h1, h2, i0, i1, j0, j1, q⟩ := h
    refine ⟨_, (pss_cons (ps_set (i := 4) sc_law_true.nd rfl (Or.inl rfl) (pe_lst pa_nil))
      (pss_cons (ps_for PassesOwn.never rfl (pi_range1 (by rfl) T.n_range (pa_cons (pv 0) pa_nil)) (pg_name (i := 5) sc_law_true.nd rfl (Or.inl rfl)) (pss_cons (ps_set (i := 6) sc_law_true.nd rfl (Or.inl rfl) (pe_call G_law_two_to (hr.mono (by decide)) (by rfl) T.m_law_two_to T.F_law_two_to.kp T.b_law_two_to .nil pass0 (pa_cons (pe_op op_add (pv 5) pe_int) pa_nil)))
      (pss_one (ps_expr (pe_bm PySem.F.plainAttrs_list PySem.F.slot_list_append PySem.F.type_list_append mt_append (pv 4) (pa_cons (pe_op op_fdivW (pe_op op_add (pe_op op_add (pe_op op_mod (pv 1) (pv 6)) (pe_op op_mod (pv 2) (pv 6))) (pv 3)) (pv 6)) pa_nil))))))
      (pss_one (ps_ret (pv 4))))), ?_⟩
    walk_at "rs"
    refine ⟨by decide, fun P hP => ?_⟩
    have e1 := ex_upd (o := .lst []) hP
    have u1 : upd H P (.lst []) P = _ := upd_same
    generalize upd H P (.lst []) = H1 at e1 u1 ⊢
    walk_at "rs"
    refine ⟨by omega, by omega, ?_⟩
    refine lpR n (fun t σ H' => Ex H H' ∧ H' P = some (.lst ((List.range t).map fun k => .int (b2i (rowB i j (downTo k) cc)))) ∧ ∃ t5 t6, σ = [some (.int n), some (.int i), some (.int j), some (.int (b2i cc)), some (.ref P), t5, t6]) ⟨e1, u1, none, none, rfl⟩ ?_ ?_
    · rintro t σ H2 ht ⟨e2, u2, t5, t6, rfl⟩
      walk_at "rs"
      have et : (t : Int) + 1 = ((t + 1 : Nat) : Int) := by omega
      rw [et]
      refine ⟨t + 1, rfl, by omega, ?_⟩
      have hpos : (0 : Int) < 2 ^ (t + 1) := Int.pow_pos (by decide)
      walk_at "rs"
      have h40 : ((2 : Int) ^ (t + 1)).natAbs < 2 ^ 40 := by
        rw [Int.natAbs_pow]
        exact Nat.pow_lt_pow_right (by decide) (by omega)
      refine ⟨.inl ⟨rfl, _, .of u2⟩, hpos, hpos, divw 40 hpos h40, P, _, _, rfl, rfl, u2, by rw [List.length_map, List.length_range, sizeLine_eq]; omega, e2.mut (by assumption), ?_⟩
      rw [upd_same, List.range_succ, List.map_append]
      show some (HO.lst (_ ++ [V.int (cy i j (b2i cc) (t + 1))])) = _
      rw [cyRow]; rfl
    · rintro σ H2 ⟨e2, u2, t5, t6, rfl⟩
      walk_at "rs"
      exact q P H2 e2 u2
def sp_law_is_adder (K : PySem.W.Frag) : Sp := fun vs H Q _ => ∃ (n : Nat) (v : V) (s : JS), vs = [.int n, v] ∧ 1 ≤ n ∧ n ≤ 32 ∧ PlAt K H v s ∧ POk n s ∧ (∀ at_, at_ < n → (rowsM n s.1).getD (s.2.getD at_ 0) [] = downTo at_) ∧ ∀ H', Ex H H' → Q (.bl true) H'
set_option maxHeartbeats 4000000 in
theorem ok_law_is_adder (T : TxtW w K mg) : FnOk P w K mg base CX0 2 T.f_law_is_adder T.d_law_is_adder P_law_is_adder (sp_law_is_adder K) := by
  have G_law_rows := ok_law_rows (P := P) (w := w) (base := base) T
  refine T.F_law_is_adder.ok sc_law_is_adder (fun vs H Q E h => ?_) (fun cdv A outer s H vs Q E hr h => ?_)
  · obtain ⟨n, v, s, rfl, _⟩ := h; rfl
  · obtain ⟨n, v, s, rfl, h1, h2, ⟨a, b, c, xs, rfl, ha, hb, hxs, hc⟩, hok, hrows, q⟩ := h
    refine ⟨_, (pss_cons (ps_set (i := 2) sc_law_is_adder.nd rfl (Or.inr rfl) (pe_call G_law_rows (hr.mono (by decide)) (by rfl) T.m_law_rows T.F_law_rows.kp T.b_law_rows .nil pass0 (pa_cons (pv 0) (pa_cons (pe_ix ix_tup (pv 1) pe_int (fun _ _ => rfl)) pa_nil))))
      (pss_one (ps_ret (pe_cmpR (op_eqD hr.units) (pe_lc (own := [("at", 3), ("piece", 4)]) (g := gTup K 2 (gCons (gName 3) (gCons (gName 4) gNil))) (by rfl) sc_law_is_adder.nd (pi_enumT (by rfl) T.n_enumerate (pa_cons (pe_ix ix_tup (pv 1) pe_int (fun _ _ => rfl)) pa_nil)) (blkOk_by (own := [("at", 3), ("piece", 4)]) (N := N_law_is_adder) (sc := defScope s_law_is_adder) (by decide +kernel)) (fun _ _ _ _ _ => (pg_tup (n := 2) rfl (pgs_cons (pg_name (i := 3) sc_law_is_adder.nd rfl (by first | exact Or.inl rfl | exact Or.inr rfl)) (pgs_cons (pg_name (i := 4) sc_law_is_adder.nd rfl (by first | exact Or.inl rfl | exact Or.inr rfl)) pgs_nil)))) (fun _ _ _ _ _ => pts_one (pt_cmpR (k_op_neD (K := K) hr.units rfl) (pe_ix (k_ix_list (K := K) rfl) (pv 2) (pv 4) (fun _ _ => rfl)) (pe_tupRg3 (by rfl) (by rfl) T.n_tuple (prg_3 (by rfl) T.n_range (pa_cons (pv 3) (pa_cons (pe_un un_neg pe_int) (pa_cons (pe_un un_neg pe_int) pa_nil))))) (nomark _))) (fun _ _ _ _ _ => (pv 3))) (pe_lst pa_nil) (nomark _))))), ?_⟩
    walk_at "rs"
    refine ixT ha rfl ?_
    refine ⟨n, b, s.1, xs, rfl, h1, h2, hb, hxs, hok.1, hok.2.2.2, fun P rs H1 e1 hP u1 hr1 => ?_⟩
    walk_at "rs"
    refine ixT (Evl.ex_t e1 ha) rfl ?_
    have hc1 := Evl.ex_t e1 hc
    have ol := hok.2.1
    refine ⟨c, rfl, ⟨_, hc1⟩, fun D hD => ?_⟩
    refine lc_go (walk_enumT (xs := s.2.map vN)) (fun _ => false) (fun k => vN k) (by rw [List.length_map]; omega) hD (fun H' e => Evl.ex_t e hc1) ?_ ?_
    · rintro t x H' H2' hk e ⟨B, x1, x2, rfl, hB, rfl, ex1, hx⟩ Qe Qn qe qn
      cases ex1
      obtain ⟨o, ho, rfl⟩ := nat_at hx
      have ht : t < n := by have := (List.getElem?_eq_some_iff.mp ho).1; omega
      have hro := hrows t ht
      have go : s.2.getD t 0 = o := by simp [List.getD, ho]
      rw [go] at hro
      have hol := hok.2.2.1 o (List.mem_of_getElem? ho)
      have hrl := Paired.len' hr1
      rw [rows_len] at hrl
      have hq9 := List.getElem?_eq_getElem (show o < rs.length by omega)
      obtain ⟨y, hy1, hq1⟩ := Paired.at' hr1 hq9
      have : (rowsM n s.1).getD o [] = y := by simp [List.getD, hy1]
      rw [hro] at this
      rw [← this] at hq1
      have e3 := ex_upd (o := .tup [V.int t, vN o]) hB
      have u3 : upd H' B (.tup [V.int t, vN o]) B = _ := upd_same
      generalize upd H' B (.tup [V.int t, vN o]) = H3 at e3 u3 qe qn ⊢
      walk_at "rs"
      refine ⟨_, .of u3, rfl, _, _, rfl, _, _, rfl, rfl, ?_⟩
      walk_at "rs"
      refine ixM (e3 _ _ (e _ _ u1)) (atI_nat hq9) ?_
      unfold tTupRg3 tRg3
      walk_at "rs"
      refine ⟨⟨by omega, by omega, by omega, by omega, by omega⟩, fun R hR => ?_⟩
      have e5 := ex_upd (o := .tup (rgD (t : Int) (-1))) hR
      have u5 : upd H3 R (.tup (rgD (t : Int) (-1))) R = _ := upd_same
      generalize upd H3 R (.tup (rgD (t : Int) (-1))) = H4 at e5 u5 ⊢
      rw [rgD_down] at u5
      obtain ⟨q5, eq5, hq5⟩ := hq1.ex (e.trans (e3.trans e5))
      rw [eq5]
      refine neTN hq5 (.of u5) ?_
      rw [decide_eq_true (rfl : downTo t = downTo t)]
      refine ⟨_, rfl, ?_⟩
      rw [if_neg (by decide)]
      exact qn _ (e3.trans e5) rfl
    intro H2 e2 l2
    have kn : ∀ (m : Nat) (f : Nat → V), kept m (fun _ => false) f = [] := fun m f => by
      unfold kept
      rw [List.filter_eq_nil_iff.mpr (fun _ _ => by decide)]; rfl
    rw [kn] at l2
    refine ⟨by decide, fun R hR => ?_⟩
    have e5 := ex_upd (o := .lst []) hR
    exact eqD (d := .list []) (e := .list []) (.lst (.of (e5 _ _ l2)) .nil) (.lst (.of upd_same) .nil) (sh_lst []) (sh_lst []) (b := true) rfl (q _ (e1.trans (e2.trans e5)))
def sp_law_depth (K : PySem.W.Frag) : Sp := fun vs H Q _ => ∃ (n : Nat) (v : V) (s : JS), vs = [.int n, v] ∧ 1 ≤ n ∧ n ≤ 32 ∧ PlAt K H v s ∧ POk n s ∧ ∀ H', Ex H H' → Q (vN (maxL (s.2.map fun o => (depM n s.1).getD o 0))) H'
set_option maxHeartbeats 4000000 in
theorem ok_law_depth (T : TxtW w K mg) : FnOk P w K mg base CX0 1 T.f_law_depth T.d_law_depth P_law_depth (sp_law_depth K) := by
  refine T.F_law_depth.ok sc_law_depth (fun vs H Q E h => ?_) (fun cdv A outer s H vs Q E hr h => ?_)
  · obtain ⟨n, v, s, rfl, _⟩ := h; rfl
  · obtain ⟨n, v, s, rfl, h1, h2, hpl, hok, q⟩ := h
    refine ⟨_, (pss_cons (ps_set (i := 2) sc_law_depth.nd rfl (Or.inr rfl) (pe_op op_rep (pe_lst (pa_cons pe_int pa_nil)) (pv 0)))
      (pss_cons (ps_for PassesOwn.never rfl (pi_tup (pe_ix ix_tup (pv 1) pe_int (fun _ _ => rfl))) (pg_tup (n := 2) rfl (pgs_cons (pg_name (i := 3) sc_law_depth.nd rfl (Or.inl rfl)) (pgs_cons (pg_name (i := 4) sc_law_depth.nd rfl (Or.inl rfl)) pgs_nil))) (pss_one (ps_expr (pe_bm PySem.F.plainAttrs_list PySem.F.slot_list_append PySem.F.type_list_append mt_append (pv 2) (pa_cons (pe_op op_add pe_int (pe_callB (call_max2 rfl) (by rfl) T.n_max (by decide +kernel) (pa_cons (pe_ix ix_list (pv 2) (pv 3) (fun _ _ => rfl)) (pa_cons (pe_ix ix_list (pv 2) (pv 4) (fun _ _ => rfl)) pa_nil)))) pa_nil)))))
      (pss_one (ps_ret (pe_callB (cr_max rfl) (by rfl) T.n_max (by decide +kernel) (pa_cons (pe_lc (own := [("piece", 5)]) (g := gName 5) (tt := tYes) (by rfl) sc_law_depth.nd (pi_tup (pe_ix ix_tup (pv 1) pe_int (fun _ _ => rfl))) (blkOk_by (own := [("piece", 5)]) (N := N_law_depth) (sc := defScope s_law_depth) (by decide +kernel)) (fun _ _ _ _ _ => (pg_name (i := 5) sc_law_depth.nd rfl (by first | exact Or.inl rfl | exact Or.inr rfl))) (fun _ _ _ _ _ => pts_nil) (fun _ _ _ _ _ => (pe_ix (k_ix_list (K := K) rfl) (pv 2) (pv 5) (fun _ _ => rfl)))) pa_nil)))))), ?_⟩
    have e0 : Ex H H := Ex.refl _
    obtain ⟨a, b, c, xs, rfl, ha, hb, hxs, hc⟩ := hpl
    generalize hH0 : H = H0 at ha hb hxs hc
    have e0 : Ex H H0 := by rw [← hH0]; exact Ex.refl _
    obtain ⟨o1, o2, o3, o4⟩ := hok
    have hlen := Paired.len' hxs
    walk_at "rs"
    refine ⟨by decide, fun z hz => ⟨z, _, _, rfl, rfl, upd_same, by omega, by omega, by rw [List.length_singleton, sizeLine_eq]; omega, fun D hD => ?_⟩⟩
    rw [Int.toNat_natCast, flat_rep]
    have e1 := (ex_upd (o := .lst [.int 0]) hz).trans (ex_upd (o := .lst (List.replicate n (.int 0))) hD)
    have u1 : upd (upd H0 z (.lst [.int 0])) D (.lst (List.replicate n (.int 0))) D = some (.lst ((depM n []).map vN)) := by
      rw [upd_same]; unfold depM; rw [List.foldl_nil, List.map_replicate]; rfl
    have hD0 := (ex_upd (o := .lst [.int 0]) hz).fresh hD
    generalize upd (upd H0 z (.lst [.int 0])) D (.lst (List.replicate n (.int 0))) = H1 at e1 u1 ⊢
    walk_at "rs"
    have dapp : ∀ js p, depM n (js ++ [p]) = depStep (depM n js) p := fun js p => by unfold depM; rw [List.foldl_append]; rfl
    have dlen : ∀ js : List Jn, (depM n js).length = n + js.length := by
      intro js
      unfold depM
      have gen : ∀ (js : List Jn) (ds : List Nat), (js.foldl depStep ds).length = ds.length + js.length := by
        intro js
        induction js with
        | nil => intro ds; rfl
        | cons p t ih => intro ds; rw [List.foldl_cons, ih]; unfold depStep; rw [List.length_append, List.length_singleton, List.length_cons]; omega
      rw [gen, List.length_replicate]
    refine ixT (Evl.ex_t e1 ha) rfl ?_
    refine ⟨b, rfl, ⟨_, Evl.ex_t e1 hb⟩, lpT (xs := xs) (fun i σ H' => Ex H0 H' ∧ H' D = some (.lst ((depM n (s.1.take i)).map vN)) ∧ ∃ t5 t6, σ = [some (.int n), some (.ref a), some (.ref D), t5, t6, none]) ⟨e1, u1, none, none, rfl⟩ (fun i σ' H' _ h => Evl.ex_t h.1 hb) ?_ ?_⟩
    · rintro i x σ H2 hx ⟨e2, u2, t5, t6, rfl⟩
      obtain ⟨p, hp, ⟨q0, rfl, hq0⟩⟩ := Paired.at' hxs hx
      have hq0 := Evl.ex_t e2 hq0
      have hi : i < s.1.length := (List.getElem?_eq_some_iff.mp hp).1
      obtain ⟨p1, p2⟩ := o4 i p hp
      have hl := dlen (s.1.take i)
      rw [List.length_take, Nat.min_eq_left (by omega)] at hl
      walk_at "rs"
      refine ⟨_, hq0, rfl, _, _, rfl, _, _, rfl, rfl, ?_⟩
      walk_at "rs"
      refine ⟨.inl ⟨rfl, _, .of u2⟩, ixM u2 (atI_nat (lnat_at (by omega))) (ixM u2 (atI_nat (lnat_at (by omega))) ?_)⟩
      walk_at "rs"
      refine ⟨D, _, _, rfl, rfl, u2, by rw [List.length_map, sizeLine_eq]; omega, e2.mut hD0, ?_⟩
      rw [upd_same, List.take_add_one, hp]
      show _ = some (HO.lst ((depM n (s.1.take i ++ [p])).map vN))
      rw [dapp]
      unfold depStep
      rw [List.map_append]
      congr 4
      show V.int _ = V.int _
      congr 1
      by_cases hc : (((depM n (s.1.take i)).getD p.2 0 : Nat) : Int) > ((depM n (s.1.take i)).getD p.1 0 : Nat)
      · rw [if_pos hc]; omega
      · rw [if_neg hc]; omega
    · rintro σ H2 ⟨e2, u2, t5, t6, rfl⟩
      walk_at "rs"
      rw [hlen, List.take_length] at u2
      have hl := dlen s.1
      refine ixT (Evl.ex_t e2 ha) rfl ?_
      refine ⟨c, rfl, ⟨_, Evl.ex_t e2 hc⟩, fun M hM => ?_⟩
      refine lc_map (walk_tup (xs := s.2.map vN)) (fun k => vN ((depM n s.1).getD (s.2.getD k 0) 0)) (by rw [List.length_map]; omega) hM (fun H' e => Evl.ex_t e (Evl.ex_t e2 hc)) ?_ ?_
      · rintro k x H' H2' hk9 e ⟨rfl, hx⟩ Qe qe
        rw [List.getElem?_map] at hx
        cases hz : s.2[k]? with
        | none => rw [hz] at hx; cases hx
        | some o =>
          rw [hz] at hx
          cases hx
          have gz : s.2.getD k 0 = o := by simp [List.getD, hz]
          rw [gz] at qe
          have := o3 o (List.mem_of_getElem? hz)
          walk_at "rs"
          exact ixM (e _ _ u2) (atI_nat (lnat_at (by omega))) (qe _ (Ex.refl _))
      intro H3 e3 l3
      have l3' : H3 M = some (.lst (((s.2.map fun o => (depM n s.1).getD o 0).map (fun z : Nat => (z : Int))).map V.int)) := by
        rw [l3, List.length_map, List.map_map, List.map_map]
        congr 2
        have := range_take s.2 0
        conv => rhs; rw [← this, List.map_map]
        rfl
      refine ⟨M, _, rfl, .of l3', by rw [List.length_map, List.length_map]; omega, fun m hm hmx => ?_⟩
      walk_at "rs"
      have hmax := maxL_is (l := s.2.map fun o => (depM n s.1).getD o 0) (by rw [List.length_map]; omega)
      obtain ⟨mz, hmz, rfl⟩ := List.mem_map.mp hm
      have h1 := hmx _ (List.mem_map.mpr ⟨_, hmax.1, rfl⟩)
      have h2 := hmax.2 _ hmz
      have : mz = maxL (s.2.map fun o => (depM n s.1).getD o 0) := by omega
      rw [this]
      exact q _ ((e0.trans e2).trans e3)
def sp_law_least_depth (K : PySem.W.Frag) : Sp := fun vs H Q _ => ∃ n : Nat, vs = [.int n] ∧ 1 ≤ n ∧ n ≤ 32 ∧ ∀ H', Ex H H' → Q (vN (leastD n)) H'
set_option maxHeartbeats 4000000 in
theorem ok_law_least_depth (T : TxtW w K mg) : FnOk P w K mg base CX0 1 T.f_law_least_depth T.d_law_least_depth P_law_least_depth (sp_law_least_depth K) := by
  refine T.F_law_least_depth.ok sc_law_least_depth (fun vs H Q E h => ?_) (fun cdv A outer s H vs Q E hr h => ?_)
  · obtain ⟨n, rfl, _⟩ := h; rfl
  · obtain ⟨n, rfl, h1, h2, q⟩ := h
    refine ⟨_, (pss_cons (ps_asg (pe_tup (pa_cons pe_int (pa_cons pe_int pa_nil))) (pg_tup (n := 2) rfl (pgs_cons (pg_name (i := 1) sc_law_least_depth.nd rfl (Or.inl rfl)) (pgs_cons (pg_name (i := 2) sc_law_least_depth.nd rfl (Or.inl rfl)) pgs_nil))))
      (pss_cons (ps_while PassesOwn.never (pt_cmpR op_lt (pv 2) (pv 0) (nomark _)) (pss_one (ps_par (i := 1) (j := 2) (by rfl) sc_law_least_depth.nd rfl rfl (by decide) rfl rfl (pa_cons (pe_op op_add (pv 1) pe_int) (pa_cons (pe_op op_mulA pe_int (pv 2)) pa_nil)) (by rfl))))
      (pss_one (ps_ret (pv 1))))), ?_⟩
    walk_at "rs"
    refine ⟨by decide, fun t ht => ?_⟩
    refine ⟨_, .of upd_same, rfl, _, _, rfl, _, _, rfl, rfl, ?_⟩
    have e1 := ex_upd (o := .tup [V.int 0, V.int 1]) ht
    generalize upd H t (.tup [V.int 0, V.int 1]) = H1 at e1 ⊢
    walk_at "rs"
    refine whW (fun m σ' H' => ∃ k, σ' = [some (.int n), some (vN k), some (vN (2 ^ k))] ∧ Ex H H' ∧ m + k = 6 ∧ (∀ j, j < k → 2 ^ j < n)) 6 ⟨0, rfl, e1, rfl, fun j hj => absurd hj (Nat.not_lt_zero _)⟩ ?_
    rintro m σ H2 ⟨k, rfl, e2, hmk, hlt⟩
    walk_at "rs"
    by_cases hc : 2 ^ k < n
    · have hk : k < 5 := by
        rcases Nat.lt_or_ge k 5 with h | h
        · exact h
        · have := Nat.pow_le_pow_right (n := 2) (by decide) h
          omega
      rw [if_pos (by omega)]
      refine ⟨fun σ' H' => σ' = [some (.int n), some (vN (k + 1)), some (vN (2 ^ (k + 1)))] ∧ Ex H H', ?_, mulL (by decide), ?_, e2⟩
      · rintro s2 H3 ⟨rfl, e3⟩
        refine ⟨m - 1, by omega, k + 1, rfl, e3, by omega, fun j hj => ?_⟩
        rcases Nat.lt_succ_iff_lt_or_eq.mp hj with h | h
        · exact hlt j h
        · rw [h]; exact hc
      · have e5 : (2 : Int) * ((2 ^ k : Nat) : Int) = ((2 ^ (k + 1) : Nat) : Int) := by rw [Nat.pow_succ]; omega
        rw [e5]; rfl
    · rw [if_neg (by omega), ← leastD_is h2 (by omega) hlt hc]
      exact q _ e2
theorem two_ways {P : Hp → Prop} {c : Prop} [Decidable c] {A : Prop} {G : Hp → Prop} {H : Hp} (hG : G H) (rest : ∀ H, G H → P H) (way : c → (∀ H, G H → P H) → A) : if c then A else P H := by
  by_cases h : c
  · rw [if_pos h]; exact way h rest
  · rw [if_neg h]; exact rest H hG
theorem inV_pk (k : PK) : inV (V.str (pkS k)) [V.str (Str.ofString "halves"), V.str (Str.ofString "doubling")] = true → k = .halves ∨ k = .doubling := by
  cases k
  · intro h; exact absurd h (by decide +kernel)
  · intro _; exact .inl rfl
  · intro _; exact .inr rfl
  · intro h; exact absurd h (by decide +kernel)
def sp_law_right (K : PySem.W.Frag) : Sp := fun vs H Q _ => ∃ (d : Addr) (k : PK) (n : Nat), vs = [.ref d, .str (pkS k), .int n] ∧ DiceAt H d ∧ 1 ≤ n ∧ n ≤ 32 ∧ ∀ H', ExD d H H' → DiceAt H' d → Q (.bl true) H'
set_option maxHeartbeats 4000000 in
theorem ok_law_right (T : TxtW w K mg) : FnOk P w K mg base CX0 8 T.f_law_right T.d_law_right P_law_right (sp_law_right K) := by
  have G_law_rows := ok_law_rows (P := P) (w := w) (base := base) T
  have G_plan_of := ok_plan_of (P := P) (w := w) (base := base) T
  have G_law_plan := ok_law_plan (P := P) (w := w) (base := base) T
  have G_plan_depth := ok_plan_depth (P := P) (w := w) (base := base) T
  have G_law_depth := ok_law_depth (P := P) (w := w) (base := base) T
  have G_law_roll := ok_law_roll (P := P) (w := w) (base := base) T
  have G_is_plan := ok_is_plan (P := P) (w := w) (base := base) T
  have G_plan_paper := ok_plan_paper (P := P) (w := w) (base := base) T
  have G_law_is_adder := ok_law_is_adder (P := P) (w := w) (base := base) T
  have G_law_least_depth := ok_law_least_depth (P := P) (w := w) (base := base) T
  have G_row_of := ok_row_of (P := P) (w := w) (base := base) T
  have G_law_true := ok_law_true (P := P) (w := w) (base := base) T
  have G_law_two_to := ok_law_two_to (P := P) (w := w) (base := base) T
  have G_carries_by := ok_carries_by (P := P) (w := w) (base := base) T
  refine T.F_law_right.ok sc_law_right (fun vs H Q E h => ?_) (fun cdv A outer s H vs Q E hr h => ?_)
  · obtain ⟨d, k, n, rfl, _⟩ := h; rfl
  · obtain ⟨d, k, n, rfl, hd, h1, h2, q⟩ := h
    refine ⟨_, (pss_cons (ps_par (i := 3) (j := 4) (by rfl) sc_law_right.nd rfl rfl (by decide) rfl rfl (pa_cons (pe_call G_plan_of (hr.mono (by decide)) (by rfl) T.m_plan_of T.F_plan_of.kp T.b_plan_of .nil pass0 (pa_cons (pv 1) (pa_cons (pv 2) pa_nil))) (pa_cons (pe_call G_law_plan (hr.mono (by decide)) (by rfl) T.m_law_plan T.F_law_plan.kp T.b_law_plan .nil pass0 (pa_cons (pv 1) (pa_cons (pv 2) pa_nil))) pa_nil)) (by rfl))
      (pss_cons (ps_if (PW.pt (pw_or (pt_cmpR (op_neD hr.units) (pv 3) (pv 4) (nomark _)) (pw_or (pt_not (pt_val (pe_call G_is_plan (hr.mono (by decide)) (by rfl) T.m_is_plan T.F_is_plan.kp T.b_is_plan .nil pass0 (pa_cons (pv 2) (pa_cons (pv 3) pa_nil))))) (pw_or (pt_cmpR op_notN (pe_call G_plan_paper (hr.mono (by decide)) (by rfl) T.m_plan_paper T.F_plan_paper.kp T.b_plan_paper .nil pass0 (pa_cons (pv 2) (pa_cons (pv 3) pa_nil))) pe_non (nomark _)) (pw_or1 (pt_not (pt_val (pe_call G_law_is_adder (hr.mono (by decide)) (by rfl) T.m_law_is_adder T.F_law_is_adder.kp T.b_law_is_adder .nil pass0 (pa_cons (pv 2) (pa_cons (pv 4) pa_nil)))))))))) (pss_one (ps_ret pe_bl)) pss_nil)
      (pss_cons (ps_if (pt_cmpR op_ne (pe_call G_plan_depth (hr.mono (by decide)) (by rfl) T.m_plan_depth T.F_plan_depth.kp T.b_plan_depth .nil pass0 (pa_cons (pv 2) (pa_cons (pv 3) pa_nil))) (pe_call G_law_depth (hr.mono (by decide)) (by rfl) T.m_law_depth T.F_law_depth.kp T.b_law_depth .nil pass0 (pa_cons (pv 2) (pa_cons (pv 4) pa_nil))) (nomark _)) (pss_one (ps_ret pe_bl)) pss_nil)
      (pss_cons (ps_if (PW.pt (pw_and (pt_cmpR op_in_seq (pv 1) (pe_tup (pa_cons pe_str (pa_cons pe_str pa_nil))) (by rfl)) (pw_and1 (pt_cmpR op_ne (pe_call G_plan_depth (hr.mono (by decide)) (by rfl) T.m_plan_depth T.F_plan_depth.kp T.b_plan_depth .nil pass0 (pa_cons (pv 2) (pa_cons (pv 3) pa_nil))) (pe_call G_law_least_depth (hr.mono (by decide)) (by rfl) T.m_law_least_depth T.F_law_least_depth.kp T.b_law_least_depth .nil pass0 (pa_cons (pv 2) pa_nil)) (nomark _))))) (pss_one (ps_ret pe_bl)) pss_nil)
      (pss_cons (ps_set (i := 5) sc_law_right.nd rfl (Or.inl rfl) (pe_call G_law_rows (hr.mono (by decide)) (by rfl) T.m_law_rows T.F_law_rows.kp T.b_law_rows .nil pass0 (pa_cons (pv 2) (pa_cons (pe_ix ix_tup (pv 4) pe_int (fun _ _ => rfl)) pa_nil))))
      (pss_cons (ps_for PassesOwn.never rfl (pi_range1 (by rfl) T.n_range (pa_cons pe_int pa_nil)) (pg_name (i := 6) sc_law_right.nd rfl (Or.inl rfl)) (pss_cons (ps_set (i := 7) sc_law_right.nd rfl (Or.inl rfl) (pe_call G_law_roll (hr.mono (by decide)) (by rfl) T.m_law_roll T.F_law_roll.kp T.b_law_roll .nil pass0 (pa_cons (pv 0) (pa_cons (pe_op op_add (pv 2) (pe_callB call_len_seq (by rfl) T.n_len (by decide +kernel) (pa_cons (pe_ix ix_tup (pv 4) pe_int (fun _ _ => rfl)) pa_nil))) pa_nil))))
      (pss_cons (ps_if (pt_cmpR (op_neD hr.units) (pe_call G_row_of (hr.mono (by decide)) (by rfl) T.m_row_of T.F_row_of.kp T.b_row_of .nil pass0 (pa_cons (pv 2) (pa_cons (pv 3) (pa_cons (pv 7) pa_nil)))) (pe_ix ix_list (pv 5) (pv 7) (fun _ _ => rfl)) (nomark _)) (pss_one (ps_ret pe_bl)) pss_nil)
      (pss_cons (ps_par3 (i := 8) (j := 9) (l := 10) (by rfl) sc_law_right.nd rfl rfl rfl (by decide) (by decide) (by decide) rfl rfl rfl (pa_cons (pe_call G_law_roll (hr.mono (by decide)) (by rfl) T.m_law_roll T.F_law_roll.kp T.b_law_roll .nil pass0 (pa_cons (pv 0) (pa_cons (pe_call G_law_two_to (hr.mono (by decide)) (by rfl) T.m_law_two_to T.F_law_two_to.kp T.b_law_two_to .nil pass0 (pa_cons (pv 2) pa_nil)) pa_nil))) (pa_cons (pe_call G_law_roll (hr.mono (by decide)) (by rfl) T.m_law_roll T.F_law_roll.kp T.b_law_roll .nil pass0 (pa_cons (pv 0) (pa_cons (pe_call G_law_two_to (hr.mono (by decide)) (by rfl) T.m_law_two_to T.F_law_two_to.kp T.b_law_two_to .nil pass0 (pa_cons (pv 2) pa_nil)) pa_nil))) (pa_cons (pe_call G_law_roll (hr.mono (by decide)) (by rfl) T.m_law_roll T.F_law_roll.kp T.b_law_roll .nil pass0 (pa_cons (pv 0) (pa_cons pe_int pa_nil))) pa_nil))) (by rfl))
      (pss_cons (ps_join (ps_if (pt_cmpR op_eq (pv 6) pe_int (nomark _)) (pss_one (ps_set (i := 9) sc_law_right.nd rfl (Or.inl rfl) (pe_op op_sub (pe_op op_sub (pe_call G_law_two_to (hr.mono (by decide)) (by rfl) T.m_law_two_to T.F_law_two_to.kp T.b_law_two_to .nil pass0 (pa_cons (pv 2) pa_nil)) pe_int) (pv 8)))) pss_nil))
      (pss_one (ps_if (pt_cmpR (op_neD hr.units) (pe_callTy call_list_of (by rfl) T.n_list (by decide +kernel) (pa_cons (pe_call G_carries_by (hr.mono (by decide)) (by rfl) T.m_carries_by T.F_carries_by.kp T.b_carries_by .nil pass0 (pa_cons (pv 2) (pa_cons (pv 3) (pa_cons (pv 8) (pa_cons (pv 9) (pa_cons (pv 10) pa_nil)))))) pa_nil)) (pe_call G_law_true (hr.mono (by decide)) (by rfl) T.m_law_true T.F_law_true.kp T.b_law_true .nil pass0 (pa_cons (pv 2) (pa_cons (pv 8) (pa_cons (pv 9) (pa_cons (pv 10) pa_nil))))) (nomark _)) (pss_one (ps_ret pe_bl)) pss_nil)))))))
      (pss_one (ps_ret pe_bl)))))))), ?_⟩
    obtain ⟨c1, c2, c3, c4, c5⟩ := checkK_use (chk_at k h1 h2)
    have hok := okPlan_iff c2
    walk_at "rs"
    refine ⟨k, n, rfl, h1, h2, fun v1 H1 e1 p1 => ?_⟩
    refine ⟨k, n, rfl, h1, h2, fun v2 H2 e2 p2 => ?_⟩
    rw [c1] at p2
    have p1 := p1.ex e2
    have hs1 := hok.1
    have hs2 := hok.2.1
    generalize pkgM k n = s at *
    walk_at "rs"
    refine neSelf p1.dp p2.dp (sh_plan _) ⟨_, rfl, ?_⟩
    walk_at "rs"
    refine ⟨n, v1, s, rfl, h1, h2, p1, hok, fun H3 e3 => ?_⟩
    walk_at "rs"
    refine ⟨n, v1, s, rfl, h1, h2, p1.ex e3, hok, c3, fun H4 e4 => ?_⟩
    walk_at "rs"
    refine ⟨n, v2, s, rfl, h1, h2, p2.ex (e3.trans e4), hok, c3, fun H5 e5 => ?_⟩
    walk_at "rs"
    have e25 := e3.trans (e4.trans e5)
    refine ⟨n, v1, s, rfl, h1, h2, p1.ex e25, hok, fun H6 e6 => ?_⟩
    walk_at "rs"
    refine ⟨n, v2, s, rfl, h1, h2, p2.ex (e25.trans e6), hok, fun H7 e7 => ?_⟩
    walk_at "rs"
    have e27 := e25.trans (e6.trans e7)
    refine ⟨by decide, fun a ha => ?_⟩
    have e8 := ex_upd (o := .tup [V.str (Str.ofString "halves"), V.str (Str.ofString "doubling")]) ha
    have ua : upd H7 a (.tup [V.str (Str.ofString "halves"), V.str (Str.ofString "doubling")]) a = _ := upd_same
    generalize upd H7 a (.tup [V.str (Str.ofString "halves"), V.str (Str.ofString "doubling")]) = H8 at e8 ua ⊢
    have e28 := e27.trans e8
    refine ⟨a, _, rfl, .inr (.of ua), rfl, by rfl, ?_⟩
    refine ⟨_, rfl, ?_⟩
    refine two_ways (G := fun H' => Ex H2 H') e28 ?_ ?_
    case refine_2 =>
      intro hc rest
      rw [if_neg (by decide)] at hc
      refine ⟨n, v1, s, rfl, h1, h2, p1.ex e28, hok, fun H9 e9 => ?_⟩
      refine ⟨n, rfl, h1, h2, fun H10 e10 => ?_⟩
      rw [c4 (inV_pk k hc)]
      refine ⟨rfl, ?_⟩
      rw [if_pos rfl]
      exact rest _ (e28.trans (e9.trans e10))
    clear e28 ua e8 e27 e7 e6 e25 e5 e4 e3
    intro HA eA
    have hdA := (hd.ex e1).ex (e2.trans eA)
    have p1 := p1.ex eA
    have p2 := p2.ex eA
    have eHA := e1.trans (e2.trans eA)
    walk_at "rs"
    have p2k := p2
    obtain ⟨a, b, c, xs, rfl, ha, hb, hxs, hc⟩ := p2
    refine ixT ha rfl ?_
    refine ⟨n, b, s.1, xs, rfl, h1, h2, hb, hxs, hok.1, hok.2.2.2, fun D rs HB eB hD uD hrs => ?_⟩
    have hdB := hdA.ex eB
    have p1 := p1.ex eB
    have p2k := p2k.ex eB
    have nDd : D ≠ d := fun z => by obtain ⟨_, _, _, _, _, _, h⟩ := hdA; rw [z, h] at hD; cases hD
    have eHB := eHA.trans eB
    have ha := Evl.ex_t eB ha
    have hb := Evl.ex_t eB hb
    have hlx := Paired.len' hxs
    clear hxs eA eB eHA
    have hrl := Paired.len' hrs
    rw [rows_len] at hrl
    walk_at "rs"
    refine ⟨by decide, by decide, lpR 3 (fun t σ H' => ExD d HB H' ∧ DiceAt H' d ∧ ∃ t6 t7 t8 t9 t10, σ = [some (.ref d), some (.str (pkS k)), some (.int n), some v1, some (.ref a), some (.ref D), t6, t7, t8, t9, t10]) ⟨ExD.refl _, hdB, none, none, none, none, none, rfl⟩ ?_ ?_⟩
    · rintro t σ HC ht ⟨gC, dC, t6, t7, t8, t9, t10, rfl⟩
      have p1C := p1.exd hdB gC
      have uC := gC _ _ nDd uD
      have rC : Paired (TNat K HC) rs (rowsM n s.1) := Paired.mapP hrs fun _ _ r => r.exd hdB gC
      walk_at "rs"
      refine ixT (sqT_exd hdB gC ha) rfl ?_
      refine ⟨b, rfl, xs, .inr (sqT_exd hdB gC hb), ?_⟩
      refine ⟨d, (n : Int) + (xs.length : Nat), rfl, dC, by omega, ?_, fun i x y z i0 i1 x0 y0 z0 => ?_⟩
      · have : (n : Int) + (xs.length : Nat) ≤ 500 := by omega
        exact Int.lt_of_le_of_lt this (by decide)
      obtain ⟨o, rfl⟩ : ∃ o : Nat, i = (o : Int) := ⟨i.toNat, by omega⟩
      have gD := gC.trans (exd_upd (d := d) (H := HC) (o := dice3 x y z))
      have dD := dice_upd (H := HC) (d := d) x0 y0 z0
      have p1D := p1.exd hdB gD
      have uDD := gD _ _ nDd uD
      have rD : Paired (TNat K (upd HC d (dice3 x y z))) rs (rowsM n s.1) := Paired.mapP hrs fun _ _ r => r.exd hdB gD
      generalize upd HC d (dice3 x y z) = HD at gD dD p1D uDD rD ⊢
      walk_at "rs"
      refine ⟨n, v1, s, o, rfl, h1, h2, p1D, hok, by omega, fun r HE eE hr => ?_⟩
      obtain ⟨w, hw1, hw2⟩ := Paired.at' rD (List.getElem?_eq_getElem (show o < rs.length by omega))
      refine ixM (eE _ _ uDD) (atI_nat (List.getElem?_eq_getElem (show o < rs.length by omega))) ?_
      have ew : (rowsM n s.1).getD o [] = w := by simp [List.getD, hw1]
      rw [ew] at hr
      obtain ⟨q1, rfl, hq1⟩ := hr
      obtain ⟨q2, e92, hq2⟩ := hw2.ex eE
      rw [e92]
      refine neTN hq1 hq2 ?_
      rw [decide_eq_true rfl]
      have gE := gD.trans (ExD.of eE)
      have dE := dD.ex eE
      walk_at "rs"
      have pn := pow_pos' n
      have pn32 : (2 : Int) ^ n < 2 ^ 4000 := Int.lt_of_le_of_lt (pow_le (m := 32) h2) (by decide +kernel)
      refine ⟨n, rfl, by omega, ⟨d, 2 ^ n, rfl, dE, pn, pn32, fun i x y z i0 i1 x0 y0 z0 => ?_⟩⟩
      have gF := gE.trans (exd_upd (d := d) (H := HE) (o := dice3 x y z))
      have dF := dice_upd (H := HE) (d := d) x0 y0 z0
      generalize upd HE d (dice3 x y z) = HF at gF dF ⊢
      refine ⟨n, rfl, by omega, ⟨d, 2 ^ n, rfl, dF, pn, pn32, fun j x y z j0 j1 x0 y0 z0 => ?_⟩⟩
      have gG := gF.trans (exd_upd (d := d) (H := HF) (o := dice3 x y z))
      have dG := dice_upd (H := HF) (d := d) x0 y0 z0
      generalize upd HF d (dice3 x y z) = HG at gG dG ⊢
      refine ⟨d, 2, rfl, dG, by decide, by decide, fun u x y z u0 u1 x0 y0 z0 => ?_⟩
      have gH := gG.trans (exd_upd (d := d) (H := HG) (o := dice3 x y z))
      have dH := dice_upd (H := HG) (d := d) x0 y0 z0
      generalize upd HG d (dice3 x y z) = HH at gH dH ⊢
      obtain ⟨cc, rfl⟩ : ∃ cc : Bool, u = b2i cc := by
        have : u = 0 ∨ u = 1 := by omega
        rcases this with rfl | rfl
        · exact ⟨false, rfl⟩
        · exact ⟨true, rfl⟩
      walk_at "rs"
      refine ⟨fun σ H' => H' = HH ∧ ∃ j' : Int, 0 ≤ j' ∧ j' < 2 ^ n ∧ σ = [some (.ref d), some (.str (pkS k)), some (.int n), some v1, some (.ref a), some (.ref D), some (.int t), some (.int o), some (.int i), some (.int j'), some (.int (b2i cc))], ?_, ?_⟩
      · walk_at "rs"
        by_cases hz : ((t : Nat) : Int) = 0
        · rw [if_pos hz]
          walk_at "rs"
          refine ⟨n, rfl, by omega, ?_⟩
          walk_at "rs"
          exact ⟨2 ^ n - 1 - i, by omega, by omega, rfl⟩
        · rw [if_neg hz]
          walk_at "rs"
          exact ⟨j, j0, j1, rfl⟩
      · rintro σ H' ⟨rfl, j', j0', j1', rfl⟩
        walk_at "rs"
        refine ⟨n, v1, s, i, j', cc, rfl, h1, h2, p1.exd hdB gH, hok, i0, i1, j0', j1', fun p HI eI uI => ?_⟩
        walk_at "rs"
        refine ⟨_, .inr (.of uI), fun l hl => ?_⟩
        have eL := ex_upd (o := .lst (s.2.map fun o => V.int (b2i (rowB i j' ((rowsM n s.1).getD o []) cc)))) hl
        have uL : upd HI l (.lst (s.2.map fun o => V.int (b2i (rowB i j' ((rowsM n s.1).getD o []) cc)))) l = _ := upd_same
        generalize upd HI l (.lst (s.2.map fun o => V.int (b2i (rowB i j' ((rowsM n s.1).getD o []) cc)))) = HL at eL uL ⊢
        refine ⟨n, i, j', cc, rfl, h1, h2, i0, i1, j0', j1', fun p' HM eM uM => ?_⟩
        have e1 : (s.2.map fun o => V.int (b2i (rowB i j' ((rowsM n s.1).getD o []) cc))) = ((List.range n).map fun k => b2i (rowB i j' (downTo k) cc)).map V.int := by
          rw [List.map_map, ← range_take s.2 0, List.map_map, hs2]
          refine List.map_congr_left fun k hk => ?_
          show V.int _ = V.int _
          rw [c3 k (List.mem_range.mp hk)]
        have e2 : ((List.range n).map fun k => V.int (b2i (rowB i j' (downTo k) cc))) = ((List.range n).map fun k => b2i (rowB i j' (downTo k) cc)).map V.int := by rw [List.map_map]; rfl
        rw [e1] at uL
        rw [e2] at uM
        refine neSelf (dp_lst (.of (eM _ _ uL))) (dp_lst (.of uM)) (sh_lst _) ⟨_, rfl, ?_⟩
        walk_at "rs"
        exact ⟨gH.trans (ExD.of (eI.trans (eL.trans eM))), ((dH.ex eI).ex eL).ex eM⟩
    · rintro σ HC ⟨gC, dC, t6, t7, t8, t9, t10, rfl⟩
      walk_at "rs"
      exact q _ ((ExD.of eHB).trans gC) dC
def sp_law (K : PySem.W.Frag) : Sp := fun vs H Q _ => ∃ (a : Addr) (ns : List Int), vs = [.ref a] ∧ SqL K H a (ns.map V.int) ∧ ns.length ≤ 63 ∧ ∀ H', Q (.bl true) H'
set_option maxHeartbeats 4000000 in
theorem ok_law (T : TxtW w K mg) : FnOk P w K mg base CX0 9 T.f_law T.d_law P_law (sp_law K) := by
  have G_law_dice := ok_law_dice (P := P) (w := w) (base := base) T
  have G_law_roll := ok_law_roll (P := P) (w := w) (base := base) T
  have G_plan_of := ok_plan_of (P := P) (w := w) (base := base) T
  have G_law_right := ok_law_right (P := P) (w := w) (base := base) T
  refine T.F_law.ok sc_law (fun vs H Q E h => ?_) (fun cdv A outer s H vs Q E hr h => ?_)
  · obtain ⟨a, ns, rfl, _⟩ := h; rfl
  · obtain ⟨a, ns, rfl, hS, hn, q⟩ := h
    refine ⟨_, (pss_cons (ps_for PassesOwn.never rfl (pi_range1 (by rfl) T.n_range (pa_cons (pe_callB (call_max2 rfl) (by rfl) T.n_max (by decide +kernel) (pa_cons pe_int (pa_cons (pe_callB (call_min2 rfl) (by rfl) T.n_min (by decide +kernel) (pa_cons pe_int (pa_cons (pe_callB call_len_seq (by rfl) T.n_len (by decide +kernel) (pa_cons (pv 0) pa_nil)) pa_nil))) pa_nil))) pa_nil)) (pg_name (i := 1) sc_law.nd rfl (Or.inl rfl)) (pss_cons (ps_set (i := 2) sc_law.nd rfl (Or.inl rfl) (pe_call G_law_dice (hr.mono (by decide)) (by rfl) T.m_law_dice T.F_law_dice.kp T.b_law_dice .nil pass0 (pa_cons (pv 0) (pa_cons (pv 1) pa_nil))))
      (pss_cons (ps_set (i := 3) sc_law.nd rfl (Or.inl rfl) (pe_op op_add pe_int (pe_call G_law_roll (hr.mono (by decide)) (by rfl) T.m_law_roll T.F_law_roll.kp T.b_law_roll .nil pass0 (pa_cons (pv 2) (pa_cons pe_int pa_nil)))))
      (pss_one (ps_for PassesOwn.never rfl (pi_tup (pe_tup (pa_cons pe_str (pa_cons pe_str (pa_cons pe_str (pa_cons pe_str pa_nil)))))) (pg_name (i := 4) sc_law.nd rfl (Or.inl rfl)) (pss_one (ps_if (pt_not (pt_val (pe_call G_law_right (hr.mono (by decide)) (by rfl) T.m_law_right T.F_law_right.kp T.b_law_right .nil pass0 (pa_cons (pv 2) (pa_cons (pv 4) (pa_cons (pv 3) pa_nil)))))) (pss_one (ps_ret pe_bl)) pss_nil)))))))
      (pss_one (ps_ret (pe_and (pe_cmpR (op_eqD hr.units) (pe_call G_plan_of (hr.mono (by decide)) (by rfl) T.m_plan_of T.F_plan_of.kp T.b_plan_of .nil pass0 (pa_cons pe_str (pa_cons pe_int pa_nil))) (pe_tup (pa_cons (pe_tup pa_nil) (pa_cons (pe_tup (pa_cons pe_int pa_nil)) pa_nil))) (nomark _)) (pe_one (pe_cmpR (op_eqD hr.units) (pe_call G_plan_of (hr.mono (by decide)) (by rfl) T.m_plan_of T.F_plan_of.kp T.b_plan_of .nil pass0 (pa_cons pe_str (pa_cons pe_int pa_nil))) (pe_tup (pa_cons (pe_tup (pa_cons (pe_tup (pa_cons pe_int (pa_cons pe_int pa_nil))) (pa_cons (pe_tup (pa_cons pe_int (pa_cons pe_int pa_nil))) pa_nil))) (pa_cons (pe_tup (pa_cons pe_int (pa_cons pe_int (pa_cons pe_int pa_nil)))) pa_nil))) (nomark _))))))), ?_⟩
    walk_at "rs"
    refine ⟨_, .inl hS, ?_⟩
    rw [List.length_map]
    obtain ⟨c, hc, hc4⟩ : ∃ c : Nat, (if (if (ns.length : Int) < 3 then (ns.length : Int) else 3) > 1 then if (ns.length : Int) < 3 then (ns.length : Int) else 3 else 1) = (c : Int) ∧ c ≤ 64 := by
      by_cases h1 : (ns.length : Int) < 3
      · rw [if_pos h1]
        by_cases h2 : (ns.length : Int) > 1
        · exact ⟨ns.length, by rw [if_pos h2], by omega⟩
        · exact ⟨1, by rw [if_neg h2]; rfl, by omega⟩
      · rw [if_neg h1]
        exact ⟨3, by rw [if_pos (by decide)]; rfl, by omega⟩
    rw [hc]
    refine ⟨by omega, by omega, ?_⟩
    rw [Int.toNat_natCast]
    refine lpR c (fun k σ H' => Ex H H' ∧ ∃ t1 t2 t3 t4, σ = [some (.ref a), t1, t2, t3, t4]) ⟨Ex.refl _, none, none, none, none, rfl⟩ ?_ ?_
    · rintro k σ H1 hk ⟨e1, t1, t2, t3, t4, rfl⟩
      walk_at "rd"
      refine ⟨a, ns, k, rfl, e1.seq hS, by omega, fun l m d hl hm hd => ?_⟩
      walk_at "rd"
      refine ⟨d, 32, rfl, dice_upd hl hm (by decide), by decide, by decide, fun i x y z i0 i1 x0 y0 z0 => ?_⟩
      have g2 : ExD d H (upd (upd H1 d (dice3 l m 0)) d (dice3 x y z)) := (ExD.of e1).trans ((exd_new hd).trans exd_upd)
      have dd := dice_upd (H := upd H1 d (dice3 l m 0)) (d := d) x0 y0 z0
      have hd0 : H d = none := e1.fresh hd
      generalize upd (upd H1 d (dice3 l m 0)) d (dice3 x y z) = H2 at g2 dd ⊢
      obtain ⟨n, rfl⟩ : ∃ n : Nat, i = (n : Int) := ⟨i.toNat, by omega⟩
      walk_at "rd"
      refine ⟨by decide, fun p hp => ?_⟩
      have e3 := ex_upd (o := .tup [V.str (Str.ofString "row"), V.str (Str.ofString "halves"), V.str (Str.ofString "doubling"), V.str (Str.ofString "ladder")]) hp
      have up : upd H2 p (.tup [V.str (Str.ofString "row"), V.str (Str.ofString "halves"), V.str (Str.ofString "doubling"), V.str (Str.ofString "ladder")]) p = _ := upd_same
      have dd3 := dd.ex e3
      have g3 := g2.trans (ExD.of e3)
      generalize upd H2 p (.tup [V.str (Str.ofString "row"), V.str (Str.ofString "halves"), V.str (Str.ofString "doubling"), V.str (Str.ofString "ladder")]) = H3 at up dd3 g3 ⊢
      have npd : p ≠ d := fun z => by obtain ⟨_, _, _, _, _, _, h⟩ := dd; rw [z, h] at hp; cases hp
      refine ⟨⟨_, .of up⟩, lpT (xs := [V.str (Str.ofString "row"), V.str (Str.ofString "halves"), V.str (Str.ofString "doubling"), V.str (Str.ofString "ladder")]) (fun j σ H' => ExD d H H' ∧ DiceAt H' d ∧ H' p = some (.tup [V.str (Str.ofString "row"), V.str (Str.ofString "halves"), V.str (Str.ofString "doubling"), V.str (Str.ofString "ladder")]) ∧ ∃ t4, σ = [some (.ref a), some (.int k), some (.ref d), some (.int (1 + (n : Int))), t4]) ⟨g3, dd3, up, _, rfl⟩ (fun i σ' H' _ h => .of h.2.2.1) ?_ ?_⟩
      · rintro j x σ H4 hx ⟨g4, d4, u4, t4, rfl⟩
        have hj : j < 4 := (List.getElem?_eq_some_iff.mp hx).1
        obtain ⟨kk, rfl⟩ : ∃ kk : PK, x = .str (pkS kk) := by
          have : j = 0 ∨ j = 1 ∨ j = 2 ∨ j = 3 := by omega
          rcases this with rfl | rfl | rfl | rfl <;> simp at hx <;> subst hx
          · exact ⟨.row, rfl⟩
          · exact ⟨.halves, rfl⟩
          · exact ⟨.doubling, rfl⟩
          · exact ⟨.ladder, rfl⟩
        walk_at "rd"
        refine ⟨d, kk, 1 + n, by rw [Int.natCast_add]; rfl, d4, by omega, by omega, fun H5 g5 d5 => ?_⟩
        walk_at "rd"
        exact ⟨g4.trans g5, d5, g5 _ _ npd u4⟩
      · rintro σ H4 ⟨g4, d4, u4, t4, rfl⟩
        walk_at "rd"
        exact fun b o hb => g4 b o (ne_of_none hb hd0) hb
    · rintro σ H1 ⟨e1, t1, t2, t3, t4, rfl⟩
      walk_at "rs"
      refine ⟨.ladder, 1, rfl, by decide, by decide, fun v1 H2 e2 p1 => ?_⟩
      rw [show pkgM .ladder 1 = ([], [0]) from by decide +kernel] at p1
      walk_at "rs"
      refine ⟨by decide, fun p hp => ⟨by decide, fun p1' hp1 => ⟨by decide, fun p2 hp2 => ?_⟩⟩⟩
      have x0 := ex_upd (o := .tup []) hp
      have w0 : upd H2 p (.tup []) p = _ := upd_same
      generalize upd H2 p (.tup []) = G0 at x0 w0 hp1 hp2 ⊢
      have x1 := ex_upd (o := .tup [.int 0]) hp1
      have w1 : upd G0 p1' (.tup [.int 0]) p1' = _ := upd_same
      generalize upd G0 p1' (.tup [.int 0]) = G1 at x1 w1 hp2 ⊢
      have x2 := ex_upd (o := .tup [.ref p, .ref p1']) hp2
      have w2 : upd G1 p2 (.tup [.ref p, .ref p1']) p2 = _ := upd_same
      generalize upd G1 p2 (.tup [.ref p, .ref p1']) = G2 at x2 w2 ⊢
      have due1 : PlAt K G2 (.ref p2) ([], [0]) := ⟨p2, p, p1', [], rfl, .of w2, .of (x2 _ _ (x1 _ _ w0)), .nil, .of (x2 _ _ w1)⟩
      refine eqSelf (p1.ex (x0.trans (x1.trans x2))).dp due1.dp (sh_plan _) ⟨_, rfl, ?_⟩
      walk_at "rs"
      refine ⟨.halves, 3, rfl, by decide, by decide, fun v2 H3 e3 q1 => ?_⟩
      rw [show pkgM .halves 3 = ([(1, 0), (2, 3)], [0, 3, 4]) from by decide +kernel] at q1
      walk_at "rs"
      refine ⟨by decide, fun a0 ha0 => ⟨by decide, fun a1 ha1 => ⟨by decide, fun a2 ha2 => ⟨by decide, fun a3 ha3 => ⟨by decide, fun a4 ha4 => ?_⟩⟩⟩⟩⟩
      have y0 := ex_upd (o := .tup [.int 1, .int 0]) ha0
      have u0 : upd H3 a0 (.tup [.int 1, .int 0]) a0 = _ := upd_same
      generalize upd H3 a0 (.tup [.int 1, .int 0]) = F0 at y0 u0 ha1 ha2 ha3 ha4 ⊢
      have y1 := ex_upd (o := .tup [.int 2, .int 3]) ha1
      have u1 : upd F0 a1 (.tup [.int 2, .int 3]) a1 = _ := upd_same
      generalize upd F0 a1 (.tup [.int 2, .int 3]) = F1 at y1 u1 ha2 ha3 ha4 ⊢
      have y2 := ex_upd (o := .tup [.ref a0, .ref a1]) ha2
      have u2 : upd F1 a2 (.tup [.ref a0, .ref a1]) a2 = _ := upd_same
      generalize upd F1 a2 (.tup [.ref a0, .ref a1]) = F2 at y2 u2 ha3 ha4 ⊢
      have y3 := ex_upd (o := .tup [.int 0, .int 3, .int 4]) ha3
      have u3 : upd F2 a3 (.tup [.int 0, .int 3, .int 4]) a3 = _ := upd_same
      generalize upd F2 a3 (.tup [.int 0, .int 3, .int 4]) = F3 at y3 u3 ha4 ⊢
      have y4 := ex_upd (o := .tup [.ref a2, .ref a3]) ha4
      have u4 : upd F3 a4 (.tup [.ref a2, .ref a3]) a4 = _ := upd_same
      generalize upd F3 a4 (.tup [.ref a2, .ref a3]) = F4 at y4 u4 ⊢
      have due2 : PlAt K F4 (.ref a4) ([(1, 0), (2, 3)], [0, 3, 4]) := ⟨a4, a2, a3, [.ref a0, .ref a1], rfl, .of u4, .of (y4 _ _ (y3 _ _ u2)), .cons ⟨a0, rfl, .of (y4 _ _ (y3 _ _ (y2 _ _ (y1 _ _ u0))))⟩ (.cons ⟨a1, rfl, .of (y4 _ _ (y3 _ _ (y2 _ _ u1)))⟩ .nil), .of (y4 _ _ u3)⟩
      exact eqSelf (q1.ex (y0.trans (y1.trans (y2.trans (y3.trans y4))))).dp due2.dp (sh_plan _) (q _)
end
theorem all_mk {l : PySem.W.OpenLaw} {w : World} {K : PySem.W.Frag} {h : Heap} {mg : Str → Option Value} {fa : Addr} (X : K.In h) (G : h.Ns mainGlobals mg) (hfa : mg "law" = some (.ref fa))
    {f0 : Addr} {od0 an0 : Option Addr} {sl0 : Array (Option Value)} {oc0 kV0 dc0 pm0 cd0 ct0 : Value}
    {f1 : Addr} {od1 an1 : Option Addr} {sl1 : Array (Option Value)} {oc1 kV1 dc1 pm1 cd1 ct1 : Value}
    {f2 : Addr} {od2 an2 : Option Addr} {sl2 : Array (Option Value)} {oc2 kV2 dc2 pm2 cd2 ct2 : Value}
    {f3 : Addr} {od3 an3 : Option Addr} {sl3 : Array (Option Value)} {oc3 kV3 dc3 pm3 cd3 ct3 : Value}
    {f4 : Addr} {od4 an4 : Option Addr} {sl4 : Array (Option Value)} {oc4 kV4 dc4 pm4 cd4 ct4 : Value}
    {f5 : Addr} {od5 an5 : Option Addr} {sl5 : Array (Option Value)} {oc5 kV5 dc5 pm5 cd5 ct5 : Value}
    {f6 : Addr} {od6 an6 : Option Addr} {sl6 : Array (Option Value)} {oc6 kV6 dc6 pm6 cd6 ct6 : Value}
    {f7 : Addr} {od7 an7 : Option Addr} {sl7 : Array (Option Value)} {oc7 kV7 dc7 pm7 cd7 ct7 : Value}
    {f8 : Addr} {od8 an8 : Option Addr} {sl8 : Array (Option Value)} {oc8 kV8 dc8 pm8 cd8 ct8 : Value}
    {f9 : Addr} {od9 an9 : Option Addr} {sl9 : Array (Option Value)} {oc9 kV9 dc9 pm9 cd9 ct9 : Value}
    {f10 : Addr} {od10 an10 : Option Addr} {sl10 : Array (Option Value)} {oc10 kV10 dc10 pm10 cd10 ct10 : Value}
    {f11 : Addr} {od11 an11 : Option Addr} {sl11 : Array (Option Value)} {oc11 kV11 dc11 pm11 cd11 ct11 : Value}
    {f12 : Addr} {od12 an12 : Option Addr} {sl12 : Array (Option Value)} {oc12 kV12 dc12 pm12 cd12 ct12 : Value}
    {f13 : Addr} {od13 an13 : Option Addr} {sl13 : Array (Option Value)} {oc13 kV13 dc13 pm13 cd13 ct13 : Value}
    {f14 : Addr} {od14 an14 : Option Addr} {sl14 : Array (Option Value)} {oc14 kV14 dc14 pm14 cd14 ct14 : Value}
    {f15 : Addr} {od15 an15 : Option Addr} {sl15 : Array (Option Value)} {oc15 kV15 dc15 pm15 cd15 ct15 : Value}
    {f16 : Addr} {od16 an16 : Option Addr} {sl16 : Array (Option Value)} {oc16 kV16 dc16 pm16 cd16 ct16 : Value}
    {f17 : Addr} {od17 an17 : Option Addr} {sl17 : Array (Option Value)} {oc17 kV17 dc17 pm17 cd17 ct17 : Value}
    {f18 : Addr} {od18 an18 : Option Addr} {sl18 : Array (Option Value)} {oc18 kV18 dc18 pm18 cd18 ct18 : Value}
    {f19 : Addr} {od19 an19 : Option Addr} {sl19 : Array (Option Value)} {oc19 kV19 dc19 pm19 cd19 ct19 : Value}
    {f20 : Addr} {od20 an20 : Option Addr} {sl20 : Array (Option Value)} {oc20 kV20 dc20 pm20 cd20 ct20 : Value}
    {f21 : Addr} {od21 an21 : Option Addr} {sl21 : Array (Option Value)} {oc21 kV21 dc21 pm21 cd21 ct21 : Value}
    {f22 : Addr} {od22 an22 : Option Addr} {sl22 : Array (Option Value)} {oc22 kV22 dc22 pm22 cd22 ct22 : Value}
    {f23 : Addr} {od23 an23 : Option Addr} {sl23 : Array (Option Value)} {oc23 kV23 dc23 pm23 cd23 ct23 : Value}
    {f24 : Addr} {od24 an24 : Option Addr} {sl24 : Array (Option Value)} {oc24 kV24 dc24 pm24 cd24 ct24 : Value}
    {f25 : Addr} {od25 an25 : Option Addr} {sl25 : Array (Option Value)} {oc25 kV25 dc25 pm25 cd25 ct25 : Value}
    {f26 : Addr} {od26 an26 : Option Addr} {sl26 : Array (Option Value)} {oc26 kV26 dc26 pm26 cd26 ct26 : Value}
    {f27 : Addr} {od27 an27 : Option Addr} {sl27 : Array (Option Value)} {oc27 kV27 dc27 pm27 cd27 ct27 : Value}
    {f28 : Addr} {od28 an28 : Option Addr} {sl28 : Array (Option Value)} {oc28 kV28 dc28 pm28 cd28 ct28 : Value}
    {f29 : Addr} {od29 an29 : Option Addr} {sl29 : Array (Option Value)} {oc29 kV29 dc29 pm29 cd29 ct29 : Value}
    {f30 : Addr} {od30 an30 : Option Addr} {sl30 : Array (Option Value)} {oc30 kV30 dc30 pm30 cd30 ct30 : Value}
    {f31 : Addr} {od31 an31 : Option Addr} {sl31 : Array (Option Value)} {oc31 kV31 dc31 pm31 cd31 ct31 : Value}
    {f32 : Addr} {od32 an32 : Option Addr} {sl32 : Array (Option Value)} {oc32 kV32 dc32 pm32 cd32 ct32 : Value}
    {f33 : Addr} {od33 an33 : Option Addr} {sl33 : Array (Option Value)} {oc33 kV33 dc33 pm33 cd33 ct33 : Value}
    {f34 : Addr} {od34 an34 : Option Addr} {sl34 : Array (Option Value)} {oc34 kV34 dc34 pm34 cd34 ct34 : Value}
    {f35 : Addr} {od35 an35 : Option Addr} {sl35 : Array (Option Value)} {oc35 kV35 dc35 pm35 cd35 ct35 : Value}
    {f36 : Addr} {od36 an36 : Option Addr} {sl36 : Array (Option Value)} {oc36 kV36 dc36 pm36 cd36 ct36 : Value}
    {uc_LEAST_TOO_LONG : Value}
    {uc_MAX_ADDED : Value}
    {uc_MAX_JOINS : Value}
    {uc_JOININGS : Addr} {es_JOININGS : Array DictEntry} {en_JOININGS : Nat}
    (a0 : PySem.W.nsIn K mainGlobals "is_integer" = some (some (.ref f0)))
    (l0 : K.lookup f0 = some ⟨oc0, od0, .func (PySem.W.fnOf "is_integer" "is_integer" (defArgs s_is_integer) (defBody s_is_integer) (defScope s_is_integer) .none kV0 dc0 pm0 an0 cd0 ct0), sl0⟩)
    (c0 : PySem.W.codeIn K cd0 "is_integer" = true) (k0 : PySem.W.keepIn K (.ref f0) = true)
    (a1 : PySem.W.nsIn K mainGlobals "is_between" = some (some (.ref f1)))
    (l1 : K.lookup f1 = some ⟨oc1, od1, .func (PySem.W.fnOf "is_between" "is_between" (defArgs s_is_between) (defBody s_is_between) (defScope s_is_between) .none kV1 dc1 pm1 an1 cd1 ct1), sl1⟩)
    (c1 : PySem.W.codeIn K cd1 "is_between" = true) (k1 : PySem.W.keepIn K (.ref f1) = true)
    (a2 : PySem.W.nsIn K mainGlobals "is_index" = some (some (.ref f2)))
    (l2 : K.lookup f2 = some ⟨oc2, od2, .func (PySem.W.fnOf "is_index" "is_index" (defArgs s_is_index) (defBody s_is_index) (defScope s_is_index) .none kV2 dc2 pm2 an2 cd2 ct2), sl2⟩)
    (c2 : PySem.W.codeIn K cd2 "is_index" = true) (k2 : PySem.W.keepIn K (.ref f2) = true)
    (a3 : PySem.W.nsIn K mainGlobals "is_pair" = some (some (.ref f3)))
    (l3 : K.lookup f3 = some ⟨oc3, od3, .func (PySem.W.fnOf "is_pair" "is_pair" (defArgs s_is_pair) (defBody s_is_pair) (defScope s_is_pair) .none kV3 dc3 pm3 an3 cd3 ct3), sl3⟩)
    (c3 : PySem.W.codeIn K cd3 "is_pair" = true) (k3 : PySem.W.keepIn K (.ref f3) = true)
    (a4 : PySem.W.nsIn K mainGlobals "is_tuple_of" = some (some (.ref f4)))
    (l4 : K.lookup f4 = some ⟨oc4, od4, .func (PySem.W.fnOf "is_tuple_of" "is_tuple_of" (defArgs s_is_tuple_of) (defBody s_is_tuple_of) (defScope s_is_tuple_of) .none kV4 dc4 pm4 an4 cd4 ct4), sl4⟩)
    (c4 : PySem.W.codeIn K cd4 "is_tuple_of" = true) (k4 : PySem.W.keepIn K (.ref f4) = true)
    (a5 : PySem.W.nsIn K mainGlobals "check_number" = some (some (.ref f5)))
    (l5 : K.lookup f5 = some ⟨oc5, od5, .func (PySem.W.fnOf "check_number" "check_number" (defArgs s_check_number) (defBody s_check_number) (defScope s_check_number) .none kV5 dc5 pm5 an5 cd5 ct5), sl5⟩)
    (c5 : PySem.W.codeIn K cd5 "check_number" = true) (k5 : PySem.W.keepIn K (.ref f5) = true)
    (a6 : PySem.W.nsIn K mainGlobals "check_word" = some (some (.ref f6)))
    (l6 : K.lookup f6 = some ⟨oc6, od6, .func (PySem.W.fnOf "check_word" "check_word" (defArgs s_check_word) (defBody s_check_word) (defScope s_check_word) .none kV6 dc6 pm6 an6 cd6 ct6), sl6⟩)
    (c6 : PySem.W.codeIn K cd6 "check_word" = true) (k6 : PySem.W.keepIn K (.ref f6) = true)
    (a7 : PySem.W.nsIn K mainGlobals "check_size" = some (some (.ref f7)))
    (l7 : K.lookup f7 = some ⟨oc7, od7, .func (PySem.W.fnOf "check_size" "check_size" (defArgs s_check_size) (defBody s_check_size) (defScope s_check_size) .none kV7 dc7 pm7 an7 cd7 ct7), sl7⟩)
    (c7 : PySem.W.codeIn K cd7 "check_size" = true) (k7 : PySem.W.keepIn K (.ref f7) = true)
    (a8 : PySem.W.nsIn K mainGlobals "steps_below" = some (some (.ref f8)))
    (l8 : K.lookup f8 = some ⟨oc8, od8, .func (PySem.W.fnOf "steps_below" "steps_below" (defArgs s_steps_below) (defBody s_steps_below) (defScope s_steps_below) .none kV8 dc8 pm8 an8 cd8 ct8), sl8⟩)
    (c8 : PySem.W.codeIn K cd8 "steps_below" = true) (k8 : PySem.W.keepIn K (.ref f8) = true)
    (a9 : PySem.W.nsIn K mainGlobals "add_join" = some (some (.ref f9)))
    (l9 : K.lookup f9 = some ⟨oc9, od9, .func (PySem.W.fnOf "add_join" "add_join" (defArgs s_add_join) (defBody s_add_join) (defScope s_add_join) .none kV9 dc9 pm9 an9 cd9 ct9), sl9⟩)
    (c9 : PySem.W.codeIn K cd9 "add_join" = true) (k9 : PySem.W.keepIn K (.ref f9) = true)
    (a10 : PySem.W.nsIn K mainGlobals "join_row" = some (some (.ref f10)))
    (l10 : K.lookup f10 = some ⟨oc10, od10, .func (PySem.W.fnOf "join_row" "join_row" (defArgs s_join_row) (defBody s_join_row) (defScope s_join_row) .none kV10 dc10 pm10 an10 cd10 ct10), sl10⟩)
    (c10 : PySem.W.codeIn K cd10 "join_row" = true) (k10 : PySem.W.keepIn K (.ref f10) = true)
    (a11 : PySem.W.nsIn K mainGlobals "join_halves" = some (some (.ref f11)))
    (l11 : K.lookup f11 = some ⟨oc11, od11, .func (PySem.W.fnOf "join_halves" "join_halves" (defArgs s_join_halves) (defBody s_join_halves) (defScope s_join_halves) .none kV11 dc11 pm11 an11 cd11 ct11), sl11⟩)
    (c11 : PySem.W.codeIn K cd11 "join_halves" = true) (k11 : PySem.W.keepIn K (.ref f11) = true)
    (a12 : PySem.W.nsIn K mainGlobals "join_doubling" = some (some (.ref f12)))
    (l12 : K.lookup f12 = some ⟨oc12, od12, .func (PySem.W.fnOf "join_doubling" "join_doubling" (defArgs s_join_doubling) (defBody s_join_doubling) (defScope s_join_doubling) .none kV12 dc12 pm12 an12 cd12 ct12), sl12⟩)
    (c12 : PySem.W.codeIn K cd12 "join_doubling" = true) (k12 : PySem.W.keepIn K (.ref f12) = true)
    (a13 : PySem.W.nsIn K mainGlobals "join_ladder" = some (some (.ref f13)))
    (l13 : K.lookup f13 = some ⟨oc13, od13, .func (PySem.W.fnOf "join_ladder" "join_ladder" (defArgs s_join_ladder) (defBody s_join_ladder) (defScope s_join_ladder) .none kV13 dc13 pm13 an13 cd13 ct13), sl13⟩)
    (c13 : PySem.W.codeIn K cd13 "join_ladder" = true) (k13 : PySem.W.keepIn K (.ref f13) = true)
    (a14 : PySem.W.nsIn K mainGlobals "plan_of" = some (some (.ref f14)))
    (l14 : K.lookup f14 = some ⟨oc14, od14, .func (PySem.W.fnOf "plan_of" "plan_of" (defArgs s_plan_of) (defBody s_plan_of) (defScope s_plan_of) .none kV14 dc14 pm14 an14 cd14 ct14), sl14⟩)
    (c14 : PySem.W.codeIn K cd14 "plan_of" = true) (k14 : PySem.W.keepIn K (.ref f14) = true)
    (a15 : PySem.W.nsIn K mainGlobals "is_join" = some (some (.ref f15)))
    (l15 : K.lookup f15 = some ⟨oc15, od15, .func (PySem.W.fnOf "is_join" "is_join" (defArgs s_is_join) (defBody s_is_join) (defScope s_is_join) .none kV15 dc15 pm15 an15 cd15 ct15), sl15⟩)
    (c15 : PySem.W.codeIn K cd15 "is_join" = true) (k15 : PySem.W.keepIn K (.ref f15) = true)
    (a16 : PySem.W.nsIn K mainGlobals "is_plan" = some (some (.ref f16)))
    (l16 : K.lookup f16 = some ⟨oc16, od16, .func (PySem.W.fnOf "is_plan" "is_plan" (defArgs s_is_plan) (defBody s_is_plan) (defScope s_is_plan) .none kV16 dc16 pm16 an16 cd16 ct16), sl16⟩)
    (c16 : PySem.W.codeIn K cd16 "is_plan" = true) (k16 : PySem.W.keepIn K (.ref f16) = true)
    (a17 : PySem.W.nsIn K mainGlobals "check_plan" = some (some (.ref f17)))
    (l17 : K.lookup f17 = some ⟨oc17, od17, .func (PySem.W.fnOf "check_plan" "check_plan" (defArgs s_check_plan) (defBody s_check_plan) (defScope s_check_plan) .none kV17 dc17 pm17 an17 cd17 ct17), sl17⟩)
    (c17 : PySem.W.codeIn K cd17 "check_plan" = true) (k17 : PySem.W.keepIn K (.ref f17) = true)
    (a18 : PySem.W.nsIn K mainGlobals "rows_found" = some (some (.ref f18)))
    (l18 : K.lookup f18 = some ⟨oc18, od18, .func (PySem.W.fnOf "rows_found" "rows_found" (defArgs s_rows_found) (defBody s_rows_found) (defScope s_rows_found) .none kV18 dc18 pm18 an18 cd18 ct18), sl18⟩)
    (c18 : PySem.W.codeIn K cd18 "rows_found" = true) (k18 : PySem.W.keepIn K (.ref f18) = true)
    (a19 : PySem.W.nsIn K mainGlobals "row_of" = some (some (.ref f19)))
    (l19 : K.lookup f19 = some ⟨oc19, od19, .func (PySem.W.fnOf "row_of" "row_of" (defArgs s_row_of) (defBody s_row_of) (defScope s_row_of) .none kV19 dc19 pm19 an19 cd19 ct19), sl19⟩)
    (c19 : PySem.W.codeIn K cd19 "row_of" = true) (k19 : PySem.W.keepIn K (.ref f19) = true)
    (a20 : PySem.W.nsIn K mainGlobals "plan_depth" = some (some (.ref f20)))
    (l20 : K.lookup f20 = some ⟨oc20, od20, .func (PySem.W.fnOf "plan_depth" "plan_depth" (defArgs s_plan_depth) (defBody s_plan_depth) (defScope s_plan_depth) .none kV20 dc20 pm20 an20 cd20 ct20), sl20⟩)
    (c20 : PySem.W.codeIn K cd20 "plan_depth" = true) (k20 : PySem.W.keepIn K (.ref f20) = true)
    (a21 : PySem.W.nsIn K mainGlobals "carries_told" = some (some (.ref f21)))
    (l21 : K.lookup f21 = some ⟨oc21, od21, .func (PySem.W.fnOf "carries_told" "carries_told" (defArgs s_carries_told) (defBody s_carries_told) (defScope s_carries_told) .none kV21 dc21 pm21 an21 cd21 ct21), sl21⟩)
    (c21 : PySem.W.codeIn K cd21 "carries_told" = true) (k21 : PySem.W.keepIn K (.ref f21) = true)
    (a22 : PySem.W.nsIn K mainGlobals "carries_by" = some (some (.ref f22)))
    (l22 : K.lookup f22 = some ⟨oc22, od22, .func (PySem.W.fnOf "carries_by" "carries_by" (defArgs s_carries_by) (defBody s_carries_by) (defScope s_carries_by) .none kV22 dc22 pm22 an22 cd22 ct22), sl22⟩)
    (c22 : PySem.W.codeIn K cd22 "carries_by" = true) (k22 : PySem.W.keepIn K (.ref f22) = true)
    (a23 : PySem.W.nsIn K mainGlobals "paper_for" = some (some (.ref f23)))
    (l23 : K.lookup f23 = some ⟨oc23, od23, .func (PySem.W.fnOf "paper_for" "paper_for" (defArgs s_paper_for) (defBody s_paper_for) (defScope s_paper_for) .none kV23 dc23 pm23 an23 cd23 ct23), sl23⟩)
    (c23 : PySem.W.codeIn K cd23 "paper_for" = true) (k23 : PySem.W.keepIn K (.ref f23) = true)
    (a24 : PySem.W.nsIn K mainGlobals "plan_paper" = some (some (.ref f24)))
    (l24 : K.lookup f24 = some ⟨oc24, od24, .func (PySem.W.fnOf "plan_paper" "plan_paper" (defArgs s_plan_paper) (defBody s_plan_paper) (defScope s_plan_paper) .none kV24 dc24 pm24 an24 cd24 ct24), sl24⟩)
    (c24 : PySem.W.codeIn K cd24 "plan_paper" = true) (k24 : PySem.W.keepIn K (.ref f24) = true)
    (a25 : PySem.W.nsIn K mainGlobals "_law_dice" = some (some (.ref f25)))
    (l25 : K.lookup f25 = some ⟨oc25, od25, .func (PySem.W.fnOf "_law_dice" "_law_dice" (defArgs s_law_dice) (defBody s_law_dice) (defScope s_law_dice) .none kV25 dc25 pm25 an25 cd25 ct25), sl25⟩)
    (c25 : PySem.W.codeIn K cd25 "_law_dice" = true) (k25 : PySem.W.keepIn K (.ref f25) = true)
    (a26 : PySem.W.nsIn K mainGlobals "_law_roll" = some (some (.ref f26)))
    (l26 : K.lookup f26 = some ⟨oc26, od26, .func (PySem.W.fnOf "_law_roll" "_law_roll" (defArgs s_law_roll) (defBody s_law_roll) (defScope s_law_roll) .none kV26 dc26 pm26 an26 cd26 ct26), sl26⟩)
    (c26 : PySem.W.codeIn K cd26 "_law_roll" = true) (k26 : PySem.W.keepIn K (.ref f26) = true)
    (a27 : PySem.W.nsIn K mainGlobals "_law_two_to" = some (some (.ref f27)))
    (l27 : K.lookup f27 = some ⟨oc27, od27, .func (PySem.W.fnOf "_law_two_to" "_law_two_to" (defArgs s_law_two_to) (defBody s_law_two_to) (defScope s_law_two_to) .none kV27 dc27 pm27 an27 cd27 ct27), sl27⟩)
    (c27 : PySem.W.codeIn K cd27 "_law_two_to" = true) (k27 : PySem.W.keepIn K (.ref f27) = true)
    (a28 : PySem.W.nsIn K mainGlobals "_law_rounds" = some (some (.ref f28)))
    (l28 : K.lookup f28 = some ⟨oc28, od28, .func (PySem.W.fnOf "_law_rounds" "_law_rounds" (defArgs s_law_rounds) (defBody s_law_rounds) (defScope s_law_rounds) .none kV28 dc28 pm28 an28 cd28 ct28), sl28⟩)
    (c28 : PySem.W.codeIn K cd28 "_law_rounds" = true) (k28 : PySem.W.keepIn K (.ref f28) = true)
    (a29 : PySem.W.nsIn K mainGlobals "_law_plan" = some (some (.ref f29)))
    (l29 : K.lookup f29 = some ⟨oc29, od29, .func (PySem.W.fnOf "_law_plan" "_law_plan" (defArgs s_law_plan) (defBody s_law_plan) (defScope s_law_plan) .none kV29 dc29 pm29 an29 cd29 ct29), sl29⟩)
    (c29 : PySem.W.codeIn K cd29 "_law_plan" = true) (k29 : PySem.W.keepIn K (.ref f29) = true)
    (a30 : PySem.W.nsIn K mainGlobals "_law_rows" = some (some (.ref f30)))
    (l30 : K.lookup f30 = some ⟨oc30, od30, .func (PySem.W.fnOf "_law_rows" "_law_rows" (defArgs s_law_rows) (defBody s_law_rows) (defScope s_law_rows) .none kV30 dc30 pm30 an30 cd30 ct30), sl30⟩)
    (c30 : PySem.W.codeIn K cd30 "_law_rows" = true) (k30 : PySem.W.keepIn K (.ref f30) = true)
    (a31 : PySem.W.nsIn K mainGlobals "_law_true" = some (some (.ref f31)))
    (l31 : K.lookup f31 = some ⟨oc31, od31, .func (PySem.W.fnOf "_law_true" "_law_true" (defArgs s_law_true) (defBody s_law_true) (defScope s_law_true) .none kV31 dc31 pm31 an31 cd31 ct31), sl31⟩)
    (c31 : PySem.W.codeIn K cd31 "_law_true" = true) (k31 : PySem.W.keepIn K (.ref f31) = true)
    (a32 : PySem.W.nsIn K mainGlobals "_law_is_adder" = some (some (.ref f32)))
    (l32 : K.lookup f32 = some ⟨oc32, od32, .func (PySem.W.fnOf "_law_is_adder" "_law_is_adder" (defArgs s_law_is_adder) (defBody s_law_is_adder) (defScope s_law_is_adder) .none kV32 dc32 pm32 an32 cd32 ct32), sl32⟩)
    (c32 : PySem.W.codeIn K cd32 "_law_is_adder" = true) (k32 : PySem.W.keepIn K (.ref f32) = true)
    (a33 : PySem.W.nsIn K mainGlobals "_law_depth" = some (some (.ref f33)))
    (l33 : K.lookup f33 = some ⟨oc33, od33, .func (PySem.W.fnOf "_law_depth" "_law_depth" (defArgs s_law_depth) (defBody s_law_depth) (defScope s_law_depth) .none kV33 dc33 pm33 an33 cd33 ct33), sl33⟩)
    (c33 : PySem.W.codeIn K cd33 "_law_depth" = true) (k33 : PySem.W.keepIn K (.ref f33) = true)
    (a34 : PySem.W.nsIn K mainGlobals "_law_least_depth" = some (some (.ref f34)))
    (l34 : K.lookup f34 = some ⟨oc34, od34, .func (PySem.W.fnOf "_law_least_depth" "_law_least_depth" (defArgs s_law_least_depth) (defBody s_law_least_depth) (defScope s_law_least_depth) .none kV34 dc34 pm34 an34 cd34 ct34), sl34⟩)
    (c34 : PySem.W.codeIn K cd34 "_law_least_depth" = true) (k34 : PySem.W.keepIn K (.ref f34) = true)
    (a35 : PySem.W.nsIn K mainGlobals "_law_right" = some (some (.ref f35)))
    (l35 : K.lookup f35 = some ⟨oc35, od35, .func (PySem.W.fnOf "_law_right" "_law_right" (defArgs s_law_right) (defBody s_law_right) (defScope s_law_right) .none kV35 dc35 pm35 an35 cd35 ct35), sl35⟩)
    (c35 : PySem.W.codeIn K cd35 "_law_right" = true) (k35 : PySem.W.keepIn K (.ref f35) = true)
    (a36 : PySem.W.nsIn K mainGlobals "law" = some (some (.ref f36)))
    (l36 : K.lookup f36 = some ⟨oc36, od36, .func (PySem.W.fnOf "law" "law" (defArgs s_law) (defBody s_law) (defScope s_law) .none kV36 dc36 pm36 an36 cd36 ct36), sl36⟩)
    (c36 : PySem.W.codeIn K cd36 "law" = true) (k36 : PySem.W.keepIn K (.ref f36) = true)
    (z_abs : PySem.W.nsIn K mainGlobals "abs" = some none)
    (z_all : PySem.W.nsIn K mainGlobals "all" = some none)
    (z_bool : PySem.W.nsIn K mainGlobals "bool" = some none)
    (z_enumerate : PySem.W.nsIn K mainGlobals "enumerate" = some none)
    (z_int : PySem.W.nsIn K mainGlobals "int" = some none)
    (z_isinstance : PySem.W.nsIn K mainGlobals "isinstance" = some none)
    (z_len : PySem.W.nsIn K mainGlobals "len" = some none)
    (z_list : PySem.W.nsIn K mainGlobals "list" = some none)
    (z_max : PySem.W.nsIn K mainGlobals "max" = some none)
    (z_min : PySem.W.nsIn K mainGlobals "min" = some none)
    (z_range : PySem.W.nsIn K mainGlobals "range" = some none)
    (z_str : PySem.W.nsIn K mainGlobals "str" = some none)
    (z_sum : PySem.W.nsIn K mainGlobals "sum" = some none)
    (z_tuple : PySem.W.nsIn K mainGlobals "tuple" = some none)
    (g_LEAST_TOO_LONG : PySem.W.nsIn K mainGlobals "LEAST_TOO_LONG" = some (some uc_LEAST_TOO_LONG)) (gr_LEAST_TOO_LONG : RelV (.int 1000000000000000000000000000000000000000000000000000000000000) uc_LEAST_TOO_LONG)
    (g_MAX_ADDED : PySem.W.nsIn K mainGlobals "MAX_ADDED" = some (some uc_MAX_ADDED)) (gr_MAX_ADDED : RelV (.int 32) uc_MAX_ADDED)
    (g_MAX_JOINS : PySem.W.nsIn K mainGlobals "MAX_JOINS" = some (some uc_MAX_JOINS)) (gr_MAX_JOINS : RelV (.int 400) uc_MAX_JOINS)
    (g_JOININGS : PySem.W.nsIn K mainGlobals "JOININGS" = some (some (.ref uc_JOININGS))) (h_JOININGS : K.lookup uc_JOININGS = some ⟨.type "dict", none, .dict es_JOININGS en_JOININGS, #[]⟩) (li_JOININGS : PySem.W.KeysLit w.params es_JOININGS.toList) (lo_JOININGS : (uc_JOININGS == sysModules) = false)
    (t_JOININGS_row : PySem.W.nsIn K uc_JOININGS "row" = some (some (.ref f10)))
    (t_JOININGS_halves : PySem.W.nsIn K uc_JOININGS "halves" = some (some (.ref f11)))
    (t_JOININGS_doubling : PySem.W.nsIn K uc_JOININGS "doubling" = some (some (.ref f12)))
    (t_JOININGS_ladder : PySem.W.nsIn K uc_JOININGS "ladder" = some (some (.ref f13)))
    : ∃ fd : FuncData, (∀ (s : Shared) (v : Value), BindsTo s fd ⟨[v], []⟩ [("script", v)]) ∧ ∀ base : Heap, K.In base → base.Ns mainGlobals mg → FnOk l.prog w K mg base CX0 9 fa fd ["script"] (sp_law K) := by
  have e := hfa.symm.trans (PySem.W.mg_of X G a36)
  cases e
  have F0 := fun_mk (st := s_is_integer) l0 c0 k0
  have b0 := F0.binds (ps := P_is_integer) fun _ _ _ _ _ _ us hl => match us, hl with | [_], _ => rfl
  have F1 := fun_mk (st := s_is_between) l1 c1 k1
  have b1 := F1.binds (ps := P_is_between) fun _ _ _ _ _ _ us hl => match us, hl with | [_, _, _], _ => rfl
  have F2 := fun_mk (st := s_is_index) l2 c2 k2
  have b2 := F2.binds (ps := P_is_index) fun _ _ _ _ _ _ us hl => match us, hl with | [_, _], _ => rfl
  have F3 := fun_mk (st := s_is_pair) l3 c3 k3
  have b3 := F3.binds (ps := P_is_pair) fun _ _ _ _ _ _ us hl => match us, hl with | [_], _ => rfl
  have F4 := fun_mk (st := s_is_tuple_of) l4 c4 k4
  have b4 := F4.binds (ps := P_is_tuple_of) fun _ _ _ _ _ _ us hl => match us, hl with | [_, _, _], _ => rfl
  have F5 := fun_mk (st := s_check_number) l5 c5 k5
  have b5 := F5.binds (ps := P_check_number) fun _ _ _ _ _ _ us hl => match us, hl with | [_, _, _], _ => rfl
  have F6 := fun_mk (st := s_check_word) l6 c6 k6
  have b6 := F6.binds (ps := P_check_word) fun _ _ _ _ _ _ us hl => match us, hl with | [_, _], _ => rfl
  have F7 := fun_mk (st := s_check_size) l7 c7 k7
  have b7 := F7.binds (ps := P_check_size) fun _ _ _ _ _ _ us hl => match us, hl with | [_], _ => rfl
  have F8 := fun_mk (st := s_steps_below) l8 c8 k8
  have b8 := F8.binds (ps := P_steps_below) fun _ _ _ _ _ _ us hl => match us, hl with | [_], _ => rfl
  have F9 := fun_mk (st := s_add_join) l9 c9 k9
  have b9 := F9.binds (ps := P_add_join) fun _ _ _ _ _ _ us hl => match us, hl with | [_, _, _, _], _ => rfl
  have F10 := fun_mk (st := s_join_row) l10 c10 k10
  have b10 := F10.binds (ps := P_join_row) fun _ _ _ _ _ _ us hl => match us, hl with | [_, _], _ => rfl
  have F11 := fun_mk (st := s_join_halves) l11 c11 k11
  have b11 := F11.binds (ps := P_join_halves) fun _ _ _ _ _ _ us hl => match us, hl with | [_, _], _ => rfl
  have F12 := fun_mk (st := s_join_doubling) l12 c12 k12
  have b12 := F12.binds (ps := P_join_doubling) fun _ _ _ _ _ _ us hl => match us, hl with | [_, _], _ => rfl
  have F13 := fun_mk (st := s_join_ladder) l13 c13 k13
  have b13 := F13.binds (ps := P_join_ladder) fun _ _ _ _ _ _ us hl => match us, hl with | [_, _], _ => rfl
  have F14 := fun_mk (st := s_plan_of) l14 c14 k14
  have b14 := F14.binds (ps := P_plan_of) fun _ _ _ _ _ _ us hl => match us, hl with | [_, _], _ => rfl
  have F15 := fun_mk (st := s_is_join) l15 c15 k15
  have b15 := F15.binds (ps := P_is_join) fun _ _ _ _ _ _ us hl => match us, hl with | [_, _], _ => rfl
  have F16 := fun_mk (st := s_is_plan) l16 c16 k16
  have b16 := F16.binds (ps := P_is_plan) fun _ _ _ _ _ _ us hl => match us, hl with | [_, _], _ => rfl
  have F17 := fun_mk (st := s_check_plan) l17 c17 k17
  have b17 := F17.binds (ps := P_check_plan) fun _ _ _ _ _ _ us hl => match us, hl with | [_, _], _ => rfl
  have F18 := fun_mk (st := s_rows_found) l18 c18 k18
  have b18 := F18.binds (ps := P_rows_found) fun _ _ _ _ _ _ us hl => match us, hl with | [_, _], _ => rfl
  have F19 := fun_mk (st := s_row_of) l19 c19 k19
  have b19 := F19.binds (ps := P_row_of) fun _ _ _ _ _ _ us hl => match us, hl with | [_, _, _], _ => rfl
  have F20 := fun_mk (st := s_plan_depth) l20 c20 k20
  have b20 := F20.binds (ps := P_plan_depth) fun _ _ _ _ _ _ us hl => match us, hl with | [_, _], _ => rfl
  have F21 := fun_mk (st := s_carries_told) l21 c21 k21
  have b21 := F21.binds (ps := P_carries_told) fun _ _ _ _ _ _ us hl => match us, hl with | [_, _, _, _, _], _ => rfl
  have F22 := fun_mk (st := s_carries_by) l22 c22 k22
  have b22 := F22.binds (ps := P_carries_by) fun _ _ _ _ _ _ us hl => match us, hl with | [_, _, _, _, _], _ => rfl
  have F23 := fun_mk (st := s_paper_for) l23 c23 k23
  have b23 := F23.binds (ps := P_paper_for) fun _ _ _ _ _ _ us hl => match us, hl with | [_, _], _ => rfl
  have F24 := fun_mk (st := s_plan_paper) l24 c24 k24
  have b24 := F24.binds (ps := P_plan_paper) fun _ _ _ _ _ _ us hl => match us, hl with | [_, _], _ => rfl
  have F25 := fun_mk (st := s_law_dice) l25 c25 k25
  have b25 := F25.binds (ps := P_law_dice) fun _ _ _ _ _ _ us hl => match us, hl with | [_, _], _ => rfl
  have F26 := fun_mk (st := s_law_roll) l26 c26 k26
  have b26 := F26.binds (ps := P_law_roll) fun _ _ _ _ _ _ us hl => match us, hl with | [_, _], _ => rfl
  have F27 := fun_mk (st := s_law_two_to) l27 c27 k27
  have b27 := F27.binds (ps := P_law_two_to) fun _ _ _ _ _ _ us hl => match us, hl with | [_], _ => rfl
  have F28 := fun_mk (st := s_law_rounds) l28 c28 k28
  have b28 := F28.binds (ps := P_law_rounds) fun _ _ _ _ _ _ us hl => match us, hl with | [_, _], _ => rfl
  have F29 := fun_mk (st := s_law_plan) l29 c29 k29
  have b29 := F29.binds (ps := P_law_plan) fun _ _ _ _ _ _ us hl => match us, hl with | [_, _], _ => rfl
  have F30 := fun_mk (st := s_law_rows) l30 c30 k30
  have b30 := F30.binds (ps := P_law_rows) fun _ _ _ _ _ _ us hl => match us, hl with | [_, _], _ => rfl
  have F31 := fun_mk (st := s_law_true) l31 c31 k31
  have b31 := F31.binds (ps := P_law_true) fun _ _ _ _ _ _ us hl => match us, hl with | [_, _, _, _], _ => rfl
  have F32 := fun_mk (st := s_law_is_adder) l32 c32 k32
  have b32 := F32.binds (ps := P_law_is_adder) fun _ _ _ _ _ _ us hl => match us, hl with | [_, _], _ => rfl
  have F33 := fun_mk (st := s_law_depth) l33 c33 k33
  have b33 := F33.binds (ps := P_law_depth) fun _ _ _ _ _ _ us hl => match us, hl with | [_, _], _ => rfl
  have F34 := fun_mk (st := s_law_least_depth) l34 c34 k34
  have b34 := F34.binds (ps := P_law_least_depth) fun _ _ _ _ _ _ us hl => match us, hl with | [_], _ => rfl
  have F35 := fun_mk (st := s_law_right) l35 c35 k35
  have b35 := F35.binds (ps := P_law_right) fun _ _ _ _ _ _ us hl => match us, hl with | [_, _, _], _ => rfl
  have F36 := fun_mk (st := s_law) l36 c36 k36
  have b36 := F36.binds (ps := P_law) fun _ _ _ _ _ _ us hl => match us, hl with | [_], _ => rfl
  let T : TxtW w K mg := { f_is_integer := f0, d_is_integer := _, F_is_integer := F0, b_is_integer := b0, m_is_integer := PySem.W.mg_of X G a0, f_is_between := f1, d_is_between := _, F_is_between := F1, b_is_between := b1, m_is_between := PySem.W.mg_of X G a1, f_is_index := f2, d_is_index := _, F_is_index := F2, b_is_index := b2, m_is_index := PySem.W.mg_of X G a2, f_is_pair := f3, d_is_pair := _, F_is_pair := F3, b_is_pair := b3, m_is_pair := PySem.W.mg_of X G a3, f_is_tuple_of := f4, d_is_tuple_of := _, F_is_tuple_of := F4, b_is_tuple_of := b4, m_is_tuple_of := PySem.W.mg_of X G a4, f_check_number := f5, d_check_number := _, F_check_number := F5, b_check_number := b5, m_check_number := PySem.W.mg_of X G a5, f_check_word := f6, d_check_word := _, F_check_word := F6, b_check_word := b6, m_check_word := PySem.W.mg_of X G a6, f_check_size := f7, d_check_size := _, F_check_size := F7, b_check_size := b7, m_check_size := PySem.W.mg_of X G a7, f_steps_below := f8, d_steps_below := _, F_steps_below := F8, b_steps_below := b8, m_steps_below := PySem.W.mg_of X G a8, f_add_join := f9, d_add_join := _, F_add_join := F9, b_add_join := b9, m_add_join := PySem.W.mg_of X G a9, f_join_row := f10, d_join_row := _, F_join_row := F10, b_join_row := b10, m_join_row := PySem.W.mg_of X G a10, f_join_halves := f11, d_join_halves := _, F_join_halves := F11, b_join_halves := b11, m_join_halves := PySem.W.mg_of X G a11, f_join_doubling := f12, d_join_doubling := _, F_join_doubling := F12, b_join_doubling := b12, m_join_doubling := PySem.W.mg_of X G a12, f_join_ladder := f13, d_join_ladder := _, F_join_ladder := F13, b_join_ladder := b13, m_join_ladder := PySem.W.mg_of X G a13, f_plan_of := f14, d_plan_of := _, F_plan_of := F14, b_plan_of := b14, m_plan_of := PySem.W.mg_of X G a14, f_is_join := f15, d_is_join := _, F_is_join := F15, b_is_join := b15, m_is_join := PySem.W.mg_of X G a15, f_is_plan := f16, d_is_plan := _, F_is_plan := F16, b_is_plan := b16, m_is_plan := PySem.W.mg_of X G a16, f_check_plan := f17, d_check_plan := _, F_check_plan := F17, b_check_plan := b17, m_check_plan := PySem.W.mg_of X G a17, f_rows_found := f18, d_rows_found := _, F_rows_found := F18, b_rows_found := b18, m_rows_found := PySem.W.mg_of X G a18, f_row_of := f19, d_row_of := _, F_row_of := F19, b_row_of := b19, m_row_of := PySem.W.mg_of X G a19, f_plan_depth := f20, d_plan_depth := _, F_plan_depth := F20, b_plan_depth := b20, m_plan_depth := PySem.W.mg_of X G a20, f_carries_told := f21, d_carries_told := _, F_carries_told := F21, b_carries_told := b21, m_carries_told := PySem.W.mg_of X G a21, f_carries_by := f22, d_carries_by := _, F_carries_by := F22, b_carries_by := b22, m_carries_by := PySem.W.mg_of X G a22, f_paper_for := f23, d_paper_for := _, F_paper_for := F23, b_paper_for := b23, m_paper_for := PySem.W.mg_of X G a23, f_plan_paper := f24, d_plan_paper := _, F_plan_paper := F24, b_plan_paper := b24, m_plan_paper := PySem.W.mg_of X G a24, f_law_dice := f25, d_law_dice := _, F_law_dice := F25, b_law_dice := b25, m_law_dice := PySem.W.mg_of X G a25, f_law_roll := f26, d_law_roll := _, F_law_roll := F26, b_law_roll := b26, m_law_roll := PySem.W.mg_of X G a26, f_law_two_to := f27, d_law_two_to := _, F_law_two_to := F27, b_law_two_to := b27, m_law_two_to := PySem.W.mg_of X G a27, f_law_rounds := f28, d_law_rounds := _, F_law_rounds := F28, b_law_rounds := b28, m_law_rounds := PySem.W.mg_of X G a28, f_law_plan := f29, d_law_plan := _, F_law_plan := F29, b_law_plan := b29, m_law_plan := PySem.W.mg_of X G a29, f_law_rows := f30, d_law_rows := _, F_law_rows := F30, b_law_rows := b30, m_law_rows := PySem.W.mg_of X G a30, f_law_true := f31, d_law_true := _, F_law_true := F31, b_law_true := b31, m_law_true := PySem.W.mg_of X G a31, f_law_is_adder := f32, d_law_is_adder := _, F_law_is_adder := F32, b_law_is_adder := b32, m_law_is_adder := PySem.W.mg_of X G a32, f_law_depth := f33, d_law_depth := _, F_law_depth := F33, b_law_depth := b33, m_law_depth := PySem.W.mg_of X G a33, f_law_least_depth := f34, d_law_least_depth := _, F_law_least_depth := F34, b_law_least_depth := b34, m_law_least_depth := PySem.W.mg_of X G a34, f_law_right := f35, d_law_right := _, F_law_right := F35, b_law_right := b35, m_law_right := PySem.W.mg_of X G a35, f_law := fa, d_law := _, F_law := F36, b_law := b36, m_law := PySem.W.mg_of X G a36, n_abs := PySem.W.mg_none_of X G z_abs, n_all := PySem.W.mg_none_of X G z_all, n_bool := PySem.W.mg_none_of X G z_bool, n_enumerate := PySem.W.mg_none_of X G z_enumerate, n_int := PySem.W.mg_none_of X G z_int, n_isinstance := PySem.W.mg_none_of X G z_isinstance, n_len := PySem.W.mg_none_of X G z_len, n_list := PySem.W.mg_none_of X G z_list, n_max := PySem.W.mg_none_of X G z_max, n_min := PySem.W.mg_none_of X G z_min, n_range := PySem.W.mg_none_of X G z_range, n_str := PySem.W.mg_none_of X G z_str, n_sum := PySem.W.mg_none_of X G z_sum, n_tuple := PySem.W.mg_none_of X G z_tuple, u_LEAST_TOO_LONG := uc_LEAST_TOO_LONG, c_LEAST_TOO_LONG := PySem.W.mg_of X G g_LEAST_TOO_LONG, r_LEAST_TOO_LONG := gr_LEAST_TOO_LONG, u_MAX_ADDED := uc_MAX_ADDED, c_MAX_ADDED := PySem.W.mg_of X G g_MAX_ADDED, r_MAX_ADDED := gr_MAX_ADDED, u_MAX_JOINS := uc_MAX_JOINS, c_MAX_JOINS := PySem.W.mg_of X G g_MAX_JOINS, r_MAX_JOINS := gr_MAX_JOINS, u_JOININGS := uc_JOININGS, c_JOININGS := PySem.W.mg_of X G g_JOININGS, es_JOININGS := es_JOININGS, en_JOININGS := en_JOININGS, at_JOININGS := h_JOININGS, lit_JOININGS := li_JOININGS, low_JOININGS := lo_JOININGS, it_JOININGS_row := t_JOININGS_row, it_JOININGS_halves := t_JOININGS_halves, it_JOININGS_doubling := t_JOININGS_doubling, it_JOININGS_ladder := t_JOININGS_ladder }
  exact ⟨_, fun s v => .of_eq rfl, fun base _ _ => ok_law T⟩
end TB
open PySem PySem.W PyProof.Rows
set_option maxRecDepth 100000 in
set_option maxHeartbeats 0 in
theorem PySem.Challenge.cw_truebeat_k16_whole_plans_by_name_holds : PySem.Challenge.rw_truebeat_k16_whole_plans_by_name.Holds := by
  w_on; o_law; k_head; (case hw => w_witness2)
  k_fill
  refine L2.walk_of (l := PySem.Challenge.rw_truebeat_k16_whole_plans_by_name) (n := 63) (k := 9) (x := "script") (CX := fun _ => L2.CX0) (sp := fun w => TB.sp_law _) rfl (by decide) rfl ⟨rfl, by decide, by decide⟩ (fun w h Y => PySem.W.kIn_of Y) ?F (fun _ _ a ns hl _ hS => ⟨a, ns, rfl, hS, hl, fun _ => rfl⟩) (fun _ _ _ _ _ h => h)
  case F =>
    intro w mg fa h KX G hmg
    refine' TB.all_mk KX G hmg ?a0 ?l0 ?c0 ?k0 ?a1 ?l1 ?c1 ?k1 ?a2 ?l2 ?c2 ?k2 ?a3 ?l3 ?c3 ?k3 ?a4 ?l4 ?c4 ?k4 ?a5 ?l5 ?c5 ?k5 ?a6 ?l6 ?c6 ?k6 ?a7 ?l7 ?c7 ?k7 ?a8 ?l8 ?c8 ?k8 ?a9 ?l9 ?c9 ?k9 ?a10 ?l10 ?c10 ?k10 ?a11 ?l11 ?c11 ?k11 ?a12 ?l12 ?c12 ?k12 ?a13 ?l13 ?c13 ?k13 ?a14 ?l14 ?c14 ?k14 ?a15 ?l15 ?c15 ?k15 ?a16 ?l16 ?c16 ?k16 ?a17 ?l17 ?c17 ?k17 ?a18 ?l18 ?c18 ?k18 ?a19 ?l19 ?c19 ?k19 ?a20 ?l20 ?c20 ?k20 ?a21 ?l21 ?c21 ?k21 ?a22 ?l22 ?c22 ?k22 ?a23 ?l23 ?c23 ?k23 ?a24 ?l24 ?c24 ?k24 ?a25 ?l25 ?c25 ?k25 ?a26 ?l26 ?c26 ?k26 ?a27 ?l27 ?c27 ?k27 ?a28 ?l28 ?c28 ?k28 ?a29 ?l29 ?c29 ?k29 ?a30 ?l30 ?c30 ?k30 ?a31 ?l31 ?c31 ?k31 ?a32 ?l32 ?c32 ?k32 ?a33 ?l33 ?c33 ?k33 ?a34 ?l34 ?c34 ?k34 ?a35 ?l35 ?c35 ?k35 ?a36 ?l36 ?c36 ?k36 ?z_abs ?z_all ?z_bool ?z_enumerate ?z_int ?z_isinstance ?z_len ?z_list ?z_max ?z_min ?z_range ?z_str ?z_sum ?z_tuple ?g_LEAST_TOO_LONG ?gr_LEAST_TOO_LONG ?g_MAX_ADDED ?gr_MAX_ADDED ?g_MAX_JOINS ?gr_MAX_JOINS ?g_JOININGS ?h_JOININGS ?li_JOININGS ?lo_JOININGS ?t_JOININGS_row ?t_JOININGS_halves ?t_JOININGS_doubling ?t_JOININGS_ladder
    (case a0 => k_is)
    (case l0 => k_is)
    (case c0 => k_is)
    (case k0 => k_is)
    (case a1 => k_is)
    (case l1 => k_is)
    (case c1 => k_is)
    (case k1 => k_is)
    (case a2 => k_is)
    (case l2 => k_is)
    (case c2 => k_is)
    (case k2 => k_is)
    (case a3 => k_is)
    (case l3 => k_is)
    (case c3 => k_is)
    (case k3 => k_is)
    (case a4 => k_is)
    (case l4 => k_is)
    (case c4 => k_is)
    (case k4 => k_is)
    (case a5 => k_is)
    (case l5 => k_is)
    (case c5 => k_is)
    (case k5 => k_is)
    (case a6 => k_is)
    (case l6 => k_is)
    (case c6 => k_is)
    (case k6 => k_is)
    (case a7 => k_is)
    (case l7 => k_is)
    (case c7 => k_is)
    (case k7 => k_is)
    (case a8 => k_is)
    (case l8 => k_is)
    (case c8 => k_is)
    (case k8 => k_is)
    (case a9 => k_is)
    (case l9 => k_is)
    (case c9 => k_is)
    (case k9 => k_is)
    (case a10 => k_is)
    (case l10 => k_is)
    (case c10 => k_is)
    (case k10 => k_is)
    (case a11 => k_is)
    (case l11 => k_is)
    (case c11 => k_is)
    (case k11 => k_is)
    (case a12 => k_is)
    (case l12 => k_is)
    (case c12 => k_is)
    (case k12 => k_is)
    (case a13 => k_is)
    (case l13 => k_is)
    (case c13 => k_is)
    (case k13 => k_is)
    (case a14 => k_is)
    (case l14 => k_is)
    (case c14 => k_is)
    (case k14 => k_is)
    (case a15 => k_is)
    (case l15 => k_is)
    (case c15 => k_is)
    (case k15 => k_is)
    (case a16 => k_is)
    (case l16 => k_is)
    (case c16 => k_is)
    (case k16 => k_is)
    (case a17 => k_is)
    (case l17 => k_is)
    (case c17 => k_is)
    (case k17 => k_is)
    (case a18 => k_is)
    (case l18 => k_is)
    (case c18 => k_is)
    (case k18 => k_is)
    (case a19 => k_is)
    (case l19 => k_is)
    (case c19 => k_is)
    (case k19 => k_is)
    (case a20 => k_is)
    (case l20 => k_is)
    (case c20 => k_is)
    (case k20 => k_is)
    (case a21 => k_is)
    (case l21 => k_is)
    (case c21 => k_is)
    (case k21 => k_is)
    (case a22 => k_is)
    (case l22 => k_is)
    (case c22 => k_is)
    (case k22 => k_is)
    (case a23 => k_is)
    (case l23 => k_is)
    (case c23 => k_is)
    (case k23 => k_is)
    (case a24 => k_is)
    (case l24 => k_is)
    (case c24 => k_is)
    (case k24 => k_is)
    (case a25 => k_is)
    (case l25 => k_is)
    (case c25 => k_is)
    (case k25 => k_is)
    (case a26 => k_is)
    (case l26 => k_is)
    (case c26 => k_is)
    (case k26 => k_is)
    (case a27 => k_is)
    (case l27 => k_is)
    (case c27 => k_is)
    (case k27 => k_is)
    (case a28 => k_is)
    (case l28 => k_is)
    (case c28 => k_is)
    (case k28 => k_is)
    (case a29 => k_is)
    (case l29 => k_is)
    (case c29 => k_is)
    (case k29 => k_is)
    (case a30 => k_is)
    (case l30 => k_is)
    (case c30 => k_is)
    (case k30 => k_is)
    (case a31 => k_is)
    (case l31 => k_is)
    (case c31 => k_is)
    (case k31 => k_is)
    (case a32 => k_is)
    (case l32 => k_is)
    (case c32 => k_is)
    (case k32 => k_is)
    (case a33 => k_is)
    (case l33 => k_is)
    (case c33 => k_is)
    (case k33 => k_is)
    (case a34 => k_is)
    (case l34 => k_is)
    (case c34 => k_is)
    (case k34 => k_is)
    (case a35 => k_is)
    (case l35 => k_is)
    (case c35 => k_is)
    (case k35 => k_is)
    (case a36 => k_is)
    (case l36 => k_is)
    (case c36 => k_is)
    (case k36 => k_is)
    (case z_abs => k_is)
    (case z_all => k_is)
    (case z_bool => k_is)
    (case z_enumerate => k_is)
    (case z_int => k_is)
    (case z_isinstance => k_is)
    (case z_len => k_is)
    (case z_list => k_is)
    (case z_max => k_is)
    (case z_min => k_is)
    (case z_range => k_is)
    (case z_str => k_is)
    (case z_sum => k_is)
    (case z_tuple => k_is)
    (case g_LEAST_TOO_LONG => k_is)
    (case gr_LEAST_TOO_LONG => exact ⟨_, rfl⟩)
    (case g_MAX_ADDED => k_is)
    (case gr_MAX_ADDED => exact ⟨_, rfl⟩)
    (case g_MAX_JOINS => k_is)
    (case gr_MAX_JOINS => exact ⟨_, rfl⟩)
    (case g_JOININGS => k_is)
    (case h_JOININGS => k_is)
    (case li_JOININGS => exact ⟨⟨_, _, rfl, rfl⟩, ⟨⟨_, _, rfl, rfl⟩, ⟨⟨_, _, rfl, rfl⟩, ⟨⟨_, _, rfl, rfl⟩, trivial⟩⟩⟩⟩)
    (case lo_JOININGS => rfl)
    (case t_JOININGS_row => k_is)
    (case t_JOININGS_halves => k_is)
    (case t_JOININGS_doubling => k_is)
    (case t_JOININGS_ladder => k_is)
#print axioms PySem.Challenge.cw_truebeat_k16_whole_plans_by_name_holds
