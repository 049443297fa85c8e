import PyProof.Rows.All
import Wide.All
import OpenK.AllK
import Wide.FinOn
import HandS.Base
import HandS.Call
import HandS.List
import HandS.Comp
import HandS.Ends
import HandS.Iter
import HandS.Text
import HandS.Words
import HandS.StrMore
import HandS.ForMost
import HandS.Exc
import HandS.ExcOwn
import HandS.ExcInit
import HandS.ExcField
import HandS.IsInst
import HandS.TryOnly
import HandS.WordsExc
import KE.KExcIs
import HandS.Style
import HandS.Flow
import HandS.WideBits
import HandS.Wide
import HandS.Codes
import HandS.ExcIs
import PySem.Challenge.RW_clockloom_k02_letters_and_ones
set_option Elab.async false
set_option linter.all false
set_option maxRecDepth 100000
set_option maxHeartbeats 2000000
namespace WK
/-- the sign at place i of the row that head and again tell -/
def row (h a : List Nat) (i : Nat) : Nat := if i < h.length then h.getD i 0 else a.getD ((i - h.length) % a.length) 0
def Per (R : Nat → Nat) (c p : Nat) : Prop := 0 < p ∧ ∀ i, c ≤ i → R (i + p) = R i
structure Tells (R : Nat → Nat) (x y : List Nat) : Prop where
  pos : 0 < y.length
  eq : ∀ i, row x y i = R i
structure Lst (R : Nat → Nat) (x y : List Nat) : Prop where
  tells : Tells R x y
  head : ∀ c p, Per R c p → x.length ≤ c
  again : ∀ c p, Per R c p → y.length ≤ p
theorem row_head {h a : List Nat} {i : Nat} (hi : i < h.length) : row h a i = h.getD i 0 := if_pos hi
theorem row_again {h a : List Nat} {i : Nat} (hi : h.length ≤ i) : row h a i = a.getD ((i - h.length) % a.length) 0 := if_neg (by omega)
theorem row_per {h a : List Nat} (ha : 0 < a.length) : Per (row h a) h.length a.length := by
  refine ⟨ha, fun i hi => ?_⟩
  rw [row_again (by omega), row_again hi, show i + a.length - h.length = (i - h.length) + a.length by omega, Nat.add_mod_right]
theorem Per.mul {R : Nat → Nat} {c p : Nat} (P : Per R c p) : ∀ (k i : Nat), c ≤ i → R (i + k * p) = R i
  | 0, i, _ => by rw [Nat.zero_mul, Nat.add_zero]
  | k + 1, i, hi => by
    rw [Nat.succ_mul, ← Nat.add_assoc, P.2 (i + k * p) (by omega), Per.mul P k i hi]
theorem Per.mod {R : Nat → Nat} {c p : Nat} (P : Per R c p) {i j : Nat} (hi : c ≤ i) (hj : c ≤ j) (e : (i - c) % p = (j - c) % p) : R i = R j := by
  have h1 := Nat.div_add_mod (i - c) p
  have h2 := Nat.div_add_mod (j - c) p
  have k1 : R i = R (c + (i - c) % p) := by
    have := P.mul ((i - c) / p) (c + (i - c) % p) (by omega)
    rw [← this, Nat.mul_comm]
    congr 1
    omega
  have k2 : R j = R (c + (j - c) % p) := by
    have := P.mul ((j - c) / p) (c + (j - c) % p) (by omega)
    rw [← this, Nat.mul_comm]
    congr 1
    omega
  rw [k1, k2, e]
/-- a period behind one place is one behind each place from which on there is one -/
theorem Per.down {R : Nat → Nat} {c p c' p' : Nat} (P : Per R c p) (P' : Per R c' p') : Per R c p' := by
  refine ⟨P'.1, fun i hi => ?_⟩
  have h1 := P.1
  have k : c' ≤ i + c' * p := by
    have : c' * 1 ≤ c' * p := Nat.mul_le_mul_left _ h1
    omega
  have e1 := P.mul c' (i + p') (by omega)
  have e2 := P.mul c' i hi
  have e3 := P'.2 (i + c' * p) k
  rw [← e1, ← e2, ← e3]
  congr 1
  omega
theorem Tells.per {R : Nat → Nat} {x y : List Nat} (T : Tells R x y) : Per R x.length y.length := by
  have h := row_per (h := x) T.pos
  exact ⟨h.1, fun i hi => by rw [← T.eq, ← T.eq]; exact h.2 i hi⟩
theorem getD_ext {x y : List Nat} (hl : x.length = y.length) (h : ∀ i, i < x.length → x.getD i 0 = y.getD i 0) : x = y := by
  apply List.ext_getElem hl
  intro i h1 h2
  have := h i h1
  rw [List.getD_eq_getElem?_getD, List.getD_eq_getElem?_getD, List.getElem?_eq_getElem h1, List.getElem?_eq_getElem h2] at this
  exact this
theorem Lst.uniq {R : Nat → Nat} {x y x' y' : List Nat} (L : Lst R x y) (L' : Lst R x' y') : x = x' ∧ y = y' := by
  have e1 : x.length = x'.length := Nat.le_antisymm (L.head _ _ L'.tells.per) (L'.head _ _ L.tells.per)
  have e2 : y.length = y'.length := Nat.le_antisymm (L.again _ _ L'.tells.per) (L'.again _ _ L.tells.per)
  refine ⟨getD_ext e1 fun i hi => ?_, getD_ext e2 fun i hi => ?_⟩
  · rw [← row_head (a := y) hi, ← row_head (h := x') (a := y') (by omega), L.tells.eq, L'.tells.eq]
  · have h1 := row_again (h := x) (a := y) (i := x.length + i) (by omega)
    have h2 := row_again (h := x') (a := y') (i := x'.length + i) (by omega)
    rw [show x.length + i - x.length = i by omega, Nat.mod_eq_of_lt hi] at h1
    rw [show x'.length + i - x'.length = i by omega, Nat.mod_eq_of_lt (by omega)] at h2
    rw [← h1, ← h2, L.tells.eq, L'.tells.eq, e1]
/-- a row with least places and a least period -/
theorem Lst.of {R : Nat → Nat} {x y : List Nat} (T : Tells R x y) (hc : ∀ c p, Per R c p → x.length ≤ c) (hp : ∀ p, Per R x.length p → y.length ≤ p) : Lst R x y :=
  ⟨T, hc, fun _ _ P => hp _ (T.per.down P)⟩
theorem row_ext {h a h' a' : List Nat} (e : ∀ i, row h a i = row h' a' i) : row h a = row h' a' := funext e
end WK
namespace WK
theorem Per.mono {R : Nat → Nat} {c c' p : Nat} (P : Per R c p) (h : c ≤ c') : Per R c' p := ⟨P.1, fun i hi => P.2 i (by omega)⟩
theorem least_one {P : Nat → Prop} : ∀ n, 1 ≤ n → P n → ∃ d, 1 ≤ d ∧ d ≤ n ∧ P d ∧ ∀ i, 1 ≤ i → i < d → ¬ P i := by
  intro n
  induction n using Nat.strongRecOn with
  | ind n ih =>
    intro h1 hp
    by_cases h : ∃ i, 1 ≤ i ∧ i < n ∧ P i
    · obtain ⟨i, a, b, c⟩ := h
      obtain ⟨d, e1, e2, e3, e4⟩ := ih i b a c
      exact ⟨d, e1, by omega, e3, e4⟩
    · exact ⟨n, h1, Nat.le_refl _, hp, fun i a b c => h ⟨i, a, b, c⟩⟩
theorem row_nil {a : List Nat} (i : Nat) : row [] a i = a.getD (i % a.length) 0 := by
  rw [row_again (Nat.zero_le _)]
  rfl
theorem row_shift {h a : List Nat} (i : Nat) : row h a (h.length + i) = row [] a i := by
  rw [row_again (by omega), row_nil, Nat.add_sub_cancel_left]
theorem getD_app {a b : List Nat} {i : Nat} : (a ++ b).getD i 0 = if i < a.length then a.getD i 0 else b.getD (i - a.length) 0 := by
  rw [List.getD_eq_getElem?_getD]
  by_cases h : i < a.length
  · rw [if_pos h, List.getElem?_append_left h, List.getD_eq_getElem?_getD]
  · rw [if_neg h, List.getElem?_append_right (by omega), List.getD_eq_getElem?_getD]
theorem getD_drop {a : List Nat} {d i : Nat} : (a.drop d).getD i 0 = a.getD (d + i) 0 := by
  rw [List.getD_eq_getElem?_getD, List.getElem?_drop, List.getD_eq_getElem?_getD]
theorem getD_take {a : List Nat} {d i : Nat} (h : i < d) : (a.take d).getD i 0 = a.getD i 0 := by
  rw [List.getD_eq_getElem?_getD, List.getElem?_take, if_pos h, List.getD_eq_getElem?_getD]
/-- the again stands at the d-th place of itself told twice -/
def Again (a : List Nat) (d : Nat) : Prop := ((a ++ a).drop d).take a.length = a
theorem again_row {a : List Nat} {i : Nat} (hi : i < 2 * a.length) : (a ++ a).getD i 0 = row [] a i := by
  rw [getD_app, row_nil]
  by_cases h : i < a.length
  · rw [if_pos h, Nat.mod_eq_of_lt h]
  · rw [if_neg h, Nat.mod_eq_sub_mod (by omega), Nat.mod_eq_of_lt (by omega)]
theorem again_iff {a : List Nat} {d : Nat} (h1 : 1 ≤ d) (hd : d ≤ a.length) : Again a d ↔ Per (row [] a) 0 d := by
  have hl : ((a ++ a).drop d).length = 2 * a.length - d := by rw [List.length_drop, List.length_append]; omega
  constructor
  · intro h
    refine ⟨h1, fun i _ => ?_⟩
    have ha : 0 < a.length := by omega
    have P := row_per (h := []) ha
    have e : ∀ j, j < a.length → row [] a (d + j) = row [] a j := fun j hj => by
      have q := congrArg (fun l : List Nat => l.getD j 0) h
      rw [getD_take hj, getD_drop, again_row (by omega)] at q
      rw [q, row_nil, Nat.mod_eq_of_lt hj]
    have hm := Nat.mod_lt i ha
    have k1 := P.mod (i := i + d) (j := d + i % a.length) (Nat.zero_le _) (Nat.zero_le _) (by
      show (i + d - 0) % a.length = (d + i % a.length - 0) % a.length
      rw [Nat.sub_zero, Nat.sub_zero, Nat.add_comm i d, Nat.add_mod_mod])
    have k2 := P.mod (i := i) (j := i % a.length) (Nat.zero_le _) (Nat.zero_le _) (by
      show (i - 0) % a.length = (i % a.length - 0) % a.length
      rw [Nat.sub_zero, Nat.sub_zero, Nat.mod_mod])
    rw [k1, e _ hm, k2]
  · intro h
    refine getD_ext (by rw [List.length_take, hl]; omega) fun j hj => ?_
    rw [List.length_take, hl] at hj
    have hj' : j < a.length := by omega
    rw [getD_take hj', getD_drop, again_row (by omega), Nat.add_comm, h.2 j (Nat.zero_le _), row_nil, Nat.mod_eq_of_lt hj']
/-- the least period of an again -/
structure Sho (a : List Nat) (d : Nat) : Prop where
  one : 1 ≤ d
  le : d ≤ a.length
  per : Per (row [] a) 0 d
  least : ∀ p, Per (row [] a) 0 p → d ≤ p
theorem sho_of {a : List Nat} {d : Nat} (h1 : 1 ≤ d) (hd : d ≤ a.length) (hm : Again a d) (hl : ∀ i, 1 ≤ i → i < d → ¬ Again a i) : Sho a d := by
  refine ⟨h1, hd, (again_iff h1 hd).mp hm, fun p hp => ?_⟩
  by_cases h : d ≤ p
  · exact h
  · exact absurd ((again_iff hp.1 (by omega)).mpr hp) (hl p hp.1 (by omega))
theorem again_self (a : List Nat) : Again a a.length := by
  unfold Again
  rw [List.drop_left, List.take_length]
theorem sho_ex {a : List Nat} (h : 0 < a.length) : ∃ d, 1 ≤ d ∧ d ≤ a.length ∧ Again a d ∧ ∀ i, 1 ≤ i → i < d → ¬ Again a i :=
  least_one a.length h (again_self a)
theorem Sho.row {a : List Nat} {d : Nat} (S : Sho a d) (i : Nat) : row [] (a.take d) i = row [] a i := by
  have hl : (a.take d).length = d := by rw [List.length_take]; exact Nat.min_eq_left S.le
  have hm := Nat.mod_lt i S.one
  rw [row_nil, hl, getD_take hm]
  have k := S.per.mod (i := i) (j := i % d) (Nat.zero_le _) (Nat.zero_le _) (by rw [Nat.sub_zero, Nat.sub_zero, Nat.mod_mod])
  have hle := S.le
  rw [k, row_nil, Nat.mod_eq_of_lt (Nat.lt_of_lt_of_le hm S.le)]
theorem Sho.row_head {a : List Nat} {d : Nat} (S : Sho a d) (h : List Nat) (i : Nat) : WK.row h (a.take d) i = WK.row h a i := by
  by_cases hi : i < h.length
  · rw [WK.row_head hi, WK.row_head hi]
  · obtain ⟨j, rfl⟩ : ∃ j, i = h.length + j := ⟨i - h.length, by omega⟩
    rw [row_shift, row_shift, S.row]
/-- the row of agains as a list -/
theorem rep_get {a : List Nat} (ha : 0 < a.length) : ∀ (k i : Nat), i < k * a.length → (List.flatten (List.replicate k a)).getD i 0 = a.getD (i % a.length) 0
  | 0, i, h => by omega
  | k + 1, i, h => by
    rw [List.replicate_succ, List.flatten_cons, getD_app]
    rw [Nat.succ_mul] at h
    by_cases hi : i < a.length
    · rw [if_pos hi, Nat.mod_eq_of_lt hi]
    · rw [if_neg hi, rep_get ha k (i - a.length) (by omega), ← Nat.mod_eq_sub_mod (by omega)]
theorem rep_length (a : List Nat) : ∀ k, (List.flatten (List.replicate k a)).length = k * a.length
  | 0 => by rw [Nat.zero_mul]; rfl
  | k + 1 => by rw [List.replicate_succ, List.flatten_cons, List.length_append, rep_length a k, Nat.succ_mul, Nat.add_comm]
/-- the head's last m signs are as in the row of agains -/
def Suf (h a : List Nat) (k m : Nat) : Prop := h.drop (h.length - m) = (List.flatten (List.replicate k a)).drop (k * a.length - m)
theorem suf_iff {h a : List Nat} {k m : Nat} (ha : 0 < a.length) (hk : h.length < k * a.length) (hm : m ≤ h.length) : Suf h a k m ↔ Per (row h a) (h.length - m) a.length := by
  have hL : (List.flatten (List.replicate k a)).length = k * a.length := rep_length a k
  have R := row_per (h := h) ha
  have key : ∀ j, j < m → (h.drop (h.length - m)).getD j 0 = row h a (h.length - m + j) ∧ ((List.flatten (List.replicate k a)).drop (k * a.length - m)).getD j 0 = row h a (h.length - m + j + k * a.length) := fun j hj => by
    constructor
    · rw [getD_drop, row_head (by omega)]
    · rw [getD_drop, rep_get ha k _ (by omega), row_again (by omega)]
      congr 2
      omega
  constructor
  · intro hs
    have e : ∀ i, h.length - m ≤ i → i < h.length → row h a (i + k * a.length) = row h a i := fun i h1 h2 => by
      have q := key (i - (h.length - m)) (by omega)
      rw [hs, show h.length - m + (i - (h.length - m)) = i by omega] at q
      rw [← q.2, ← q.1]
    have e2 : ∀ i, h.length - m ≤ i → row h a (i + k * a.length) = row h a i := fun i h1 => by
      by_cases h2 : i < h.length
      · exact e i h1 h2
      · exact R.mul k i (by omega)
    refine ⟨ha, fun i hi => ?_⟩
    rw [← e2 (i + a.length) (by omega), ← e2 i hi]
    have := R.2 (i + k * a.length) (by omega)
    rw [← this]
    congr 1
    omega
  · intro P
    refine getD_ext (by rw [List.length_drop, List.length_drop, hL]; omega) fun j hj => ?_
    rw [List.length_drop] at hj
    obtain ⟨k1, k2⟩ := key j (by omega)
    rw [k1, k2, P.mul k _ (by omega)]
theorem suf_zero {h a : List Nat} {k : Nat} : Suf h a k 0 := by
  unfold Suf
  rw [Nat.sub_zero, Nat.sub_zero, List.drop_length]
  have := rep_length a k
  rw [← this, List.drop_length]
theorem suf_le {h a : List Nat} {k m m' : Nat} (ha : 0 < a.length) (hk : h.length < k * a.length) (hm : m ≤ h.length) (hs : Suf h a k m) (h' : m' ≤ m) : Suf h a k m' :=
  (suf_iff ha hk (by omega)).mpr (((suf_iff ha hk hm).mp hs).mono (by omega))
/-- how many signs of the head are taken in -/
structure Tak (h a : List Nat) (m : Nat) : Prop where
  le : m ≤ h.length
  per : Per (row h a) (h.length - m) a.length
  least : ∀ c p, Per (row h a) c p → h.length - m ≤ c
theorem tak_of {h a : List Nat} {k m : Nat} (ha : 0 < a.length) (hk : h.length < k * a.length) (hm : m ≤ h.length) (hs : Suf h a k m) (hl : ∀ i, m < i → i ≤ h.length → ¬ Suf h a k i) : Tak h a m := by
  refine ⟨hm, (suf_iff ha hk hm).mp hs, fun c p P => ?_⟩
  by_cases h1 : h.length - m ≤ c
  · exact h1
  · have P2 := P.down (row_per (h := h) ha)
    refine absurd ((suf_iff ha hk (Nat.sub_le h.length c)).mpr ?_) (hl (h.length - c) (by omega) (by omega))
    rw [show h.length - (h.length - c) = c by omega]
    exact P2
/-- the again begun at another place -/
theorem turn_get {a : List Nat} {cut j : Nat} (hc : cut ≤ a.length) (hj : j < a.length) : (a.drop cut ++ a.take cut).getD j 0 = a.getD ((cut + j) % a.length) 0 := by
  rw [getD_app, List.length_drop]
  by_cases h : j < a.length - cut
  · rw [if_pos h, getD_drop, Nat.mod_eq_of_lt (by omega)]
  · rw [if_neg h, getD_take (by omega), Nat.mod_eq_sub_mod (by omega), Nat.mod_eq_of_lt (by omega)]
    congr 1
    omega
theorem turn_len {a : List Nat} {cut : Nat} (hc : cut ≤ a.length) : (a.drop cut ++ a.take cut).length = a.length := by
  rw [List.length_append, List.length_drop, List.length_take]
  omega
theorem lst_of {h a : List Nat} {d m : Nat} (ha : 0 < a.length) (S : Sho a d) (T : Tak h (a.take d) m) :
    Lst (row h a) (h.take (h.length - m)) ((a.take d).drop (d - m % d) ++ (a.take d).take (d - m % d)) := by
  have hl : (a.take d).length = d := by rw [List.length_take]; exact Nat.min_eq_left S.le
  have hR : row h (a.take d) = row h a := funext fun i => S.row_head h i
  have h1 := S.one
  have hmd := Nat.mod_lt m h1
  have hc : d - m % d ≤ (a.take d).length := by omega
  have hx : (h.take (h.length - m)).length = h.length - m := by rw [List.length_take]; omega
  have hm := T.le
  have T2 := T.per
  rw [hR, hl] at T2
  refine Lst.of ⟨by rw [turn_len hc]; omega, fun i => ?_⟩ ?_ ?_
  · by_cases hi : i < h.length - m
    · rw [row_head (by omega), getD_take hi, row_head (by omega)]
    · have e1 := row_again (h := h.take (h.length - m)) (a := (a.take d).drop (d - m % d) ++ (a.take d).take (d - m % d)) (i := i) (by omega)
      rw [e1, hx, turn_len hc, turn_get hc (Nat.mod_lt _ (by omega))]
      have e2 := T2.mul h.length i (by omega)
      have hb : h.length ≤ h.length * d := Nat.le_mul_of_pos_right _ h1
      rw [← e2, ← hR, row_again (by omega), hl]
      congr 1
      rw [Nat.add_mod_mod]
      have hdm := Nat.div_add_mod m d
      have e3 : d - m % d + m = d * (m / d + 1) := by
        rw [Nat.mul_add, Nat.mul_one]
        omega
      have e4 : i + h.length * d - h.length + (d - m % d + m) = (d - m % d + (i - (h.length - m))) + h.length * d := by omega
      have e5 : (i + h.length * d - h.length) % d = (i + h.length * d - h.length + (d - m % d + m)) % d := by rw [e3, Nat.add_mul_mod_self_left]
      rw [e5, e4, Nat.add_mul_mod_self_right]
  · intro c p P
    rw [hx]
    rw [← hR] at P
    exact T.least c p P
  · intro p P
    rw [turn_len hc, hl]
    rw [hx] at P
    refine S.least p ⟨P.1, fun i _ => ?_⟩
    have := P.2 (h.length + i) (by omega)
    rw [Nat.add_assoc, row_shift, row_shift] at this
    exact this
end WK
namespace WK
/-- the first n signs of a row -/
def Txt (R : Nat → Nat) (n : Nat) (t : List Nat) : Prop := t.length = n ∧ ∀ i, i < n → t.getD i 0 = R i
theorem Txt.uniq {R : Nat → Nat} {n : Nat} {t t' : List Nat} (h : Txt R n t) (h' : Txt R n t') : t = t' :=
  getD_ext (by rw [h.1, h'.1]) fun i hi => by
    rw [h.1] at hi
    rw [h.2 i hi, h'.2 i hi]
theorem Txt.take {R : Nat → Nat} {n m : Nat} {t : List Nat} (h : Txt R n t) (hm : m ≤ n) : Txt R m (t.take m) :=
  ⟨by rw [List.length_take, h.1]; omega, fun i hi => by rw [getD_take hi, h.2 i (by omega)]⟩
/-- the piece of a text -/
def piece (t : List Nat) (lo hi : Nat) : List Nat := (t.drop lo).take (hi - lo)
theorem piece_len {t : List Nat} {lo hi : Nat} (h : hi ≤ t.length) : (piece t lo hi).length = hi - lo := by
  unfold piece
  rw [List.length_take, List.length_drop]
  omega
theorem piece_get {t : List Nat} {lo hi i : Nat} (h : lo + i < hi) : (piece t lo hi).getD i 0 = t.getD (lo + i) 0 := by
  unfold piece
  rw [getD_take (by omega), getD_drop]
/-- what the law's look asks -/
def Win (t : List Nat) (cut size : Nat) : Prop :=
  (t.take cut ++ List.flatten (List.replicate (t.length / size + 1) (piece t cut (cut + size)))).take t.length = t
theorem win_iff {R : Nat → Nat} {n : Nat} {t : List Nat} (T : Txt R n t) {cut size c p : Nat} (P : Per R c p) (h1 : 1 ≤ size) (hn : max c cut + p + size ≤ n) : Win t cut size ↔ Per R cut size := by
  have hlen := T.1
  have hx : (t.take cut).length = cut := by rw [List.length_take]; omega
  have hw : (piece t cut (cut + size)).length = size := by rw [piece_len (by omega)]; omega
  have hk : n - cut ≤ (n / size + 1) * size := by
    have h2 := Nat.div_add_mod n size
    have h3 := Nat.mod_lt n h1
    rw [Nat.succ_mul, Nat.mul_comm]
    omega
  have hp := P.1
  have get : ∀ i, cut ≤ i → i < n → ((t.take cut ++ List.flatten (List.replicate (t.length / size + 1) (piece t cut (cut + size)))).take t.length).getD i 0 = R (cut + (i - cut) % size) := fun i h2 h3 => by
    have hm := Nat.mod_lt (i - cut) h1
    rw [getD_take (by omega), getD_app, hx, if_neg (by omega), hlen, rep_get (by omega) _ _ (by rw [hw]; omega), hw, piece_get (by omega), T.2 _ (by omega)]
  have low : ∀ i, i < cut → ((t.take cut ++ List.flatten (List.replicate (t.length / size + 1) (piece t cut (cut + size)))).take t.length).getD i 0 = R i := fun i h2 => by
    rw [getD_take (by omega), getD_app, hx, if_pos h2, getD_take h2, T.2 _ (by omega)]
  have hl : ((t.take cut ++ List.flatten (List.replicate (t.length / size + 1) (piece t cut (cut + size)))).take t.length).length = n := by
    rw [List.length_take, List.length_append, hx, rep_length, hw, hlen]
    omega
  constructor
  · intro h
    have e : ∀ i, cut ≤ i → i < n → R i = R (cut + (i - cut) % size) := fun i h2 h3 => by
      have q := get i h2 h3
      rw [h, T.2 i h3] at q
      exact q
    have s1 : ∀ i, cut ≤ i → i + size < n → R (i + size) = R i := fun i h2 h3 => by
      rw [e (i + size) (by omega) h3, e i h2 (by omega), show i + size - cut = i - cut + size by omega, Nat.add_mod_right]
    refine ⟨h1, fun i hi => ?_⟩
    by_cases h3 : i + size < n
    · exact s1 i hi h3
    · have P' : Per R (max c cut) p := P.mono (Nat.le_max_left _ _)
      have hc2 : cut ≤ max c cut := Nat.le_max_right _ _
      have hmm := Nat.mod_lt (i - max c cut) hp
      have g1 := P'.mod (i := i) (j := max c cut + (i - max c cut) % p) (by omega) (by omega) (by rw [Nat.add_sub_cancel_left, Nat.mod_mod])
      have g2 := P'.mod (i := i + size) (j := max c cut + (i - max c cut) % p + size) (by omega) (by omega) (by
        rw [show i + size - max c cut = (i - max c cut) + size by omega, show max c cut + (i - max c cut) % p + size - max c cut = (i - max c cut) % p + size by omega, Nat.mod_add_mod])
      rw [g1, g2]
      exact s1 _ (by omega) (by omega)
  · intro W
    refine getD_ext (by rw [hl, hlen]) fun i hi => ?_
    rw [hl] at hi
    rw [T.2 i hi]
    by_cases h2 : i < cut
    · exact low i h2
    · rw [get i (by omega) hi]
      exact W.mod (by omega) (by omega) (by rw [Nat.add_sub_cancel_left, Nat.mod_mod])
theorem lst_found {R : Nat → Nat} {n : Nat} {t : List Nat} (T : Txt R n t) {cut size c p B : Nat} (P : Per R c p) (hpB : p ≤ B) (h1 : 1 ≤ size) (hsB : size ≤ B) (hn : max c cut + B + B ≤ n) (hw : Win t cut size)
    (hc : ∀ c' s, c' < cut → 1 ≤ s → s ≤ B → ¬ Win t c' s) (hs : ∀ s, 1 ≤ s → s < size → ¬ Win t cut s) : Lst R (t.take cut) (piece t cut (cut + size)) := by
  have W := (win_iff T P h1 (by omega)).mp hw
  have hlen := T.1
  have hp := P.1
  have hx : (t.take cut).length = cut := by rw [List.length_take]; omega
  have hy : (piece t cut (cut + size)).length = size := by rw [piece_len (by omega)]; omega
  refine Lst.of ⟨by omega, fun i => ?_⟩ ?_ ?_
  · by_cases hi : i < cut
    · rw [row_head (by omega), getD_take hi, T.2 _ (by omega)]
    · have hm := Nat.mod_lt (i - cut) h1
      rw [row_again (by omega), hx, hy, piece_get (by omega), T.2 _ (by omega)]
      exact W.mod (by omega) (by omega) (by rw [Nat.add_sub_cancel_left, Nat.mod_mod])
  · intro c' p' P'
    rw [hx]
    by_cases h : cut ≤ c'
    · exact h
    · exact absurd ((win_iff T P hp (by omega)).mpr (P'.down P)) (hc c' p (by omega) hp hpB)
  · intro p' P'
    rw [hx] at P'
    rw [hy]
    by_cases h : size ≤ p'
    · exact h
    · exact absurd ((win_iff T P P'.1 (by omega)).mpr P') (hs p' P'.1 (by omega))
end WK
namespace WK
/-- how many ones stand at the first n places -/
def cnt (R : Nat → Nat) : Nat → Nat
  | 0 => 0
  | n + 1 => cnt R n + (if R n = 49 then 1 else 0)
theorem cnt_le {R : Nat → Nat} : ∀ {n m : Nat}, n ≤ m → cnt R n ≤ cnt R m
  | n, 0, h => by
    have : n = 0 := by omega
    subst this
    exact Nat.le_refl _
  | n, m + 1, h => by
    by_cases e : n = m + 1
    · subst e
      exact Nat.le_refl _
    · have := cnt_le (R := R) (show n ≤ m by omega)
      show _ ≤ cnt R m + _
      omega
theorem cnt_lt {R : Nat → Nat} {n m : Nat} (h : n < m) (hn : R n = 49) : cnt R n < cnt R m := by
  have h1 := cnt_le (R := R) (show n + 1 ≤ m from h)
  have h2 : cnt R (n + 1) = cnt R n + 1 := by
    show cnt R n + (if R n = 49 then 1 else 0) = _
    rw [if_pos hn]
  omega
theorem place_uniq {R : Nat → Nat} {p q : Nat} (hp : R p = 49) (hq : R q = 49) (e : cnt R p = cnt R q) : p = q := by
  rcases Nat.lt_trichotomy p q with h | h | h
  · have := cnt_lt h hp
    omega
  · exact h
  · have := cnt_lt h hq
    omega
theorem cnt_le_self {R : Nat → Nat} : ∀ n, cnt R n ≤ n
  | 0 => Nat.le_refl _
  | n + 1 => by
    have := cnt_le_self (R := R) n
    show cnt R n + _ ≤ _
    split <;> omega
theorem cnt_congr {R R' : Nat → Nat} : ∀ {n : Nat}, (∀ i, i < n → R i = R' i) → cnt R n = cnt R' n
  | 0, _ => rfl
  | n + 1, h => by
    show cnt R n + _ = cnt R' n + _
    rw [cnt_congr (fun i hi => h i (by omega)), h n (by omega)]
theorem cnt_add {R : Nat → Nat} (n : Nat) : ∀ m, cnt R (n + m) = cnt R n + cnt (fun i => R (n + i)) m
  | 0 => rfl
  | m + 1 => by
    show cnt R (n + m) + (if R (n + m) = 49 then 1 else 0) = cnt R n + (cnt (fun i => R (n + i)) m + (if R (n + m) = 49 then 1 else 0))
    rw [cnt_add n m]
    omega
/-- ones of a list -/
theorem count_take {l : List Nat} : ∀ {k : Nat}, k ≤ l.length → (l.take k).count 49 = cnt (fun i => l.getD i 0) k
  | 0, _ => rfl
  | k + 1, h => by
    rw [List.take_add_one, List.count_append, count_take (show k ≤ l.length by omega), List.getElem?_eq_getElem (show k < l.length by omega)]
    show _ = cnt (fun i => l.getD i 0) k + (if l.getD k 0 = 49 then 1 else 0)
    congr 1
    rw [List.getD_eq_getElem?_getD, List.getElem?_eq_getElem (show k < l.length by omega)]
    show List.count 49 [l[k]] = if l[k] = 49 then 1 else 0
    by_cases e : l[k] = 49
    · rw [e]; rfl
    · rw [if_neg e, List.count_eq_zero]
      intro hm
      exact e (List.mem_singleton.mp hm).symm
theorem count_cnt (l : List Nat) : l.count 49 = cnt (fun i => l.getD i 0) l.length := by
  rw [← count_take (Nat.le_refl _), List.take_length]
theorem cnt_head {h a : List Nat} {k : Nat} (hk : k ≤ h.length) : cnt (row h a) k = (h.take k).count 49 := by
  rw [count_take hk]
  exact cnt_congr fun i hi => row_head (by omega)
theorem cnt_rounds {a : List Nat} : ∀ (q : Nat), cnt (row [] a) (q * a.length) = q * a.count 49
  | 0 => by rw [Nat.zero_mul, Nat.zero_mul]; rfl
  | q + 1 => by
    rw [Nat.succ_mul, Nat.succ_mul, cnt_add, cnt_rounds q]
    congr 1
    rw [count_cnt]
    refine cnt_congr fun i hi => ?_
    show row [] a (q * a.length + i) = a.getD i 0
    rw [row_nil, Nat.add_comm, Nat.add_mul_mod_self_right, Nat.mod_eq_of_lt hi]
theorem cnt_again {a : List Nat} (q : Nat) {r : Nat} (hr : r ≤ a.length) : cnt (row [] a) (q * a.length + r) = q * a.count 49 + (a.take r).count 49 := by
  rw [cnt_add, cnt_rounds, count_take hr]
  congr 1
  refine cnt_congr fun i hi => ?_
  show row [] a (q * a.length + i) = a.getD i 0
  rw [row_nil, Nat.add_comm, Nat.add_mul_mod_self_right, Nat.mod_eq_of_lt (by omega)]
theorem cnt_row {h a : List Nat} (m : Nat) : cnt (row h a) (h.length + m) = h.count 49 + cnt (row [] a) m := by
  rw [cnt_add, cnt_head (Nat.le_refl _), List.take_length]
  congr 1
  exact cnt_congr fun i _ => row_shift i
theorem cnt_far {h a : List Nat} {k : Nat} (ha : 0 < a.length) (hk : h.length ≤ k) : cnt (row h a) k = h.count 49 + (k - h.length) / a.length * a.count 49 + (a.take ((k - h.length) % a.length)).count 49 := by
  have h1 := Nat.div_add_mod (k - h.length) a.length
  have h2 := Nat.mod_lt (k - h.length) ha
  have e : k = h.length + ((k - h.length) / a.length * a.length + (k - h.length) % a.length) := by
    rw [Nat.mul_comm]
    omega
  have := cnt_row (h := h) (a := a) ((k - h.length) / a.length * a.length + (k - h.length) % a.length)
  rw [← e] at this
  rw [this, cnt_again _ (by omega)]
  omega
/-- the place of a one in a list -/
def At1 (l : List Nat) (k p : Nat) : Prop := p < l.length ∧ l.getD p 0 = 49 ∧ (l.take p).count 49 = k
theorem at1_next {l : List Nat} {lo k : Nat} (hlo : lo ≤ l.length) (hk : (l.take lo).count 49 = k) (h : k < l.count 49) : ∃ p, lo ≤ p ∧ At1 l k p ∧ ∀ i, lo ≤ i → i < p → l.getD i 0 ≠ 49 := by
  have main : ∀ n lo, lo + n = l.length → (l.take lo).count 49 = k → ∃ p, lo ≤ p ∧ At1 l k p ∧ ∀ i, lo ≤ i → i < p → l.getD i 0 ≠ 49 := by
    intro n
    induction n with
    | zero =>
      intro lo e hk
      rw [show lo = l.length by omega, List.take_length] at hk
      omega
    | succ n ih =>
      intro lo e hk
      by_cases h1 : l.getD lo 0 = 49
      · exact ⟨lo, Nat.le_refl _, ⟨by omega, h1, hk⟩, fun i a b => by omega⟩
      · have hk2 : (l.take (lo + 1)).count 49 = k := by
          rw [count_take (by omega)]
          rw [count_take (by omega)] at hk
          show cnt (fun i => l.getD i 0) lo + (if l.getD lo 0 = 49 then 1 else 0) = k
          rw [if_neg h1]
          exact hk
        obtain ⟨p, p1, p2, p3⟩ := ih (lo + 1) (by omega) hk2
        exact ⟨p, by omega, p2, fun i a b => by
          by_cases e : i = lo
          · rw [e]; exact h1
          · exact p3 i (by omega) b⟩
  exact main (l.length - lo) lo (by omega) hk
theorem at1_succ {l : List Nat} {k p : Nat} (h : At1 l k p) : (l.take (p + 1)).count 49 = k + 1 := by
  obtain ⟨h1, h2, h3⟩ := h
  rw [count_take (by omega)]
  rw [count_take (by omega)] at h3
  show cnt (fun i => l.getD i 0) p + (if l.getD p 0 = 49 then 1 else 0) = k + 1
  rw [if_pos h2, h3]
/-- the place of the 1 ahead of which k 1s stand -/
def Place (R : Nat → Nat) (k p : Nat) : Prop := R p = 49 ∧ cnt R p = k
theorem place_head {h a : List Nat} {k p : Nat} (A : At1 h k p) : Place (row h a) k p := by
  obtain ⟨h1, h2, h3⟩ := A
  exact ⟨by rw [row_head h1]; exact h2, by rw [cnt_head (by omega)]; exact h3⟩
theorem place_again {h a : List Nat} {k p q : Nat} (ha : 0 < a.length) (A : At1 a k p) : Place (row h a) (h.count 49 + q * a.count 49 + k) (h.length + q * a.length + p) := by
  obtain ⟨h1, h2, h3⟩ := A
  constructor
  · rw [Nat.add_assoc, row_shift, row_nil, Nat.add_comm, Nat.add_mul_mod_self_right, Nat.mod_eq_of_lt h1]
    exact h2
  · rw [Nat.add_assoc, cnt_row, cnt_again q (by omega), h3]
    omega
/-- with no 1 in the again there are as many 1s as the head has -/
theorem no_place {h a : List Nat} {k p : Nat} (ha : 0 < a.length) (h0 : a.count 49 = 0) (hk : h.count 49 ≤ k) : ¬ Place (row h a) k p := fun ⟨h1, h2⟩ => by
  by_cases hp : p < h.length
  · have := cnt_lt hp h1
    rw [h2, cnt_head (Nat.le_refl _), List.take_length] at this
    omega
  · rw [row_again (by omega)] at h1
    have hm := Nat.mod_lt (p - h.length) ha
    have : 49 ∈ a := by
      rw [← h1, List.getD_eq_getElem?_getD, List.getElem?_eq_getElem hm]
      exact List.getElem_mem hm
    exact absurd this (List.count_eq_zero.mp h0)
end WK
namespace WK
open PySem PySem.Spec PyProof.Rows L2

/-! ### texts as lists of codes -/
def tx (l : List Nat) : Str := ⟨l.toArray⟩
theorem tx_toList (l : List Nat) : (tx l).cps.toList = l := rfl
theorem tx_len (l : List Nat) : (tx l).length = l.length := by
  show l.toArray.size = l.length
  exact List.size_toArray
theorem tx_inj {a b : List Nat} (h : tx a = tx b) : a = b := by
  have := congrArg (fun z : Str => z.cps.toList) h
  exact this
theorem tx_eq (a b : List Nat) : decide (V.str (tx a) = V.str (tx b)) = decide (a = b) := by
  by_cases e : a = b
  · subst e; simp
  · rw [decide_eq_false e, decide_eq_false]
    intro z
    exact e (tx_inj (V.str.inj z))
theorem tx_add (a b : List Nat) : tx a ++ tx b = tx (a ++ b) := by
  show (⟨a.toArray ++ b.toArray⟩ : Str) = ⟨(a ++ b).toArray⟩
  congr 1
  simp
def cutL (l : List Nat) (lo hi : Nat) : List Nat := (l.drop lo).take (hi - lo)
theorem cut_nn (l : List Nat) (lo hi : Nat) : cutS (tx l) (some (lo : Int)) (some (hi : Int)) = tx (cutL l (min lo l.length) (min hi l.length)) := by
  have e : ∀ n, n = l.length → (⟨(List.take (HT.sIx n n (some (hi : Int)) - HT.sIx n 0 (some (lo : Int))) (List.drop (HT.sIx n 0 (some (lo : Int))) l)).toArray⟩ : Str) = tx (cutL l (min lo l.length) (min hi l.length)) := fun n en => by
    subst en
    rw [HT.sIx_nat, HT.sIx_nat]
    rfl
  exact e _ (tx_len l)
theorem cut_n0 (l : List Nat) (lo : Nat) : cutS (tx l) (some (lo : Int)) none = tx (l.drop lo) := by
  show (⟨_⟩ : Str) = ⟨_⟩
  congr 1
  rw [tx_len]
  show (List.take _ (List.drop _ l)).toArray = _
  rw [HT.sIx_nat, HT.sIx_none]
  by_cases h : lo ≤ l.length
  · rw [Nat.min_eq_left h, List.take_of_length_le (by rw [List.length_drop]; omega)]
  · rw [Nat.min_eq_right (by omega), List.drop_of_length_le (by omega), List.drop_of_length_le (show l.length ≤ lo by omega)]
    simp
theorem cut_0n (l : List Nat) (hi : Nat) : cutS (tx l) none (some (hi : Int)) = tx (l.take hi) := by
  show (⟨_⟩ : Str) = ⟨_⟩
  congr 1
  rw [tx_len]
  show (List.take _ (List.drop _ l)).toArray = _
  rw [HT.sIx_nat, HT.sIx_none, List.drop_zero, Nat.sub_zero]
  by_cases h : hi ≤ l.length
  · rw [Nat.min_eq_left h]
  · rw [Nat.min_eq_right (by omega), List.take_of_length_le (by omega), List.take_of_length_le (by omega)]
/-- the list n times -/
def rep (a : List Nat) (n : Nat) : List Nat := (List.replicate n a).flatten
theorem rep_zero (a : List Nat) : rep a 0 = [] := rfl
theorem rep_succ (a : List Nat) (n : Nat) : rep a (n + 1) = a ++ rep a n := by
  unfold rep
  rw [List.replicate_succ, List.flatten_cons]
theorem rep_len (a : List Nat) : ∀ n, (rep a n).length = n * a.length
  | 0 => by rw [rep_zero, Nat.zero_mul]; rfl
  | n + 1 => by rw [rep_succ, List.length_append, rep_len a n, Nat.succ_mul, Nat.add_comm]
theorem foldl_app (a : List Nat) : ∀ (n : Nat) (acc : List Nat), List.foldl (fun x1 x2 => x1 ++ x2) acc.toArray (List.replicate n a.toArray) = (acc ++ rep a n).toArray
  | 0, acc => by rw [rep_zero, List.append_nil]; rfl
  | n + 1, acc => by
    rw [List.replicate_succ, List.foldl_cons, rep_succ]
    have e : acc.toArray ++ a.toArray = (acc ++ a).toArray := by simp
    rw [e, foldl_app a n (acc ++ a), List.append_assoc]
theorem tx_mul (a : List Nat) (n : Nat) : Txt.mul (tx a) (n : Int) = tx (rep a n) := by
  unfold Txt.mul
  by_cases h0 : n = 0
  · subst h0
    rfl
  · rw [if_neg (by omega)]
    by_cases h1 : ((n : Int) == 1 || (tx a).length == 0) = true
    · rw [if_pos h1]
      rw [Bool.or_eq_true, beq_iff_eq, beq_iff_eq, tx_len] at h1
      rcases h1 with h1 | h1
      · have : n = 1 := by omega
        subst this
        rw [rep_succ, rep_zero, List.append_nil]
      · have : a = [] := List.length_eq_zero_iff.mp h1
        subst this
        have : rep [] n = [] := List.length_eq_zero_iff.mp (by rw [rep_len]; simp)
        rw [this]
    · rw [if_neg h1, Int.toNat_natCast]
      show (⟨_⟩ : Str) = ⟨_⟩
      congr 1
      have := foldl_app a n []
      rw [List.nil_append] at this
      exact this
theorem mulOk (a : List Nat) (n : Nat) (h : a.length * n ≤ 1000000) (h2 : n ≤ 1000000) : PySem.MulOk (tx a) (n : Int) := by
  refine ⟨?_, fun h1 _ => ?_, fun h1 _ => ?_⟩
  · rw [Bool.or_eq_false_iff, decide_eq_false_iff_not, decide_eq_false_iff_not]
    constructor <;> omega
  · rw [tx_len]
    have h3 : (a.length : Int) * n ≤ 1000000 := by
      have := Int.ofNat_le.mpr h
      rw [Int.natCast_mul] at this
      exact this
    intro z
    have h4 : (2 ^ 63 - 1 : Int) < n * ((2 ^ 63 - 1) / n + 1) := by
      have := Int.lt_mul_ediv_self_add (x := (2 ^ 63 - 1 : Int)) (k := (n : Int)) (by omega)
      rw [Int.mul_add, Int.mul_one]
      exact this
    have h5 : (n : Int) * ((2 ^ 63 - 1) / n + 1) ≤ n * a.length := Int.mul_le_mul_of_nonneg_left (by omega) (by omega)
    rw [Int.mul_comm] at h3
    omega
  · rw [tx_len, Int.toNat_natCast]
    show decide _ = false
    rw [decide_eq_false_iff_not]
    have : (sizeLine : Nat) = 16777216 := by decide
    omega
section
variable {X : Cx}
theorem op_mul_str : OpR X (binaryOp .Mult) (fun x y H Q => ∃ (a : List Nat) (n : Nat), x = .str (tx a) ∧ y = .int (n : Int) ∧ a.length * n ≤ 1000000 ∧ n ≤ 1000000 ∧ Q (.str (tx (rep a n))) H) := by
  intro pins s σ H x y v u Q I rx ry h
  obtain ⟨a, n, rfl, rfl, h1, h2, q⟩ := h
  obtain ⟨t, rfl⟩ := rx
  obtain ⟨t', rfl⟩ := ry
  refine PySem.SB.mul (mulOk a n h1 h2) (fun t' tk => ⟨.str (Txt.mul (tx a) n), H, I.tok _, ⟨_, rfl⟩, ?_⟩)
  rw [tx_mul]
  exact q
def CPowB (i j : Int) : Prop := 0 ≤ j ∧ (Builtin.Int.intBits i : Int) * j ≤ 2 ^ 27
theorem op_powB : OpR X (binaryOp .Pow) (rI CPowB fun i j => .int (i ^ j.toNat)) := opI fun _ _ _ _ _ _ _ hc q => PyProof.Rows.pow_int hc.1 hc.2 q
end
end WK
/-! An exception that a name keeps behind its try: the object is tracked from the end of the suite on. -/
namespace WX
open PySem PySem.Spec PyProof.Rows L2
/-- an exception of the class cls, its own dict at d, stands at a -/
def ExT (a : Addr) (cls : Value) (d : Option Addr) : HO := .ext fun h => ∃ oe, h.get? a = some oe ∧ Zc cls d oe ∧ ∃ vs, oe.data = .fields vs
theorem exT_ok {P : Program} {w : World} {H : Hp} {h : Heap} {a : Addr} {cls : Value} {d : Option Addr} {oe : Obj} (e : h.get? a = some oe) (z : Zc cls d oe) (f : ∃ vs, oe.data = .fields vs) : ObjOk P w H h a (ExT a cls d) :=
  ⟨⟨oe, e, z, f⟩, ⟨oe, e⟩, fun _ _ ⟨o, q, r⟩ k => ⟨o, k o q, r⟩⟩
section
variable {X : Cx} {pins : List (Addr × Obj)} {σ : L2.St} {H : Hp} {s : Shared}
/-- a pinned object that is new to the frame is tracked -/
theorem track {a : Addr} {oe : Obj} {o : HO} (I : Inv X ((a, oe) :: pins) σ H s) (h0 : X.s_0.heap.get? a = none) (hp : ∀ p ∈ X.pn ++ pins, p.1 ≠ a) (new : ObjOk X.prog X.w (upd H a o) s.heap a o) : Inv X pins σ (upd H a o) s := by
  have mem : (a, oe) ∈ X.pn ++ (a, oe) :: pins := List.mem_append_right _ List.mem_cons_self
  obtain ⟨g1, g2, g3, g4, g5⟩ := I.pin _ mem
  have n0 : ∀ b u, X.s_0.heap.get? b = some u → b ≠ a := fun b u e z => by
    rw [z, h0] at e
    cases e
  have nt : ∀ b u, H b = some u → b ≠ a := fun b u e z => by
    rw [z] at e
    exact absurd (e.symm.trans g2) (by intro y; cases y)
  refine ⟨I.ok, I.os, I.bare, ⟨I.base.keep, I.base.slot, fun b u e n x => ?_, I.base.there, fun b xs e => ?_, fun b u v e => ?_, fun b ps e => ?_⟩, I.loc, I.cell, ?_, fun x c e => ?_, fun p hm => ?_, fun b u e => ?_, I.len⟩
  · rw [upd_ne (n0 b u e)]
    exact I.base.free b u e n x
  · have q := I.base.tups b xs e
    rw [upd_ne (nt _ _ q)]
    exact q
  · have q := I.base.frzs b u v e
    rw [upd_ne (nt _ _ q)]
    exact q
  · obtain ⟨m, q⟩ := I.base.tbls b ps e
    exact ⟨m, by rw [upd_ne (nt _ _ q)]; exact q⟩
  · rw [upd_ne (Ne.symm g3)]
    exact I.free
  · obtain ⟨v, oc, e1, e2⟩ := I.cell x c e
    have ne : c ≠ a := fun z => by
      rw [z] at e1
      have := g1.symm.trans e1
      cases this
      exact g5 v e2
    rw [upd_ne ne]
    exact I.freeC x c e
  · have hm' : p ∈ X.pn ++ (a, oe) :: pins := by
      rcases List.mem_append.mp hm with h | h
      · exact List.mem_append_left _ h
      · exact List.mem_append_right _ (List.mem_cons_of_mem _ h)
    obtain ⟨k1, k2, k3⟩ := I.pin p hm'
    exact ⟨k1, by rw [upd_ne (hp p hm)]; exact k2, k3⟩
  · by_cases z : b = a
    · subst z
      rw [upd_same] at e
      cases e
      exact new
    · rw [upd_ne z] at e
      refine (I.hok b u e).stay (fun _ _ _ q => q) (fun c q => ?_) fun c xs q => ?_
      · rw [upd_ne (nt _ _ q)]
        exact q
      · rw [upd_ne (nt _ _ q)]
        exact q
end
/-- what 'except x as n: v = n' wishes: slot i is n's, slot j is v's -/
def wKeep (K : PySem.W.Frag) (c : Value) (i j : Nat) (D : Ends) : WX := fun cls d σ H =>
  PySem.W.exmOne K cls c = some true ∧ ∀ a, H a = none → D.nx (((σ.set i (some (.ref a))).set j (some (.ref a))).set i none) (upd H a (ExT a cls d))
section
variable {X : Cx} {x n v : Str} {c : Value} {i j : Nat} {body : List Stmt} {np vp mp sp pos pos' : Pos} {tb : WX → TS}
theorem ps_try_keep (hs : X.stack = X.env :: X.outer) (hex : X.ex = []) (hf : X.env.frame = some X.env.locals) (hN : X.N.Nodup) (hi : X.N[i]? = some n) (hj : X.N[j]? = some v) (hln : X.env.kindOf n = some .local) (hlv : Loc X.env.scope v) (hvf : X.fn v = true ∨ X.env.scope.names.lookup v = some .local) (hc : Names X x c)
    (hsw : swapsWith (.Name n mp) (some (.Name v vp)) sp.line X.env = pure false) (hvis : Vis X.env.scope n) (hdb : (n == ("__debug__" : Str)) = false) (hcd : (n == ("__classdict__" : Str)) = false)
    (hb : ∀ (W : WX) (pn : List (Addr × Obj)) (xe : Value → Shared → Prop), Takes (X.tr pn xe) W → PassesOwn (model X.prog X.w) X.A X.env xe → PSs (X.tr pn xe) body (tb W)) :
    PS X (.Try body [.ExceptHandler (some (.Name x np)) (some n) [.Assign [.Name v vp] (.Name n mp) sp] pos'] [] [] pos) (fun D σ H => tb (wKeep X.K c i j D) D σ H) := by
  constructor
  intro pins s σ H D I h
  have fr : X.A.frames = some (X.env :: X.outer) := by rw [I.ok.frames, hs]
  let hd : List ExceptHandler := [.ExceptHandler (some (.Name x np)) (some n) [.Assign [.Name v vp] (.Name n mp) sp] pos']
  let Z : Value → Shared → Prop := fun e s1 => wpAny (model X.prog X.w) X.A (noteFrame e X.env) (fun _ s2 => wpAny (model X.prog X.w) X.A (setFlight e none)
    (fun _ s3 => wpAny (model X.prog X.w) X.A (handleBy e X.env hd) (SP X pins D) X.xe s3) X.xe s2) X.xe s1
  have tk : Takes (X.tr (X.pn ++ pins) Z) (wKeep X.K c i j D) := by
    intro u s' xx
    obtain ⟨a, B, sI, ps, σ', H', cls, d, rfl, J', nb, up, sky, na, os, ag, em, hy⟩ := xx
    have J : Inv X pins σ' H' sI := J'.ofTry I.ok
    have sky2 : Sky B (X.env :: X.outer) a (Zc cls d) X.env.locals s'.heap := by
      rw [← hs]
      exact sky
    refine Sky.land Zc.steady fr hf sky2 fun g3 f3 u3 => ?_
    have K3 : Inv X pins σ' H' { s' with heap := g3 } := J.landed nb f3.1 (up.trans u3) os ag
    obtain ⟨o3, w3, e3, z3, d3⟩ := f3.there
    have na3 : a ∉ frs (X.env :: X.outer) := fun hm => by
      obtain ⟨_, o', e', nf⟩ := f3.2.2.1.mem hm
      rw [e3] at e'
      cases e'
      exact nf _ d3
    have nL : a ≠ X.env.locals := fun z => na3 (List.mem_filterMap.mpr ⟨X.env, List.mem_cons_self, by rw [hf, z]⟩)
    have nF : a ∉ X.fs := fun hm => by
      obtain ⟨e, he, q⟩ := List.mem_filterMap.mp hm
      exact na3 (List.mem_filterMap.mpr ⟨e, List.mem_cons_of_mem _ he, q⟩)
    have ban : B.get? a = none := f3.2.1
    have old : ∀ b o, sI.heap.get? b = some o → b ∉ frs X.stack → b ≠ a := fun b o e nf z => by
      have := nb b o e nf
      rw [z, ban] at this
      cases this
    have frx : frs X.stack = frs (X.env :: X.outer) := by rw [hs]
    have n0 : X.s_0.heap.get? a = none := by
      cases q : X.s_0.heap.get? a with
      | none => rfl
      | some o =>
        obtain ⟨o', e'⟩ := J.base.there a o q (by rw [hex]; intro z; cases z)
        exact absurd rfl (old a o' e' (by rw [frx]; exact na3))
    have pna : ∀ p ∈ X.pn ++ pins, p.1 ≠ a := fun p hp => by
      obtain ⟨q1, _, q3, q4, _⟩ := J.pin p hp
      refine old p.1 p.2 q1 fun hm => ?_
      rw [frx] at hm
      obtain ⟨e, he, q⟩ := List.mem_filterMap.mp hm
      rcases List.mem_cons.mp he with r | r
      · rw [r, hf] at q
        exact q3 (Option.some.inj q).symm
      · exact q4 (List.mem_filterMap.mpr ⟨e, r, q⟩)
    have S3 := K3.suite e3 d3 na nL nF
    refine wpAny_handleBy_cons (codeAny_handlers_test ?_) (by intro q; cases q)
    have ty : PySem.W.Looks (model X.prog X.w) g3 (typeOf (.ref a)) cls := by
      intro A' Q' E' s1 kk qq
      exact wpAny_typeOf_ref (kk _ _ e3) (by rw [z3.1]; exact qq)
    have mt := PySem.W.exm_one (M := model X.prog X.w) K3.kIn ty em
    have nm : ∀ {Q' : Value → Shared → Prop} {E' : Value → Shared → Prop}, Q' c { s' with heap := g3 } → wpAny (model X.prog X.w) (X.A.mark (some (.ref a))) (eval (.Name x np) X.env) Q' E' { s' with heap := g3 } := by
      intro Q' E' qq
      obtain ⟨r1, r2, r3 | ⟨r3, r4, r5⟩⟩ := hc
      · exact ld_glob (X := X.suite a ((a, o3) :: (X.pn ++ pins))) S3 r1 r3 qq r2
      · exact ld_blt (X := X.suite a ((a, o3) :: (X.pn ++ pins))) S3 r1 r3 r4 qq r5 r2
    refine nm (mt.here (codeAny_handlers_suite_as ?_))
    refine HandSPX.lands_againZ f3 fun g4 f4 u4 => ?_
    have K4 : Inv X pins σ' H' { s' with heap := g4 } := J.landed nb f4.1 ((up.trans u3).trans u4) os ag
    obtain ⟨o4, w4, e4, z4, d4⟩ := f4.there
    have S4 := K4.suite e4 d4 na nL nF
    refine store_ok (X := X.suite a ((a, o4) :: (X.pn ++ pins))) (v := .ref a) S4 hN hi (.inl hln) rfl (fun s5 S5 => ?_) (.inr hln)
    have asg : PSs (X.suite a ((a, o4) :: (X.pn ++ pins))) [.Assign [.Name v vp] (.Name n mp) sp] (tAsg (tVar i) (gName j)) :=
      pss_one (ps_set hN hj hlv (pe_var hi hvis hdb hcd) hsw hvf)
    have hlen : i < σ'.length := by
      rw [J.len]
      exact (List.getElem?_eq_some_iff.mp hi).1
    let D2 : Ends := { nx := fun σ6 H6 => σ6 = (σ'.set i (some (.ref a))).set j (some (.ref a)) ∧ H6 = H', rt := fun _ _ => False }
    refine wpAny_mono (asg.run [] s5 _ H' D2 S5 ⟨.ref a, List.getElem?_set_self hlen, rfl, rfl⟩) (fun f6 s6 q6 => ?_) (fun _ _ z => z.elim)
    cases f6 with
    | next =>
      obtain ⟨σ6, H6, S6, rfl, rfl⟩ := q6
      obtain ⟨b1, b2, b3, b4, b5, b6, b7, b8, b9, b10, b11⟩ := S6
      have S7 : Inv X ((a, o4) :: pins) ((σ'.set i (some (.ref a))).set j (some (.ref a))) H6 s6 := by
        refine ⟨I.ok, b2, b3, b4, b5, b6, b7, b8, fun p hp => b9 p (List.mem_append_left _ ?_), b10, b11⟩
        rcases List.mem_append.mp hp with r | r
        · exact List.mem_cons_of_mem _ (List.mem_append_left _ r)
        · rcases List.mem_cons.mp r with r | r
          · rw [r]
            exact List.mem_cons_self
          · exact List.mem_cons_of_mem _ (List.mem_append_right _ r)
      refine gone_ok S7 hN hi hln fun s8 S8 => ?_
      have at8 : s8.heap.get? a = some o4 := (S8.pin (a, o4) (List.mem_append_right _ List.mem_cons_self)).1
      exact ⟨_, _, track S8 n0 pna (exT_ok at8 z4 ⟨_, d4⟩), hy a na⟩
    | brk =>
      obtain ⟨_, _, _, z⟩ := q6
      exact z.elim
    | cont =>
      obtain ⟨_, _, _, z⟩ := q6
      exact z.elim
    | ret u =>
      obtain ⟨_, _, _, _, _, z⟩ := q6
      exact z.elim
  refine wpAny_Try_except (wpAny_mono ((hb _ (X.pn ++ pins) Z tk PassesOwn.looking).run [] s σ H D (I.toTry _) h) (fun f s1 q => ?_) fun _ _ z => z)
  cases f with
  | next =>
    obtain ⟨σ1, H1, J1, q1⟩ := q
    exact wpAny_execs_nil ⟨σ1, H1, J1.ofTry I.ok, q1⟩
  | brk =>
    obtain ⟨σ1, H1, J1, q1⟩ := q
    exact ⟨σ1, H1, J1.ofTry I.ok, q1⟩
  | cont =>
    obtain ⟨σ1, H1, J1, q1⟩ := q
    exact ⟨σ1, H1, J1.ofTry I.ok, q1⟩
  | ret u =>
    obtain ⟨v1, σ1, H1, J1, r1, q1⟩ := q
    exact ⟨v1, σ1, H1, J1.ofTry I.ok, r1, q1⟩
end
/-- what the class says, so that isinstance asks its instances rightly -/
structure ExK (K : PySem.W.Frag) (D : Addr) : Prop where
  hg : PySem.W.findIn K (.ref D) "__getattribute__" = some (some (.builtin "BaseException.__getattribute__"))
  hk : PySem.W.findIn K (.ref D) "__getattr__" = some none
  hs : PySem.W.subIn K (.ref D) (.type "BaseException") = some true
  hd : PySem.W.hasDictIn K D = true
  ha : PySem.W.findIn K (.ref D) "__class__" = some (some (.builtin "object.__class__"))
  hn : PySem.W.specialIn K (.builtin "object.__class__") "__get__" = some (some (.builtin "getset_descriptor.__get__"))
  ht : PySem.W.takesIn K (.builtin "object.__class__") = some true
  hm : PySem.W.mroIn K D (.type "object") = some true
/-- the error's own dict: none, or there -/
def ExD (H : Hp) (d : Option Addr) : Prop := d = none ∨ ∃ dd fs, d = some dd ∧ H dd = some (.xd fs)
section
variable {X : Cx}
theorem inst_of {pins : List (Addr × Obj)} {σ : L2.St} {H : Hp} {s : Shared} {a D : Addr} {d : Option Addr} (I : Inv X pins σ H s) (h : H a = some (ExT a (.ref D) d)) (hd : ExD H d) : ∃ ox od, PySem.W.InstAt s.heap a ox D od := by
  obtain ⟨⟨oe, e, z, vs, f⟩, _, _⟩ := I.hok a _ h
  have nc : PySem.W.notCls oe = true := by
    unfold PySem.W.notCls
    rw [f] <;> rfl
  rcases hd with rfl | ⟨dd, fs, rfl, hx⟩
  · refine ⟨oe, none, e, z.1, nc, ?_⟩
    rw [z.2]
    trivial
  · have hx : ObjOk X.prog X.w H s.heap dd (.xd fs) := I.hok dd _ hx
    obtain ⟨mA, hns, _⟩ := hx
    obtain ⟨od, ho, _⟩ := lookIn_ns hns
    exact ⟨oe, some od, e, z.1, nc, by rw [z.2]; exact ho⟩
def rIsX (K : PySem.W.Frag) : List V → Hp → VK → Prop := fun xs H Q => ∃ (a D : Addr) (d : Option Addr) (c : V) (cv : Value) (b : Bool), xs = [.ref a, c] ∧ H a = some (ExT a (.ref D) d) ∧ ExD H d ∧ ExK K D ∧ ClsV c cv ∧ PySem.W.kitOne K (.ref D) cv = some b ∧ Q (.bl b) H
theorem call_isX : CallR X (.builtin "isinstance") (rIsX X.K) := by
  intro pins s σ H xs us Q I r h
  obtain ⟨a, D, d, c, cv, b, rfl, h1, h2, T, hc, e, q⟩ := h
  cases r with
  | cons rx rr =>
    cases rr with
    | cons rt rr =>
      cases rr
      cases rx
      have ec := hc.eq rt
      subst ec
      obtain ⟨ox, od, J⟩ := inst_of I h1 h2
      obtain ⟨cd, hcd, _⟩ := PySem.W.any_some T.hd
      have kit := PySem.W.kitx_exc (x := a) (ox := ox) (od := od) (by rw [hcd]; rfl) T.hg T.hk T.hs T.ha T.hn T.ht T.hm
      exact PySem.W.kia_one kit I.kIn J e (fun z => nomatch z) fun tk => ⟨.bl b, H, I.tok tk, rfl, q⟩
def tXa (K : PySem.W.Frag) (f : Str) (te : TE) : TE := fun σ H Q => te σ H fun x H1 => ∃ (a C dd : Addr) (fs : List (Str × V)) (v : V), x = .ref a ∧ H1 a = some (ExT a (.ref C) (some dd)) ∧ H1 dd = some (.xd fs) ∧ fs.lookup f = some v ∧
  ExK K C ∧ PySem.W.findIn K (.ref C) f = some none ∧ Q v H1
theorem pe_xa {e : Expr} {te : TE} {n : Str} {pos : Pos} (he : PE X e te) (hb : attributeBase e n X.env (eval e X.env) = eval e X.env := by rfl) : PE X (.Attribute e n pos) (tXa X.K n te) := by
  constructor
  intro pins s σ H Q I h
  refine attr_of hb (thn (he.run pins s σ H _ I h) fun u s1 hh => ?_)
  obtain ⟨x, H1, I1, rx, a, C, dd, fs, v, rfl, ha, hx, hl, T, hno, q⟩ := hh
  cases rx
  obtain ⟨⟨oe, e1, z, vs, f⟩, _, _⟩ := I1.hok a _ ha
  have hx2 : ObjOk X.prog X.w H1 s1.heap dd (.xd fs) := I1.hok dd _ hx
  obtain ⟨mA, hns, hr⟩ := hx2
  obtain ⟨od, ho, hlk⟩ := lookIn_ns hns
  obtain ⟨u, hu, ru⟩ := RelO.some_of (v := v) (o := mA n) (by rw [← hl]; exact hr n)
  have J : PySem.W.InstAt s1.heap a oe C (some od) := ⟨e1, z.1, (by unfold PySem.W.notCls; rw [f] <;> rfl), by rw [z.2]; exact ho⟩
  have found := PySem.W.findObj_own (od := od) T.hd hno rfl ((hlk n).trans (by rw [hu]))
  exact HandSPX.exc_get I1.kIn J T.hg T.hk T.hs found (handed_of ru) ⟨v, H1, I1.tok _, ru, q⟩
end
end WX
namespace WK
open PySem PySem.Spec PyProof.Rows L2
def topS (i : Nat) : Stmt := PySem.Challenge.pw_clockloom_k02_letters_and_ones.main.body.getD i (.Pass ⟨0, 0, 0, 0⟩)
structure Cal (P : Program) (w : World) (K : PySem.W.Frag) (mg : Str → Option Value) (base : Heap) (CX : CXT) (k : Nat) (f : Addr) (fd : FuncData) (x : Str) (ps : List Str) (sp : Sp) : Prop where
  G : FnOk P w K mg base CX k f fd ps sp
  g : mg x = some (.ref f)
  kp : PySem.W.keepIn K (.ref f) = true
  b : Binds K fd ps []
abbrev s_is_signs : Stmt := topS 2
theorem sc_is_signs : FnScope ["thing"] ["thing"] (defScope s_is_signs) := ⟨rfl, rfl, rfl, by decide +kernel, rfl, by decide +kernel, by decide +kernel⟩
abbrev s_is_word : Stmt := topS 10
theorem sc_is_word : FnScope ["thing", "head", "again"] ["thing"] (defScope s_is_word) := ⟨rfl, rfl, rfl, by decide +kernel, rfl, by decide +kernel, by decide +kernel⟩
theorem same_upd {H : Hp} {p : Addr} {o : HO} (h : H p = none) : Same H (upd H p o) := fun b x e => by
  rw [upd_ne (ne_of_none e h)]
  exact e
def Bin (x : List Nat) : Prop := ∀ c ∈ x, c = 48 ∨ c = 49
instance (x : List Nat) : Decidable (Bin x) := inferInstanceAs (Decidable (∀ c ∈ x, c = 48 ∨ c = 49))
theorem szl : (sizeLine : Nat) = 16777216 := by decide
theorem bin_goes {x : List Nat} : Bin x ↔ ∀ k, k < x.length → (("01" : Str).cps.contains ((tx x).cps.getD k 0)) = true := by
  have e : ∀ c : Nat, ("01" : Str).cps.contains c = (c == 48 || c == 49) := fun c => by
    show (#[48, 49] : Array Nat).contains c = _
    simp [Array.contains]
  have g : ∀ k (h : k < x.length), (tx x).cps.getD k 0 = x[k] := fun k h => by
    show x.toArray.getD k 0 = x[k]
    simp [Array.getD, h]
  constructor
  · intro h k hk
    rw [e, g k hk]
    rcases h _ (List.getElem_mem hk) with z | z <;> rw [z] <;> rfl
  · intro h c hc
    obtain ⟨k, hk, rfl⟩ := List.getElem_of_mem hc
    have := h k hk
    rw [e, g k hk, Bool.or_eq_true, beq_iff_eq, beq_iff_eq] at this
    exact this
theorem strip_bin (x : List Nat) : (!(((Txt.stripChars (tx x) "01").length : Int) != 0)) = decide (Bin x) := by
  have hl := tx_len x
  have e : (Txt.stripChars (tx x) "01").length = PySem.stripHi ("01" : Str).cps.contains true (tx x) (PySem.stripLo ("01" : Str).cps.contains true (tx x)) - PySem.stripLo ("01" : Str).cps.contains true (tx x) := by
    unfold Txt.stripChars
    rw [PyProof.Rows.stripBy_eq]
    obtain ⟨a1, _, _⟩ := PyProof.Rows.lo_facts ("01" : Str).cps.contains (tx x)
    obtain ⟨b1, b2, _, _⟩ := PyProof.Rows.hi_facts ("01" : Str).cps.contains (tx x) _ a1
    have hz : (tx x).cps.size = (tx x).length := rfl
    show ((tx x).cps.extract _ _).size = _
    rw [Array.size_extract]
    omega
  obtain ⟨a1, a2, a3⟩ := PyProof.Rows.lo_facts ("01" : Str).cps.contains (tx x)
  obtain ⟨b1, b2, b3, b4⟩ := PyProof.Rows.hi_facts ("01" : Str).cps.contains (tx x) _ a1
  by_cases hb : Bin x
  · rw [decide_eq_true hb]
    have h0 : PySem.stripLo ("01" : Str).cps.contains true (tx x) = (tx x).length := by
      rcases a3 with h | h
      · exact h
      · by_cases hlt : PySem.stripLo ("01" : Str).cps.contains true (tx x) < x.length
        · rw [bin_goes.mp hb _ hlt] at h
          cases h
        · omega
    have : (Txt.stripChars (tx x) "01").length = 0 := by omega
    rw [this]
    rfl
  · rw [decide_eq_false hb]
    have h1 : PySem.stripLo ("01" : Str).cps.contains true (tx x) < x.length := by
      by_cases hlt : PySem.stripLo ("01" : Str).cps.contains true (tx x) < x.length
      · exact hlt
      · exact absurd (bin_goes.mpr fun k hk => a2 k (by omega)) hb
    have h2 : PySem.stripLo ("01" : Str).cps.contains true (tx x) < PySem.stripHi ("01" : Str).cps.contains true (tx x) (PySem.stripLo ("01" : Str).cps.contains true (tx x)) := by
      by_cases hlt : PySem.stripLo ("01" : Str).cps.contains true (tx x) < PySem.stripHi ("01" : Str).cps.contains true (tx x) (PySem.stripLo ("01" : Str).cps.contains true (tx x))
      · exact hlt
      · refine absurd (bin_goes.mpr fun k hk => ?_) hb
        by_cases hk2 : k < PySem.stripLo ("01" : Str).cps.contains true (tx x)
        · exact a2 k hk2
        · exact b3 k (by omega) (by omega)
    have : ¬ (Txt.stripChars (tx x) "01").length = 0 := by omega
    have h3 : (((Txt.stripChars (tx x) "01").length : Int) != 0) = true := by
      rw [bne_iff_ne]
      omega
    rw [h3]
    rfl
def SignsIs (H : Hp) (v : V) (b : Bool) : Prop := (∃ x, v = .str (tx x) ∧ x.length ≤ 100000 ∧ b = decide (Bin x)) ∨ (b = false ∧ (v = .non ∨ (∃ i, v = .int i) ∨ ∃ a xs, v = .ref a ∧ H a = some (.lst xs)))
def WordAt (H : Hp) (a : Addr) (x y : List Nat) : Prop := H a = some (.tup [.str (tx x), .str (tx y)]) ∧ Bin x ∧ Bin y ∧ x.length ≤ 20000 ∧ 1 ≤ y.length ∧ y.length ≤ 20000
def WordIs (H : Hp) (v : V) (b : Bool) : Prop :=
  (∃ a x y, v = .ref a ∧ H a = some (.tup [.str (tx x), .str (tx y)]) ∧ x.length ≤ 100000 ∧ y.length ≤ 100000 ∧ b = decide (Bin x ∧ Bin y ∧ x.length ≤ 20000 ∧ 1 ≤ y.length ∧ y.length ≤ 20000)) ∨
  (b = false ∧ ((∃ a u z bu bz, v = .ref a ∧ H a = some (.tup [u, z]) ∧ SignsIs H u bu ∧ SignsIs H z bz ∧ (bu = false ∨ bz = false)) ∨
    (∃ a xs, v = .ref a ∧ H a = some (.tup xs) ∧ xs.length ≠ 2 ∧ xs.length ≤ 100) ∨ v = .non ∨ (∃ i, v = .int i) ∨ (∃ c, v = .bl c) ∨ (∃ x, v = .str x) ∨ ∃ a xs, v = .ref a ∧ H a = some (.lst xs)))
section
variable {P : Program} {w : World} {K : PySem.W.Frag} {mg : Str → Option Value} {base : Heap}
def sp_is_signs (_ : PySem.W.Frag) : Sp := fun vs H Q _ => ∃ v b, vs = [v] ∧ SignsIs H v b ∧ Q (.bl b) H
theorem ok_is_signs {f : Addr} {fd : FuncData} (F : Fun K "is_signs" "is_signs" s_is_signs f fd) (m_isinstance : mg "isinstance" = none) (m_str : mg "str" = none) : FnOk P w K mg base CX0 1 f fd ["thing"] (sp_is_signs K) := by
  refine F.ok sc_is_signs (fun vs H Q E h => ?_) (fun cdv A outer s H vs Q E hr h => ?_)
  · obtain ⟨v, b, rfl, _⟩ := h
    rfl
  · obtain ⟨v, b, rfl, hv, q⟩ := h
    refine ⟨_, (pss_one (ps_ret (pe_and (pe_callB call_isi (by rfl) m_isinstance (by decide +kernel) (pa_cons (pv 0) (pa_cons (pe_bltn (v := .ty "str") (by rfl) m_str (by decide +kernel) rfl) pa_nil))) (pe_one (pe_notT (pe_bm PySem.F.plainAttrs_str PySem.F.slot_str_strip PySem.F.type_str_strip mt_stripChars (pv 0) (pa_cons pe_str pa_nil))))))), ?_⟩
    rcases hv with ⟨x, rfl, hx, rfl⟩ | ⟨rfl, rfl | ⟨i, rfl⟩ | ⟨a, xs, rfl, ha⟩⟩
    · have hxl := tx_len x
      have hz := szl
      have hs := PyProof.Rows.len_stripChars (tx x) "01"
      refine ⟨_, rfl, _, .ty "str", .type "str", .type "str", true, rfl, .ty "str", .base (.str _), kit_ty (by decide +kernel), true, rfl, iteT ?_⟩
      refine ⟨_, rfl, rfl, tx x, "01", rfl, rfl, by omega, _, ⟨by omega, rfl⟩, ?_⟩
      rw [strip_bin]
      exact q
    · exact ⟨_, rfl, _, .ty "str", .type "NoneType", .type "str", false, rfl, .ty "str", .base .non, kit_ty (by decide +kernel), false, rfl, iteF q⟩
    · exact ⟨_, rfl, _, .ty "str", .type "int", .type "str", false, rfl, .ty "str", .base (.int _), kit_ty (by decide +kernel), false, rfl, iteF q⟩
    · exact ⟨_, rfl, _, .ty "str", .type "list", .type "str", false, rfl, .ty "str", .base (.lst ha), kit_ty (by decide +kernel), false, rfl, iteF q⟩
def sp_is_word (_ : PySem.W.Frag) : Sp := fun vs H Q _ => ∃ v b, vs = [v] ∧ WordIs H v b ∧ Q (.bl b) H
theorem ok_is_word {f : Addr} {fd : FuncData} (F : Fun K "is_word" "is_word" s_is_word f fd) (m_isinstance : mg "isinstance" = none) (m_len : mg "len" = none) (m_tuple : mg "tuple" = none) (g_MOST_SIGNS : ∃ t, mg "MOST_SIGNS" = some (.int 20000 t)) {f_is_signs : Addr} {fd_is_signs : FuncData} (c_is_signs : Cal P w K mg base CX0 1 f_is_signs fd_is_signs "is_signs" ["thing"] (sp_is_signs K)) : FnOk P w K mg base CX0 2 f fd ["thing"] (sp_is_word K) := by
  refine F.ok sc_is_word (fun vs H Q E h => ?_) (fun cdv A outer s H vs Q E hr h => ?_)
  · obtain ⟨v, b, rfl, _⟩ := h
    rfl
  · obtain ⟨v, b, rfl, hv, q⟩ := h
    refine ⟨_, (pss_cons (ps_if (PW.pt (pw_or (pt_not (pt_val (pe_callB call_isi (by rfl) m_isinstance (by decide +kernel) (pa_cons (pv 0) (pa_cons (pe_bltn (v := .ty "tuple") (by rfl) m_tuple (by decide +kernel) rfl) pa_nil))))) (pw_or1 (pt_cmpR op_ne (pe_callB call_len_seq (by rfl) m_len PySem.boot_len (pa_cons (pv 0) pa_nil)) pe_int (nomark _)))))
        (pss_one (ps_ret pe_bl))
        pss_nil)
      (pss_cons (ps_asg (pv 0) (pg_tup (by rfl) (pgs_cons (pg_name (i := 1) sc_is_word.nd rfl (Or.inl rfl)) (pgs_cons (pg_name (i := 2) sc_is_word.nd rfl (Or.inl rfl)) pgs_nil))))
      (pss_cons (ps_if (PW.pt (pw_or (pt_not (pt_val (pe_call c_is_signs.G (hr.mono (by decide)) (by rfl) c_is_signs.g c_is_signs.kp c_is_signs.b .nil pass0 (pa_cons (pv 1) pa_nil)))) (pw_or1 (pt_not (pt_val (pe_call c_is_signs.G (hr.mono (by decide)) (by rfl) c_is_signs.g c_is_signs.kp c_is_signs.b .nil pass0 (pa_cons (pv 2) pa_nil)))))))
        (pss_one (ps_ret pe_bl))
        pss_nil)
      (pss_one (ps_ret (pe_and (pe_cmpR op_le (pe_callB call_len_str (by rfl) m_len PySem.boot_len (pa_cons (pv 1) pa_nil)) (pe_glob (v := .int 20000) (by rfl) g_MOST_SIGNS.choose_spec ⟨_, rfl⟩) (nomark _)) (pe_one (pe_chain op_le op_le pe_int (pe_callB call_len_str (by rfl) m_len PySem.boot_len (pa_cons (pv 2) pa_nil)) (pe_glob (v := .int 20000) (by rfl) g_MOST_SIGNS.choose_spec ⟨_, rfl⟩))))))))), ?_⟩
    have hz := szl
    have c3 : (∃ a u z bu bz, v = .ref a ∧ H a = some (.tup [u, z]) ∧ SignsIs H u bu ∧ SignsIs H z bz ∧ ((bu = false ∨ bz = false) → b = false) ∧
        (bu = true → bz = true → ∃ x y, u = .str (tx x) ∧ z = .str (tx y) ∧ x.length ≤ 100000 ∧ y.length ≤ 100000 ∧ b = decide (x.length ≤ 20000 ∧ 1 ≤ y.length ∧ y.length ≤ 20000))) ∨
        (∃ a xs, v = .ref a ∧ H a = some (.tup xs) ∧ xs.length ≠ 2 ∧ b = false) ∨ (∃ t, TyX K H v (.type t) ∧ kitB t "tuple" = some false ∧ b = false) := by
      rcases hv with ⟨a, x, y, rfl, ha, hx, hy, rfl⟩ | ⟨rfl, ⟨a, u, z, bu, bz, rfl, ha, hu, hz2, hb⟩ | ⟨a, xs, rfl, ha, hn, hl⟩ | rfl | ⟨i, rfl⟩ | ⟨c, rfl⟩ | ⟨x, rfl⟩ | ⟨a, xs, rfl, ha⟩⟩
      · refine .inl ⟨a, _, _, decide (Bin x), decide (Bin y), rfl, ha, .inl ⟨x, rfl, hx, rfl⟩, .inl ⟨y, rfl, hy, rfl⟩, fun h => ?_, fun h1 h2 => ⟨x, y, rfl, rfl, hx, hy, ?_⟩⟩
        · refine decide_eq_false fun hh => ?_
          rcases h with h | h
          · exact absurd hh.1 (of_decide_eq_false h)
          · exact absurd hh.2.1 (of_decide_eq_false h)
        · exact decide_eq_decide.mpr ⟨fun h => h.2.2, fun h => ⟨of_decide_eq_true h1, of_decide_eq_true h2, h⟩⟩
      · exact .inl ⟨a, u, z, bu, bz, rfl, ha, hu, hz2, fun _ => rfl, fun h1 h2 => by
          rcases hb with hb | hb
          · rw [hb] at h1; cases h1
          · rw [hb] at h2; cases h2⟩
      · exact .inr (.inl ⟨a, xs, rfl, ha, hn, rfl⟩)
      · exact .inr (.inr ⟨_, .base .non, by decide +kernel, rfl⟩)
      · exact .inr (.inr ⟨_, .base (.int _), by decide +kernel, rfl⟩)
      · exact .inr (.inr ⟨_, .base (.bl _), by decide +kernel, rfl⟩)
      · exact .inr (.inr ⟨_, .base (.str _), by decide +kernel, rfl⟩)
      · exact .inr (.inr ⟨_, .base (.lst ha), by decide +kernel, rfl⟩)
    rcases c3 with ⟨a, u, z, bu, bz, rfl, ha, hu, hz', hno, hyes⟩ | ⟨a, xs, rfl, ha, hn, rfl⟩ | ⟨t, ht, hk, rfl⟩
    · refine ⟨_, rfl, _, .ty "tuple", .type "tuple", .type "tuple", true, rfl, .ty "tuple", .base (.tup ha), kit_ty (by decide +kernel), true, rfl, ?_⟩
      refine iteF ?_
      refine ⟨_, rfl, a, [u, z], rfl, .inr (SqT.of ha), rfl, _, rfl, ?_⟩
      refine iteF ?_
      refine ⟨_, rfl, a, [u, z], rfl, SqT.of ha, rfl, u, [z], rfl, z, [], rfl, rfl, ?_⟩
      refine ⟨_, rfl, _, bu, rfl, hu, bu, rfl, ?_⟩
      cases bu with
      | false =>
        refine iteT (iteT ?_)
        rw [hno (.inl rfl)] at q
        exact q
      | true =>
        refine iteF ?_
        refine ⟨_, rfl, _, bz, rfl, hz', bz, rfl, ?_⟩
        cases bz with
        | false =>
          refine iteT ?_
          rw [hno (.inr rfl)] at q
          exact q
        | true =>
          refine iteF ?_
          obtain ⟨x, y, rfl, rfl, hx, hy, rfl⟩ := hyes rfl rfl
          have hxl := tx_len x
          have hyl := tx_len y
          refine ⟨_, rfl, _, rfl, by omega, _, _, rfl, rfl, decide (x.length ≤ 20000), ?_, ?_⟩
          · show V.bl (decide (((tx x).length : Int) ≤ 20000)) = V.bl (decide (x.length ≤ 20000))
            rw [hxl]
            congr 1
            exact decide_eq_decide.mpr (by omega)
          · by_cases h1 : x.length ≤ 20000
            · rw [decide_eq_true h1]
              refine iteT ⟨_, rfl, _, rfl, by omega, _, _, rfl, rfl, decide (1 ≤ y.length), ?_, ?_⟩
              · show V.bl (decide ((1 : Int) ≤ ((tx y).length : Int))) = V.bl (decide (1 ≤ y.length))
                rw [hyl]
                congr 1
                exact decide_eq_decide.mpr (by omega)
              · by_cases h2 : 1 ≤ y.length
                · rw [decide_eq_true h2]
                  refine iteT ⟨_, _, rfl, rfl, ?_⟩
                  show Q (V.bl (decide (((tx y).length : Int) ≤ 20000))) H
                  rw [hyl]
                  rw [show decide ((y.length : Int) ≤ 20000) = decide (x.length ≤ 20000 ∧ 1 ≤ y.length ∧ y.length ≤ 20000) from decide_eq_decide.mpr (by omega)]
                  exact q
                · rw [decide_eq_false h2]
                  rw [decide_eq_false (by omega)] at q
                  exact iteF q
            · rw [decide_eq_false h1]
              rw [decide_eq_false (by omega)] at q
              exact iteF q
    · refine ⟨_, rfl, _, .ty "tuple", .type "tuple", .type "tuple", true, rfl, .ty "tuple", .base (.tup ha), kit_ty (by decide +kernel), true, rfl, ?_⟩
      refine iteF ?_
      refine ⟨_, rfl, a, xs, rfl, .inr (SqT.of ha), rfl, _, rfl, ?_⟩
      have hd : (!decide (V.int (xs.length : Int) = V.int 2)) = true := by
        rw [decide_eq_false]
        · rfl
        · intro z
          have := V.int.inj z
          omega
      rw [hd]
      exact iteT q
    · refine ⟨_, rfl, _, .ty "tuple", .type t, .type "tuple", false, rfl, .ty "tuple", ht, kit_ty hk, false, rfl, ?_⟩
      exact iteT (iteT q)
end
end WK
namespace WK
open PySem PySem.Spec PyProof.Rows L2
/-! ### the first place of a text in another -/
def Hit (s sub : Str) (hi i : Nat) : Prop := i + sub.length ≤ hi ∧ Builtin.Str.subAt s sub i = true
theorem occ_stop (s sub : Str) (hi : Nat) : ∀ (l : List Nat) (st : Array Nat × Nat), 1 ≤ st.fst.size → (forIn l st (PySem.StrLaws.occBody s sub hi 1)).run.fst = st.fst
  | [], st, _ => by simp
  | a :: l, st, h => by
    rw [List.forIn_cons]
    unfold PySem.StrLaws.occBody
    rw [if_neg (by omega)]
    exact occ_stop s sub hi l st h
theorem occ_hit (s sub : Str) (hi d : Nat) (l2 : List Nat) (hd : Hit s sub hi d) : ∀ (l1 : List Nat) (free : Nat), (∀ i ∈ l1, ¬ Hit s sub hi i) → (∀ i ∈ l1, free ≤ i) → free ≤ d →
    (forIn (l1 ++ d :: l2) ((#[] : Array Nat), free) (PySem.StrLaws.occBody s sub hi 1)).run.fst = #[d]
  | [], free, _, _, hf => by
    rw [List.nil_append, List.forIn_cons]
    unfold PySem.StrLaws.occBody
    rw [if_pos ⟨⟨⟨by simp, hf⟩, hd.1⟩, hd.2⟩]
    exact occ_stop s sub hi l2 _ (by simp)
  | a :: l1, free, hn, hl, hf => by
    rw [List.cons_append, List.forIn_cons]
    unfold PySem.StrLaws.occBody
    have na := hn a (List.mem_cons_self ..)
    rw [if_neg fun z => na ⟨z.1.2, z.2⟩]
    exact occ_hit s sub hi d l2 hd l1 free (fun i h => hn i (List.mem_cons_of_mem _ h)) (fun i h => hl i (List.mem_cons_of_mem _ h)) hf
theorem occ_first {s sub : Str} {lo hi d : Nat} (h1 : lo ≤ d) (h2 : d ≤ hi) (hd : Hit s sub hi d) (hn : ∀ i, lo ≤ i → i < d → ¬ Hit s sub hi i) : Builtin.Str.occurrences s sub lo hi 1 = [d] := by
  rw [PySem.StrLaws.occ_eq]
  have e : List.range' lo (hi + 1 - lo) = List.range' lo (d - lo) ++ d :: List.range' (d + 1) (hi - d) := by
    rw [show hi + 1 - lo = (d - lo) + ((hi - d) + 1) by omega, ← List.range'_append_1, List.range'_succ, show lo + (d - lo) = d by omega]
  rw [e, occ_hit s sub hi d _ hd _ lo (fun i hi' => ?_) (fun i hi' => ?_) h1]
  · rw [List.mem_range'_1] at hi'
    exact hn i hi'.1 (by omega)
  · rw [List.mem_range'_1] at hi'
    exact hi'.1
theorem hit_tx {a b : List Nat} {hi i : Nat} (h : hi = a.length) : Hit (tx a) (tx b) hi i ↔ i + b.length ≤ a.length ∧ (a.drop i).take b.length = b := by
  unfold Hit
  rw [tx_len, PySem.StrLaws.subAt_eq, tx_len, h, tx_toList, tx_toList]
  exact ⟨fun z => ⟨z.1, by simpa using z.2⟩, fun z => ⟨z.1, by simpa using z.2⟩⟩
theorem nat_div1 (a b : Nat) : (a : Int) / b + 1 = ((a / b + 1 : Nat) : Int) := rfl
abbrev s_check_word : Stmt := topS 11
theorem sc_check_word : FnScope ["word"] ["word"] (defScope s_check_word) := ⟨rfl, rfl, rfl, by decide +kernel, rfl, by decide +kernel, by decide +kernel⟩
section
variable {P : Program} {w : World} {K : PySem.W.Frag} {mg : Str → Option Value} {base : Heap}
def sp_check_word (_ : PySem.W.Frag) : Sp := fun vs H Q _ => ∃ a x y, vs = [.ref a] ∧ WordAt H a x y ∧ Q .non H
theorem WordAt.is {H : Hp} {a : Addr} {x y : List Nat} (h : WordAt H a x y) : WordIs H (.ref a) true := by
  obtain ⟨h1, h2, h3, h4, h5, h6⟩ := h
  exact .inl ⟨a, x, y, rfl, h1, by omega, by omega, (decide_eq_true ⟨h2, h3, h4, h5, h6⟩).symm⟩
theorem ok_check_word {f : Addr} {fd : FuncData} (F : Fun K "_check_word" "_check_word" s_check_word f fd) {f_is_word : Addr} {fd_is_word : FuncData} (c_is_word : Cal P w K mg base CX0 2 f_is_word fd_is_word "is_word" ["thing"] (sp_is_word K)) : FnOk P w K mg base CX0 3 f fd ["word"] (sp_check_word K) := by
  refine F.ok sc_check_word (fun vs H Q E h => ?_) (fun cdv A outer s H vs Q E hr h => ?_)
  · obtain ⟨v, _, _, rfl, _⟩ := h
    rfl
  · obtain ⟨a, x, y, rfl, hw, q⟩ := h
    refine ⟨_, (pss_one (ps_if (pt_not (pt_val (pe_call c_is_word.G (hr.mono (by decide)) (by rfl) c_is_word.g c_is_word.kp c_is_word.b .nil pass0 (pa_cons (pv 0) pa_nil))))
        (pss_one ps_never)
        pss_nil)), ?_⟩
    exact ⟨_, rfl, _, true, rfl, hw.is, true, rfl, iteF q⟩
end
end WK
namespace WK
open PySem PySem.Spec PyProof.Rows L2
abbrev s_law_draws : Stmt := topS 18
theorem sc_law_draws : FnScope ["_law_script", "_law_j", "_law_many", "_law_cell", "_law_great", "_law_number", "_law_found", "_law_k", "_law_mixed"] ["_law_script", "_law_j", "_law_many"] (defScope s_law_draws) := ⟨rfl, rfl, rfl, by decide +kernel, rfl, by decide +kernel, by decide +kernel⟩
def nV (n : Nat) : V := .int (n : Int)
theorem mask_eq : (((2 : Int) ^ (60 : Int).toNat) ^ (60 : Int).toNat) ^ (6 : Int).toNat - 1 = 2 ^ 21600 - 1 := by
  rw [← Int.pow_mul, ← Int.pow_mul]
  rfl
section
variable {P : Program} {w : World} {K : PySem.W.Frag} {mg : Str → Option Value} {base : Heap}
def sp_law_draws (K : PySem.W.Frag) : Sp := fun vs H Q _ => ∃ (a : Addr) (ns : List Int) (j many : Nat), vs = [.ref a, nV j, nV many] ∧ SqL K H a (ns.map V.int) ∧ ns.length ≤ 100 ∧ j ≤ 1000 ∧ many ≤ 1000 ∧
  ∀ (p : Addr) (ds : List Nat), H p = none → ds.length = many → (∀ d ∈ ds, d < 1000000000) → Q (.ref p) (upd H p (.lst (ds.map nV)))
theorem ok_law_draws {f : Addr} {fd : FuncData} (F : Fun K "_law_draws" "_law_draws" s_law_draws f fd) (m_len : mg "len" = none) (m_min : mg "min" = none) (m_range : mg "range" = none) : FnOk P w K mg base CX0 1 f fd ["_law_script", "_law_j", "_law_many"] (sp_law_draws K) := by
  refine F.ok sc_law_draws (fun vs H Q E h => ?_) (fun cdv A outer s H vs Q E hr h => ?_)
  · obtain ⟨_, _, _, _, rfl, _⟩ := h
    rfl
  · obtain ⟨a, ns, j, many, rfl, hS, h1, h2, h3, q⟩ := h
    have hz := szl
    refine ⟨_, (pss_cons (ps_set (i := 3) sc_law_draws.nd rfl (Or.inl rfl) pe_int)
      (C8.pss_cut (ps_if (pt_cmpR op_gt (pe_callB call_len_seq (by rfl) m_len PySem.boot_len (pa_cons (pv 0) pa_nil)) pe_int (nomark _))
        (pss_one (ps_set (i := 3) sc_law_draws.nd rfl (Or.inl rfl) (pe_ix ix_list (pv 0) (pe_op op_mod (pv 1) (pe_callB (call_min2 rfl) (by rfl) m_min (by decide +kernel) (pa_cons pe_int (pa_cons (pe_callB call_len_seq (by rfl) m_len PySem.boot_len (pa_cons (pv 0) pa_nil)) pa_nil)))) (fun _ _ => rfl))))
        pss_nil)
      (C8.pss_cut (ps_set (i := 4) sc_law_draws.nd rfl (Or.inl rfl) (pe_and (pe_cmpR op_lt (pv 1) (pe_callB call_len_seq (by rfl) m_len PySem.boot_len (pa_cons (pv 0) pa_nil)) (nomark _)) (pe_one (pe_cmpR op_ge (pv 3) (pe_op op_powB pe_int pe_int) (nomark _)))))
      (C8.pss_cut (ps_if (pt_val (pv 4))
        (pss_one (ps_set (i := 3) sc_law_draws.nd rfl (Or.inl rfl) (pe_op op_andM (pv 3) (pe_op op_sub (pe_op op_powB (pe_op op_powB (pe_op op_powB pe_int pe_int) pe_int) pe_int) pe_int))))
        pss_nil)
      (C8.pss_cut (ps_set (i := 5) sc_law_draws.nd rfl (Or.inl rfl) (pe_op op_add (pe_op op_mod (pv 3) pe_int) (pe_op op_mul pe_int (pv 1))))
      (pss_cons (ps_set (i := 6) sc_law_draws.nd rfl (Or.inl rfl) (pe_lst pa_nil))
      (C8.pss_cut (ps_for PassesOwn.never rfl (pi_range1 (by rfl) m_range (pa_cons (pv 2) pa_nil)) (pg_name (i := 7) sc_law_draws.nd rfl (Or.inl rfl))
        (pss_one (ps_if (pt_val (pv 4))
          (pss_cons (ps_expr (pe_bm PySem.F.plainAttrs_list PySem.F.slot_list_append PySem.F.type_list_append mt_append (pv 6) (pa_cons (pe_op op_mod (pv 3) (pe_op op_powB pe_int pe_int)) pa_nil)))
          (pss_one (ps_set (i := 3) sc_law_draws.nd rfl (Or.inl rfl) (pe_op op_fdiv (pv 3) (pe_op op_powB pe_int pe_int)))))
          (pss_cons (ps_set (i := 8) sc_law_draws.nd rfl (Or.inl rfl) (pe_op op_mod (pe_op op_add (pv 5) (pe_op op_mul pe_int (pe_op op_add (pv 7) pe_int))) pe_int))
          (pss_cons (ps_set (i := 8) sc_law_draws.nd rfl (Or.inl rfl) (pe_op op_mod (pe_op op_add (pe_op op_mul (pv 8) (pv 8)) (pv 7)) pe_int))
          (pss_one (ps_expr (pe_bm PySem.F.plainAttrs_list PySem.F.slot_list_append PySem.F.type_list_append mt_append (pv 6) (pa_cons (pe_op op_mod (pe_op op_mod (pe_op op_mul (pv 8) (pv 8)) pe_int) (pe_op op_powB pe_int pe_int)) pa_nil)))))))))
      (pss_one (ps_ret (pv 6)))))))))), ?_⟩
    -- if len(script) > 0
    refine ⟨fun σ H' => H' = H ∧ ∃ c : Int, σ = [some (.ref a), some (nV j), some (nV many), some (.int c), none, none, none, none, none], ?_, fun σ H' hm => ?_⟩
    · refine ⟨_, rfl, a, ns.map V.int, rfl, .inl hS, _, _, rfl, rfl, _, rfl, ite2 (fun e => ?_) (fun e => ⟨rfl, 0, rfl⟩)⟩
      have hpos : 0 < ns.length := by
        have := of_decide_eq_true e
        rw [List.length_map] at this
        omega
      have hmin : ∃ m : Nat, (if ((ns.map V.int).length : Int) < 63 then ((ns.map V.int).length : Int) else 63) = (m : Int) ∧ 0 < m ∧ m ≤ ns.length := by
        rw [List.length_map]
        by_cases h : (ns.length : Int) < 63
        · exact ⟨ns.length, if_pos h, hpos, Nat.le_refl _⟩
        · exact ⟨63, if_neg h, by omega, by omega⟩
      obtain ⟨m, em, m1, m2⟩ := hmin
      refine ⟨_, rfl, _, rfl, _, rfl, a, ns.map V.int, rfl, .inl hS, _, _, rfl, _, _, rfl, rfl, ?_, ?_⟩
      · show (0 : Int) < (if ((ns.map V.int).length : Int) < 63 then ((ns.map V.int).length : Int) else 63)
        omega
      · have hlt := Nat.mod_lt j m1
        have hget : (ns.map V.int)[j % m]? = some (.int ns[j % m]) := by
          rw [List.getElem?_map, List.getElem?_eq_getElem (by omega)]
          rfl
        refine ⟨a, ns.map V.int, ((j % m : Nat) : Int), .int ns[j % m], rfl, ?_, hS, atI_nat hget, rfl, _, rfl⟩
        show V.int ((j : Int) % (if ((ns.map V.int).length : Int) < 63 then ((ns.map V.int).length : Int) else 63)) = _
        rw [em]
        rfl
    obtain ⟨rfl, c, rfl⟩ := hm
    -- great = ..
    refine ⟨fun σ H2 => H2 = H' ∧ ∃ (g : Bool), σ = [some (.ref a), some (nV j), some (nV many), some (.int c), some (.bl g), none, none, none, none], ?_, fun σ H2 hm => ?_⟩
    · refine ⟨_, rfl, _, rfl, a, ns.map V.int, rfl, .inl hS, _, _, rfl, rfl, _, rfl, ite2 (fun e => ?_) (fun e => ⟨rfl, _, rfl⟩)⟩
      exact ⟨_, rfl, _, _, rfl, rfl, ⟨by decide, by decide +kernel⟩, _, _, rfl, rfl, rfl, _, rfl⟩
    obtain ⟨rfl, g, rfl⟩ := hm
    -- if great
    refine ⟨fun σ H3 => H3 = H2 ∧ ∃ c : Int, σ = [some (.ref a), some (nV j), some (nV many), some (.int c), some (.bl g), none, none, none, none], ?_, fun σ H3 hm => ?_⟩
    · refine ⟨_, rfl, _, rfl, ite2 (fun e => ?_) (fun e => ⟨rfl, _, rfl⟩)⟩
      refine ⟨_, rfl, _, _, rfl, rfl, ⟨by decide, by decide +kernel⟩, _, _, rfl, rfl, ⟨by decide, by decide +kernel⟩, _, _, rfl, rfl, ⟨by decide, by decide +kernel⟩, _, _, rfl, rfl, c, 21600, rfl, ?_, rfl, _, rfl⟩
      show V.int ((((2 : Int) ^ (60 : Int).toNat) ^ (60 : Int).toNat) ^ (6 : Int).toNat - 1) = _
      rw [mask_eq]
    obtain ⟨rfl, c, rfl⟩ := hm
    -- number = ..
    refine ⟨fun σ H4 => H4 = H3 ∧ ∃ m : Nat, σ = [some (.ref a), some (nV j), some (nV many), some (.int c), some (.bl g), some (nV m), none, none, none], ?_, fun σ H4 hm => ?_⟩
    · refine ⟨_, rfl, _, _, rfl, rfl, (by show (0 : Int) < _; decide), _, rfl, _, _, rfl, rfl, .inl ⟨by decide, by decide⟩, _, _, rfl, rfl, rfl, (c % 2147483629).toNat + 69621 * j, ?_⟩
      have := Int.emod_nonneg c (show (2147483629 : Int) ≠ 0 by decide)
      show [_, _, _, _, _, some (V.int (c % 2147483629 + 69621 * (j : Int))), _, _, _] = [_, _, _, _, _, some (V.int (((c % 2147483629).toNat + 69621 * j : Nat) : Int)), _, _, _]
      rw [show (((c % 2147483629).toNat + 69621 * j : Nat) : Int) = c % 2147483629 + 69621 * (j : Int) by omega]
    obtain ⟨rfl, m, rfl⟩ := hm
    -- found = []
    refine ⟨Nat.zero_le _, fun p np => ?_⟩
    -- the loop
    refine ⟨fun σ H5 => ∃ ds : List Nat, σ[6]? = some (some (.ref p)) ∧ H5 = upd H4 p (.lst (ds.map nV)) ∧ ds.length = many ∧ ∀ d ∈ ds, d < 1000000000, ?_, fun σ H5 hm => ?_⟩
    · refine ⟨_, rfl, (many : Int), rfl, by omega, by omega, ?_⟩
      refine for_range (fun i σ H5 => ∃ (c : Int) (y7 y8 : Option V) (ds : List Nat), σ = [some (.ref a), some (nV j), some (nV many), some (.int c), some (.bl g), some (nV m), some (.ref p), y7, y8] ∧ H5 = upd H4 p (.lst (ds.map nV)) ∧ ds.length = i ∧ ∀ d ∈ ds, d < 1000000000)
        ⟨c, none, none, [], rfl, rfl, rfl, fun d hd => nomatch hd⟩ (fun i σ H5 hi hP => ?_) (fun σ H5 hP => ?_)
      · obtain ⟨c, y7, y8, ds, rfl, rfl, hl, hd⟩ := hP
        have hp : (upd H4 p (.lst (ds.map nV))) p = some (.lst (ds.map nV)) := upd_same
        have hlen : (ds.map nV).length < sizeLine := by rw [List.length_map]; omega
        have app : ∀ (x : Int), 0 ≤ x → x < 1000000000 → upd (upd H4 p (.lst (ds.map nV))) p (.lst (ds.map nV ++ [V.int x])) = upd H4 p (.lst ((ds ++ [x.toNat]).map nV)) ∧ (ds ++ [x.toNat]).length = i + 1 ∧ ∀ d ∈ ds ++ [x.toNat], d < 1000000000 := fun x h0 h1 => by
          refine ⟨?_, by rw [List.length_append, hl]; rfl, fun d hd' => ?_⟩
          · rw [upd_upd, List.map_append]
            show _ = upd H4 p (.lst (ds.map nV ++ [V.int ((x.toNat : Nat) : Int)]))
            rw [Int.toNat_of_nonneg h0]
          · rcases List.mem_append.mp hd' with hd' | hd'
            · exact hd d hd'
            · rw [List.mem_singleton.mp hd']; omega
        refine ⟨_, rfl, _, rfl, ite2 (fun e => ?_) (fun e => ?_)⟩
        · have h0 := Int.emod_nonneg c (show (1000000000 : Int) ≠ 0 by decide)
          have h1 := Int.emod_lt_of_pos c (show (0 : Int) < 1000000000 by decide)
          obtain ⟨a1, a2, a3⟩ := app (c % 1000000000) h0 h1
          refine ⟨_, rfl, .inl ⟨rfl, _, SqL.of hp⟩, _, rfl, _, _, rfl, rfl, ⟨by decide, by decide +kernel⟩, _, _, rfl, rfl, (by show (0 : Int) < _; decide), p, _, _, rfl, rfl, hp, hlen, ?_⟩
          refine ⟨_, rfl, _, _, rfl, rfl, ⟨by decide, by decide +kernel⟩, _, _, rfl, rfl, ⟨by decide, by decide⟩, ?_⟩
          exact ⟨c / 1000000000, _, _, _, rfl, a1, a2, a3⟩
        · refine ⟨_, rfl, _, rfl, _, _, rfl, rfl, _, _, rfl, rfl, .inl ⟨by decide, by decide⟩, _, _, rfl, rfl, _, _, rfl, rfl, (by show (0 : Int) < _; decide), ?_⟩
          obtain ⟨x, ex, x0, x1⟩ : ∃ x : Int, ((m : Int) + 48271 * ((0 : Int) + (i : Int) + 1)) % 2147483629 = x ∧ 0 ≤ x ∧ x < 2147483629 := ⟨_, rfl, Int.emod_nonneg _ (by decide), Int.emod_lt_of_pos _ (by decide)⟩
          refine ⟨_, rfl, _, rfl, _, _, rfl, rfl, .inl ⟨?_, ?_⟩, _, rfl, _, _, rfl, rfl, _, _, rfl, rfl, (by show (0 : Int) < _; decide), ?_⟩
          · show -(2 ^ 64) < ((m : Int) + 48271 * ((0 : Int) + (i : Int) + 1)) % 2147483629
            omega
          · show ((m : Int) + 48271 * ((0 : Int) + (i : Int) + 1)) % 2147483629 < 2 ^ 64
            omega
          obtain ⟨y, ey, y0, y1⟩ : ∃ y : Int, ((((m : Int) + 48271 * ((0 : Int) + (i : Int) + 1)) % 2147483629) * (((m : Int) + 48271 * ((0 : Int) + (i : Int) + 1)) % 2147483629) + ((0 : Int) + (i : Int))) % 2147483629 = y ∧ 0 ≤ y ∧ y < 2147483629 := ⟨_, rfl, Int.emod_nonneg _ (by decide), Int.emod_lt_of_pos _ (by decide)⟩
          obtain ⟨z, ez, z0, z1⟩ : ∃ z : Int, y * y % 2147483587 % 1000000000 = z ∧ 0 ≤ z ∧ z < 1000000000 := ⟨_, rfl, Int.emod_nonneg _ (by decide), Int.emod_lt_of_pos _ (by decide)⟩
          obtain ⟨a1, a2, a3⟩ := app z z0 z1
          refine ⟨_, rfl, .inl ⟨rfl, _, SqL.of hp⟩, _, rfl, _, rfl, y, y, ?_, ?_, .inl ⟨by omega, by omega⟩, _, _, rfl, rfl, (by show (0 : Int) < _; decide), _, _, rfl, rfl, ⟨by decide, by decide +kernel⟩, _, _, rfl, rfl, (by show (0 : Int) < _; decide), p, _, _, rfl, rfl, hp, hlen, ?_⟩
          · exact congrArg V.int ey
          · exact congrArg V.int ey
          · refine ⟨c, _, _, _, rfl, ?_, a2, a3⟩
            rw [← a1, ← ez]
            rfl
      · obtain ⟨c, y7, y8, ds, rfl, rfl, hl, hd⟩ := hP
        exact ⟨ds, rfl, rfl, hl, hd⟩
    obtain ⟨ds, hs, rfl, hl, hd⟩ := hm
    exact ⟨_, hs, q p ds np hl hd⟩
end
end WK
namespace WK
open PySem PySem.Spec PyProof.Rows L2
theorem lc_yes {σ : L2.St} {H : Hp} {F : Bool → Hp → Prop} (h : F true H) : tYes σ H F := h
theorem join_ones (cs : List Nat) : Txt.join (tx []) (cs.map fun c => tx [c]) = tx cs := by
  have f : ∀ (r : List Nat) (acc : List Nat), (r.map fun c => tx [c]).foldl (fun acc p => acc ++ (tx []).cps ++ p.cps) acc.toArray = (acc ++ r).toArray := by
    intro r
    induction r with
    | nil => intro acc; simp
    | cons c r ih =>
      intro acc
      rw [List.map_cons, List.foldl_cons]
      have e : acc.toArray ++ (tx []).cps ++ (tx [c]).cps = (acc ++ [c]).toArray := by
        show acc.toArray ++ ([] : List Nat).toArray ++ [c].toArray = _
        simp
      rw [e, ih, List.append_assoc]
      rfl
  cases cs with
  | nil => rfl
  | cons c r =>
    show (⟨(r.map fun c => tx [c]).foldl (fun acc p => acc ++ (tx []).cps ++ p.cps) [c].toArray⟩ : Str) = _
    rw [f]
    rfl
theorem text_row {h a : List Nat} {n : Nat} (ha : 0 < a.length) : WK.Txt (row h a) n ((h ++ rep a (n / a.length + 1)).take n) := by
  have hk : n < (n / a.length + 1) * a.length := by
    have h2 := Nat.div_add_mod n a.length
    have h3 := Nat.mod_lt n ha
    rw [Nat.succ_mul, Nat.mul_comm]
    omega
  have hl := rep_len a (n / a.length + 1)
  refine ⟨by rw [List.length_take, List.length_append, hl]; omega, fun i hi => ?_⟩
  rw [getD_take hi, getD_app]
  by_cases h1 : i < h.length
  · rw [if_pos h1, row_head h1]
  · rw [if_neg h1, row_again (by omega)]
    exact rep_get ha _ _ (by omega)
theorem Same.upd {H H1 : Hp} {p : Addr} {o : HO} (s : Same H H1) (hn : H p = none) : Same H (upd H1 p o) := fun b x e => by
  rw [upd_ne (ne_of_none e hn)]
  exact s b x e
theorem getD_mem {x : List Nat} {i : Nat} (h : i < x.length) : x.getD i 0 ∈ x := by
  rw [List.getD_eq_getElem?_getD, List.getElem?_eq_getElem h]
  exact List.getElem_mem h
theorem nV_at {ds : List Nat} {i : Nat} (h : i < ds.length) : (ds.map nV)[i]? = some (nV (ds.getD i 0)) := by
  rw [List.getElem?_map, List.getElem?_eq_getElem h, List.getD_eq_getElem?_getD, List.getElem?_eq_getElem h]
  rfl
abbrev s_law_signs : Stmt := topS 19
theorem sc_law_signs : FnScope ["_law_digits", "_law_many", "_law_digit"] ["_law_digits", "_law_many"] (defScope s_law_signs) := ⟨rfl, rfl, rfl, by decide +kernel, rfl, by decide +kernel, by decide +kernel⟩
abbrev s_law_text : Stmt := topS 21
theorem sc_law_text : FnScope ["_law_word_here", "_law_many", "_law_front", "_law_again"] ["_law_word_here", "_law_many"] (defScope s_law_text) := ⟨rfl, rfl, rfl, by decide +kernel, rfl, by decide +kernel, by decide +kernel⟩
section
variable {P : Program} {w : World} {K : PySem.W.Frag} {mg : Str → Option Value} {base : Heap}
def sp_law_text (_ : PySem.W.Frag) : Sp := fun vs H Q _ => ∃ (b : Addr) (h a : List Nat) (many : Nat), vs = [.ref b, nV many] ∧ H b = some (.tup [.str (tx h), .str (tx a)]) ∧ 0 < a.length ∧ a.length ≤ 20000 ∧ h.length ≤ 20000 ∧ many ≤ 3000 ∧
  ∀ t, WK.Txt (row h a) many t → Q (.str (tx t)) H
theorem ok_law_text {f : Addr} {fd : FuncData} (F : Fun K "_law_text" "_law_text" s_law_text f fd) (m_len : mg "len" = none) : FnOk P w K mg base CX0 1 f fd ["_law_word_here", "_law_many"] (sp_law_text K) := by
  refine F.ok sc_law_text (fun vs H Q E h => ?_) (fun cdv A outer s H vs Q E hr h => ?_)
  · obtain ⟨_, _, _, _, rfl, _⟩ := h
    rfl
  · obtain ⟨b, h, a, many, rfl, hb, h1, h2, h3, h4, q⟩ := h
    have hz := szl
    have hl := tx_len a
    refine ⟨_, (pss_cons (ps_asg (pv 0) (pg_tup (by rfl) (pgs_cons (pg_name (i := 2) sc_law_text.nd rfl (Or.inl rfl)) (pgs_cons (pg_name (i := 3) sc_law_text.nd rfl (Or.inl rfl)) pgs_nil))))
      (pss_one (ps_ret (pe_slice sl_str (pe_op op_add_str (pv 2) (pe_op op_mul_str (pv 3) (pe_op op_add (pe_op op_fdiv (pv 1) (pe_callB call_len_str (by rfl) m_len PySem.boot_len (pa_cons (pv 3) pa_nil))) pe_int))) po_none (po_some (pv 1)))))), ?_⟩
    refine ⟨_, rfl, b, _, rfl, SqT.of hb, rfl, _, _, rfl, _, _, rfl, rfl, ?_⟩
    have hkl := rep_len a (many / a.length + 1)
    have hkb : many / a.length ≤ many := Nat.div_le_self _ _
    have hk3 : (many / a.length + 1) * a.length ≤ 24000 := by
      have h2 := Nat.div_add_mod many a.length
      have h3 := Nat.mod_lt many h1
      rw [Nat.succ_mul, Nat.mul_comm]
      omega
    refine ⟨_, rfl, _, rfl, _, rfl, _, rfl, tx a, rfl, by omega, _, _, rfl, rfl, ⟨?_, ?_⟩, _, _, rfl, rfl, a, many / a.length + 1, rfl, ?_, ?_, by omega, _, _, rfl, rfl, ?_, _, rfl, _, rfl, _, rfl, ?_, ?_⟩
    · show (0 : Int) < ((tx a).length : Int)
      omega
    · show ((tx a).length : Int) < 1073741824
      omega
    · show V.int ((many : Int) / ((tx a).length : Int) + 1) = _
      rw [hl, nat_div1]
    · rw [Nat.mul_comm]; omega
    · show (tx h).length + (tx (rep a (many / a.length + 1))).length ≤ sizeLine
      rw [tx_len, tx_len, hkl]
      omega
    · show (tx h ++ tx (rep a (many / a.length + 1))).length ≤ sizeLine
      rw [tx_add, tx_len, List.length_append, hkl]
      omega
    · show Q (.str (cutS (tx h ++ tx (rep a (many / a.length + 1))) none (some (many : Int)))) H
      rw [tx_add, cut_0n]
      exact q _ (text_row h1)
def sp_law_signs (_ : PySem.W.Frag) : Sp := fun vs H Q _ => ∃ (p : Addr) (ds : List Nat) (many : Nat), vs = [.ref p, nV many] ∧ H p = some (.lst (ds.map nV)) ∧ ds.length ≤ 1000 ∧ many ≤ 1000 ∧
  ∀ x H', Same H H' → Bin x → x.length = min many ds.length → Q (.str (tx x)) H'
theorem ok_law_signs {f : Addr} {fd : FuncData} (F : Fun K "_law_signs" "_law_signs" s_law_signs f fd) : FnOk P w K mg base CX0 1 f fd ["_law_digits", "_law_many"] (sp_law_signs K) := by
  refine F.ok sc_law_signs (fun vs H Q E h => ?_) (fun cdv A outer s H vs Q E hr h => ?_)
  · obtain ⟨_, _, _, rfl, _⟩ := h
    rfl
  · obtain ⟨p, ds, many, rfl, hp, h1, h2, q⟩ := h
    have hz := szl
    refine ⟨_, (pss_one (ps_ret (pe_join pe_str (pe_lc (own := [("_law_digit", 2)]) (g := gName 2) (by rfl) sc_law_signs.nd (pi_list (pe_slice sl_list (pv 0) po_none (po_some (pv 1)))) (blkOk_by (N := ["_law_digits", "_law_many", "_law_digit"]) (sc := defScope s_law_signs) (by decide +kernel)) (fun _ _ _ _ _ => pg_name (i := 2) sc_law_signs.nd rfl (Or.inl rfl)) (fun _ _ _ _ _ => pts_nil) (fun _ _ _ _ _ => (pe_ix ix_str pe_str (pe_op op_mod (pe_op op_fdiv (pv 2) pe_int) pe_int) (fun _ _ => rfl))))))), ?_⟩
    refine ⟨⟨_, rfl⟩, ?_⟩
    refine ⟨_, rfl, _, rfl, _, rfl, p, _, rfl, SqL.of hp, fun c nc => ?_⟩
    have ecut : cutV (ds.map nV) none (some (many : Int)) = (ds.take many).map nV := by
      show List.take _ (List.drop _ _) = _
      rw [HT.sIx_nat, HT.sIx_none, List.drop_zero, Nat.sub_zero, List.length_map, List.map_take]
      by_cases h : many ≤ ds.length
      · rw [Nat.min_eq_left h]
      · rw [Nat.min_eq_right (by omega), List.take_of_length_le (by rw [List.length_map]; omega), List.take_of_length_le (by rw [List.length_map]; omega)]
    rw [ecut]
    refine ⟨c, rfl, ⟨_, SqL.of upd_same⟩, fun D nD => ?_⟩
    have ncD : c ≠ D := ne_of_none (H := upd H c (.lst ((ds.take many).map nV))) upd_same nD
    have hlen : (ds.take many).length = min many ds.length := List.length_take
    refine lc_list (K := K) (a := c) (xs := (ds.take many).map nV) (fun i H' => ∃ cs : List Nat, H' = upd (upd H c (.lst ((ds.take many).map nV))) D (.lst (cs.map fun z => V.str (tx [z]))) ∧ cs.length = i ∧ Bin cs)
      ⟨[], rfl, rfl, fun z hz => nomatch hz⟩ (fun i H' _ hP => ?_) (fun i x H' hx hP => ?_) (fun H' hP => ?_)
    · obtain ⟨cs, rfl, _, _⟩ := hP
      refine SqL.of ?_
      rw [upd_ne ncD, upd_same]
    · obtain ⟨cs, rfl, hl, hb⟩ := hP
      have hi : i < (ds.take many).length := by
        have := (List.getElem?_eq_some_iff.mp hx).1
        rw [List.length_map] at this
        exact this
      rw [nV_at hi] at hx
      cases hx
      refine ⟨rfl, lc_yes ?_⟩
      rw [if_pos rfl]
      obtain ⟨g, eg, g1⟩ : ∃ g : Nat, (((ds.take many).getD i 0 : Nat) : Int) / 7 % 2 = (g : Int) ∧ g < 2 := ⟨(ds.take many).getD i 0 / 7 % 2, by omega, by omega⟩
      obtain ⟨e, he, e1⟩ : ∃ e : Nat, ([48, 49] : List Nat)[g]? = some e ∧ (e = 48 ∨ e = 49) := by
        rcases (show g = 0 ∨ g = 1 by omega) with rfl | rfl
        · exact ⟨48, rfl, .inl rfl⟩
        · exact ⟨49, rfl, .inr rfl⟩
      refine ⟨_, rfl, _, _, rfl, rfl, ⟨by decide, by decide⟩, _, _, rfl, rfl, (by show (0 : Int) < _; decide), "01", (g : Int), e, rfl, ?_, by show 2 ≤ sizeLine; decide, atI_nat he, ?_⟩
      · exact congrArg V.int eg
      · refine ⟨_, upd_same, ?_, cs ++ [e], ?_, by rw [List.length_append, hl]; rfl, fun z hz => ?_⟩
        · rw [List.length_map]; omega
        · rw [upd_upd, List.map_append]
          rfl
        · rcases List.mem_append.mp hz with hz | hz
          · exact hb z hz
          · rw [List.mem_singleton.mp hz]; exact e1
    · obtain ⟨cs, rfl, hl, hb⟩ := hP
      rw [List.length_map, hlen] at hl
      have hsum : ∀ l : List Nat, ((l.map fun z => tx [z]).map (·.length)).sum = l.length := by
        intro l
        induction l with
        | nil => rfl
        | cons z l ih => rw [List.map_cons, List.map_cons, List.sum_cons, ih, List.length_cons, tx_len]; simp; omega
      refine ⟨tx [], D, cs.map fun z => tx [z], rfl, rfl, .inl (SqL.of ?_), ?_, ?_⟩
      · rw [upd_same, List.map_map]
        rfl
      · rw [hsum, List.length_map, tx_len]
        simp
        omega
      · rw [join_ones]
        exact q cs _ (Same.upd (Same.upd (Same.refl H) nc) (by rw [upd_ne ncD.symm] at nD; exact nD)) hb hl
end
end WK
namespace WK
open PySem PySem.Spec PyProof.Rows L2
theorem same_at {H H' : Hp} {p : Addr} {o : HO} (s : Same H H') (h : H p = some o) : H' p = some o := s _ _ h
theorem bin_app {x y : List Nat} (hx : Bin x) (hy : Bin y) : Bin (x ++ y) := fun c hc => by
  rcases List.mem_append.mp hc with h | h
  · exact hx c h
  · exact hy c h
theorem bin_rep {x : List Nat} (hx : Bin x) (n : Nat) : Bin (rep x n) := fun c hc => by
  unfold rep at hc
  obtain ⟨l, hl, hc⟩ := List.mem_flatten.mp hc
  rw [List.mem_replicate] at hl
  rw [hl.2] at hc
  exact hx c hc
theorem bin0 : Bin [48] := fun c hc => .inl (List.mem_singleton.mp hc)
theorem bin1 : Bin [49] := fun c hc => .inr (List.mem_singleton.mp hc)
abbrev s_law_word : Stmt := topS 20
theorem sc_law_word : FnScope ["_law_script", "_law_j", "_law_digits", "_law_way", "_law_many", "_law_size", "_law_front", "_law_again"] ["_law_script", "_law_j"] (defScope s_law_word) := ⟨rfl, rfl, rfl, by decide +kernel, rfl, by decide +kernel, by decide +kernel⟩
section
variable {P : Program} {w : World} {K : PySem.W.Frag} {mg : Str → Option Value} {base : Heap}
def sp_law_word (K : PySem.W.Frag) : Sp := fun vs H Q _ => ∃ (a : Addr) (ns : List Int) (j : Nat), vs = [.ref a, nV j] ∧ SqL K H a (ns.map V.int) ∧ ns.length ≤ 100 ∧ j ≤ 900 ∧
  ∀ (p : Addr) (x y : List Nat) (H' : Hp), Same H H' → H p = none → H' p = some (.tup [.str (tx x), .str (tx y)]) → Bin x → Bin y → x.length ≤ 12 → 1 ≤ y.length → y.length ≤ 26 → Q (.ref p) H'
theorem ok_law_word {f : Addr} {fd : FuncData} (F : Fun K "_law_word" "_law_word" s_law_word f fd) {f_law_draws : Addr} {fd_law_draws : FuncData} (c_law_draws : Cal P w K mg base CX0 1 f_law_draws fd_law_draws "_law_draws" ["_law_script", "_law_j", "_law_many"] (sp_law_draws K)) {f_law_signs : Addr} {fd_law_signs : FuncData} (c_law_signs : Cal P w K mg base CX0 1 f_law_signs fd_law_signs "_law_signs" ["_law_digits", "_law_many"] (sp_law_signs K)) : FnOk P w K mg base CX0 2 f fd ["_law_script", "_law_j"] (sp_law_word K) := by
  refine F.ok sc_law_word (fun vs H Q E h => ?_) (fun cdv A outer s H vs Q E hr h => ?_)
  · obtain ⟨_, _, _, rfl, _⟩ := h
    rfl
  · obtain ⟨a, ns, j, rfl, hS, h1, h2, q⟩ := h
    have hz := szl
    refine ⟨_, (pss_cons (ps_set (i := 2) sc_law_word.nd rfl (Or.inl rfl) (pe_call c_law_draws.G (hr.mono (by decide)) (by rfl) c_law_draws.g c_law_draws.kp c_law_draws.b .nil pass0 (pa_cons (pv 0) (pa_cons (pv 1) (pa_cons pe_int pa_nil)))))
      (C8.pss_cut (ps_set (i := 3) sc_law_word.nd rfl (Or.inl rfl) (pe_op op_mod (pe_ix ix_list (pv 2) pe_int (fun _ _ => rfl)) pe_int))
      (C8.pss_cut (ps_set (i := 4) sc_law_word.nd rfl (Or.inl rfl) (pe_op op_mod (pe_ix ix_list (pv 2) pe_int (fun _ _ => rfl)) (pe_ix ix_list (pe_lst (pa_cons pe_int (pa_cons pe_int pa_nil))) (pe_op op_mod (pv 3) pe_int) (fun _ _ => rfl))))
      (C8.pss_cut (ps_set (i := 5) sc_law_word.nd rfl (Or.inl rfl) (pe_op op_add pe_int (pe_op op_mod (pe_ix ix_list (pv 2) pe_int (fun _ _ => rfl)) (pe_ix ix_list (pe_lst (pa_cons pe_int (pa_cons pe_int pa_nil))) (pe_op op_mod (pe_op op_fdiv (pv 3) pe_int) pe_int) (fun _ _ => rfl)))))
      (pss_cons (ps_par (i := 6) (j := 7) (by rfl) sc_law_word.nd rfl rfl (by decide) rfl rfl (pa_cons (pe_call c_law_signs.G (hr.mono (by decide)) (by rfl) c_law_signs.g c_law_signs.kp c_law_signs.b .nil pass0 (pa_cons (pv 2) (pa_cons (pv 4) pa_nil))) (pa_cons (pe_call c_law_signs.G (hr.mono (by decide)) (by rfl) c_law_signs.g c_law_signs.kp c_law_signs.b .nil pass0 (pa_cons (pe_slice sl_list (pv 2) (po_some pe_int) po_none) (pa_cons (pv 5) pa_nil))) pa_nil)) (by rfl))
      (C8.pss_cut (ps_if (pt_cmpR op_eq (pv 3) pe_int (nomark _))
        (pss_one (ps_set (i := 7) sc_law_word.nd rfl (Or.inl rfl) (pe_op op_mul_str pe_str (pv 5))))
        pss_nil)
      (C8.pss_cut (ps_if (pt_cmpR op_eq (pv 3) pe_int (nomark _))
        (pss_one (ps_set (i := 7) sc_law_word.nd rfl (Or.inl rfl) (pe_op op_add_str (pv 7) (pv 7))))
        pss_nil)
      (pss_one (ps_ret (pe_tup (pa_cons (pv 6) (pa_cons (pv 7) pa_nil)))))))))))), ?_⟩
    refine ⟨_, rfl, _, rfl, a, ns, j, 30, rfl, hS, h1, by omega, by decide, fun p ds np hl hd => ?_⟩
    have s0 : Same H (upd H p (.lst (ds.map nV))) := same_upd np
    have hp0 : (upd H p (.lst (ds.map nV))) p = some (.lst (ds.map nV)) := upd_same
    -- way
    refine ⟨fun σ H' => H' = upd H p (.lst (ds.map nV)) ∧ ∃ way : Nat, way < 6 ∧ σ = [some (.ref a), some (nV j), some (.ref p), some (nV way), none, none, none, none], ?_, fun σ H' hm => ?_⟩
    · refine ⟨_, rfl, p, _, 29, _, rfl, rfl, SqL.of hp0, atI_nat (j := 29) (nV_at (by omega)), _, _, rfl, rfl, (by show (0 : Int) < _; decide), rfl, ds.getD 29 0 % 6, by omega, ?_⟩
      show [_, _, _, some (V.int (((ds.getD 29 0 : Nat) : Int) % 6)), _, _, _, _] = [_, _, _, some (V.int ((ds.getD 29 0 % 6 : Nat) : Int)), _, _, _, _]
      rfl
    obtain ⟨rfl, way, hw, rfl⟩ := hm
    have pick : ∀ (g : Nat), g < 2 → ∃ c : Nat, ([nV 4, nV 13] : List V)[g]? = some (nV c) ∧ 4 ≤ c ∧ c ≤ 13 := fun g hg => by
      rcases (show g = 0 ∨ g = 1 by omega) with rfl | rfl
      · exact ⟨4, rfl, by omega, by omega⟩
      · exact ⟨13, rfl, by omega, by omega⟩
    -- many
    refine ⟨fun σ H' => Same (upd H p (.lst (ds.map nV))) H' ∧ ∃ many : Nat, many ≤ 12 ∧ σ = [some (.ref a), some (nV j), some (.ref p), some (nV way), some (nV many), none, none, none], ?_, fun σ H1 hm => ?_⟩
    · refine ⟨_, rfl, p, _, 27, _, rfl, rfl, SqL.of hp0, atI_nat (j := 27) (nV_at (by omega)), ?_⟩
      refine ⟨by show 2 ≤ sizeLine; decide, fun l nl => ?_⟩
      obtain ⟨c, ec, c1, c2⟩ := pick (way % 2) (by omega)
      refine ⟨_, rfl, _, _, rfl, rfl, (by show (0 : Int) < _; decide), l, [nV 4, nV 13], ((way % 2 : Nat) : Int), nV c, rfl, rfl, SqL.of upd_same, atI_nat ec, _, _, rfl, rfl, ?_, same_upd nl, ds.getD 27 0 % c, ?_, ?_⟩
      · show (0 : Int) < (c : Int)
        omega
      · have := Nat.mod_lt (ds.getD 27 0) (show 0 < c by omega)
        omega
      · show [_, _, _, _, some (V.int (((ds.getD 27 0 : Nat) : Int) % (c : Int))), _, _, _] = [_, _, _, _, some (V.int ((ds.getD 27 0 % c : Nat) : Int)), _, _, _]
        rfl
    obtain ⟨s1, many, hmany, rfl⟩ := hm
    have hp1 := same_at s1 hp0
    -- size
    refine ⟨fun σ H' => Same H1 H' ∧ ∃ size : Nat, 1 ≤ size ∧ size ≤ 13 ∧ σ = [some (.ref a), some (nV j), some (.ref p), some (nV way), some (nV many), some (nV size), none, none], ?_, fun σ H2 hm => ?_⟩
    · refine ⟨_, rfl, p, _, 28, _, rfl, rfl, SqL.of hp1, atI_nat (j := 28) (nV_at (by omega)), ?_⟩
      refine ⟨by show 2 ≤ sizeLine; decide, fun l nl => ?_⟩
      obtain ⟨c, ec, c1, c2⟩ := pick (way / 2 % 2) (by omega)
      refine ⟨_, rfl, _, _, rfl, rfl, ⟨by decide, by decide⟩, _, _, rfl, rfl, (by show (0 : Int) < _; decide), l, [nV 4, nV 13], ((way / 2 % 2 : Nat) : Int), nV c, rfl, rfl, SqL.of upd_same, atI_nat ec, _, _, rfl, rfl, ?_, _, _, rfl, rfl, same_upd nl, 1 + ds.getD 28 0 % c, ?_, ?_, ?_⟩
      · show (0 : Int) < (c : Int)
        omega
      · omega
      · have := Nat.mod_lt (ds.getD 28 0) (show 0 < c by omega)
        omega
      · show [_, _, _, _, _, some (V.int (1 + ((ds.getD 28 0 : Nat) : Int) % (c : Int))), _, _] = [_, _, _, _, _, some (V.int ((1 + ds.getD 28 0 % c : Nat) : Int)), _, _]
        rfl
    obtain ⟨s2, size, hs1, hs2, rfl⟩ := hm
    have hp2 := same_at s2 hp1
    -- front, again = ..
    refine ⟨_, rfl, _, rfl, p, ds, many, rfl, hp2, by omega, by omega, fun x H3 s3 bx lx => ?_⟩
    have hp3 := same_at s3 hp2
    refine ⟨_, rfl, _, rfl, p, _, rfl, SqL.of hp3, fun c nc => ?_⟩
    have ecut : cutV (ds.map nV) (some (13 : Int)) none = (ds.drop 13).map nV := by
      show List.take _ (List.drop _ _) = _
      rw [show (HT.sIx (ds.map nV).length 0 (some (13 : Int))) = min 13 (ds.map nV).length from HT.sIx_nat _ _ 13, HT.sIx_none, List.length_map, hl, List.map_drop]
      exact List.take_of_length_le (by rw [List.length_drop, List.length_map]; omega)
    rw [ecut]
    refine ⟨_, rfl, c, ds.drop 13, size, rfl, upd_same, by rw [List.length_drop]; omega, by omega, fun y H4 s4 hby ly => ?_⟩
    rw [List.length_drop] at ly
    refine ⟨_, _, rfl, ?_⟩
    have sall : Same H H4 := s0.trans (s1.trans (s2.trans (s3.trans ((same_upd nc).trans s4))))
    -- if way == 4
    refine ⟨fun σ H' => H' = H4 ∧ ∃ y : List Nat, Bin y ∧ 1 ≤ y.length ∧ y.length ≤ 13 ∧ σ = [some (.ref a), some (nV j), some (.ref p), some (nV way), some (nV many), some (nV size), some (.str (tx x)), some (.str (tx y))], ?_, fun σ H5 hm => ?_⟩
    · refine ⟨_, rfl, rfl, _, rfl, ite2 (fun e => ?_) (fun e => ⟨rfl, y, hby, by omega, by omega, rfl⟩)⟩
      refine ⟨_, rfl, [48], size, rfl, rfl, by show 1 * size ≤ _; omega, by omega, rfl, rep [48] size, bin_rep bin0 _, ?_, ?_, rfl⟩
      · rw [rep_len]; show 1 ≤ size * 1; omega
      · rw [rep_len]; show size * 1 ≤ 13; omega
    obtain ⟨rfl, y, by', ly1, ly2, rfl⟩ := hm
    have hty := tx_len y
    -- if way == 5
    refine ⟨fun σ H' => H' = H5 ∧ ∃ y : List Nat, Bin y ∧ 1 ≤ y.length ∧ y.length ≤ 26 ∧ σ = [some (.ref a), some (nV j), some (.ref p), some (nV way), some (nV many), some (nV size), some (.str (tx x)), some (.str (tx y))], ?_, fun σ H6 hm => ?_⟩
    · refine ⟨_, rfl, rfl, _, rfl, ite2 (fun e => ?_) (fun e => ⟨rfl, y, by', by omega, by omega, rfl⟩)⟩
      refine ⟨_, rfl, _, rfl, _, _, rfl, rfl, by omega, rfl, y ++ y, bin_app by' by', ?_, ?_, ?_⟩
      · rw [List.length_append]; omega
      · rw [List.length_append]; omega
      · rw [← tx_add]; rfl
    obtain ⟨rfl, y, by', ly1, ly2, rfl⟩ := hm
    refine ⟨_, rfl, _, rfl, by show 2 ≤ sizeLine; decide, fun b nb => ?_⟩
    exact q b x y _ (sall.trans (same_upd nb)) (sall.free nb) upd_same bx by' (by omega) ly1 ly2
end
end WK
namespace WK
open PySem PySem.Spec PyProof.Rows L2
structure XCal (P : Program) (w : World) (K : PySem.W.Frag) (mg : Str → Option Value) (base : Heap) (k : Nat) (x : Str) (C fI : Addr) (fd : FuncData) (ps fs : List Str) (sp : Sp) : Prop where
  T : OexC K C
  iC : PySem.W.findIn K (.ref C) "__init__" = some (some (.ref fI))
  tI : PySem.W.typeIn K (.ref fI) = some (.type "function")
  G : FnOk P w K mg base CX0 k fI fd ps sp
  b : Binds K fd ps []
  g : mg x = some (.ref C)
  a : PySem.W.nsIn K mainGlobals x = some (some (.ref C))
  no : ∀ f ∈ fs, PySem.W.findIn K (.ref C) f = some none
structure ECal (K : PySem.W.Frag) (mg : Str → Option Value) (x : Str) (C : Addr) : Prop where
  g : mg x = some (.ref C)
  a : PySem.W.nsIn K mainGlobals x = some (some (.ref C))
  E : WX.ExK K C
  t : PySem.W.typeIn K (.ref C) = some (.type "type")
  v : PySem.W.subIn K (.ref C) (.type "ValueError") = some true
theorem ECal.exm {K : PySem.W.Frag} {mg : Str → Option Value} {x : Str} {C : Addr} {cls : Value} {b : Bool} (e : ECal K mg x C) (u : PySem.W.subIn K cls (.ref C) = some b) : PySem.W.exmOne K cls (.ref C) = some b := PySem.W.exm_ref e.E.hs e.E.hd e.t u
theorem ECal.kit {K : PySem.W.Frag} {mg : Str → Option Value} {x : Str} {C : Addr} {cls : Value} {b : Bool} (e : ECal K mg x C) (u : PySem.W.subIn K cls (.ref C) = some b) (hb : (cls == Value.ref C) = true → b = true) : PySem.W.kitOne K cls (.ref C) = some b := by
  unfold PySem.W.kitOne
  by_cases h : (cls == Value.ref C) = true
  · rw [if_pos h, hb h]
  · rw [if_neg h]
    obtain ⟨cd, hc, _⟩ := PySem.W.any_some e.E.hd
    unfold PySem.W.kitCls
    show (if ((PySem.W.clsIn K C).isSome && PySem.W.typeIn K (.ref C) == some (.type "type")) = true then _ else _) = _
    rw [hc, e.t]
    exact u
theorem ECal.self {K : PySem.W.Frag} {C : Addr} : PySem.W.kitOne K (.ref C) (.ref C) = some true := by
  unfold PySem.W.kitOne
  rw [if_pos (by simp)]
theorem ECal.ve {K : PySem.W.Frag} {mg : Str → Option Value} {x : Str} {C : Addr} (e : ECal K mg x C) : PySem.W.kitOne K (.ref C) (.type "ValueError") = some true := by
  unfold PySem.W.kitOne
  rw [if_neg (by simp)]
  show (if PySem.W.kitMeta "ValueError" = true then PySem.W.subIn K (.ref C) (.type "ValueError") else none) = some true
  rw [if_pos (by decide +kernel)]
  exact e.v
abbrev s_is_whole : Stmt := topS 1
theorem sc_is_whole : FnScope ["thing"] ["thing"] (defScope s_is_whole) := ⟨rfl, rfl, rfl, by decide +kernel, rfl, by decide +kernel, by decide +kernel⟩
abbrev s_fresh : Stmt := topS 3
theorem sc_fresh : FnScope ["thing", "part"] ["thing"] (defScope s_fresh) := ⟨rfl, rfl, rfl, by decide +kernel, rfl, by decide +kernel, by decide +kernel⟩
abbrev s_NoPlace_init : Stmt := inClass (topS 7) 0
theorem sc_NoPlace_init : FnScope ["self", "place"] ["self", "place"] (defScope s_NoPlace_init) := ⟨rfl, rfl, rfl, by decide +kernel, rfl, by decide +kernel, by decide +kernel⟩
abbrev s_check_place : Stmt := topS 12
theorem sc_check_place : FnScope ["k"] ["k"] (defScope s_check_place) := ⟨rfl, rfl, rfl, by decide +kernel, rfl, by decide +kernel, by decide +kernel⟩
abbrev s_letter : Stmt := topS 13
theorem sc_letter : FnScope ["word", "k", "head", "again"] ["word", "k"] (defScope s_letter) := ⟨rfl, rfl, rfl, by decide +kernel, rfl, by decide +kernel, by decide +kernel⟩
abbrev s_ones : Stmt := topS 14
theorem sc_ones : FnScope ["word", "k", "head", "again", "rounds", "left"] ["word", "k"] (defScope s_ones) := ⟨rfl, rfl, rfl, by decide +kernel, rfl, by decide +kernel, by decide +kernel⟩
abbrev s_place_in : Stmt := topS 15
theorem sc_place_in : FnScope ["text", "k", "at", "_"] ["text", "k"] (defScope s_place_in) := ⟨rfl, rfl, rfl, by decide +kernel, rfl, by decide +kernel, by decide +kernel⟩
abbrev s_place_of : Stmt := topS 16
theorem sc_place_of : FnScope ["word", "k", "head", "again", "ahead", "each", "rounds", "left"] ["word", "k"] (defScope s_place_of) := ⟨rfl, rfl, rfl, by decide +kernel, rfl, by decide +kernel, by decide +kernel⟩
/-! ### counting a sign -/
theorem hit1 {l : List Nat} {i : Nat} : Hit (tx l) (tx [49]) l.length i ↔ i < l.length ∧ l.getD i 0 = 49 := by
  rw [hit_tx rfl]
  constructor
  · intro ⟨h1, h2⟩
    have hi : i < l.length := h1
    have := congrArg (fun z : List Nat => z.getD 0 0) h2
    rw [show ([49] : List Nat).length = 1 from rfl] at this
    have h3 : ((l.drop i).take 1).getD 0 0 = 49 := this
    rw [getD_take (by omega), getD_drop] at h3
    exact ⟨hi, h3⟩
  · intro ⟨h1, h2⟩
    refine ⟨h1, ?_⟩
    rw [show ([49] : List Nat).length = 1 from rfl]
    refine getD_ext ?_ fun j hj => ?_
    · rw [List.length_take, List.length_drop]
      show min 1 (l.length - i) = 1
      omega
    · rw [List.length_take, List.length_drop] at hj
      have : j = 0 := by omega
      subst this
      rw [getD_take (by omega), getD_drop]
      exact h2
theorem occ_count {l : List Nat} : ∀ (m lo : Nat) (acc : Array Nat) (free : Nat), lo + m = l.length + 1 → free ≤ lo → acc.size ≤ lo →
    (forIn (List.range' lo m) (acc, free) (PySem.StrLaws.occBody (tx l) (tx [49]) l.length (l.length + 1))).run.fst.size = acc.size + (l.drop lo).count 49
  | 0, lo, acc, free, h1, h2, h3 => by
    rw [List.drop_of_length_le (show l.length ≤ lo by omega)]
    rfl
  | m + 1, lo, acc, free, h1, h2, h3 => by
    rw [List.range'_succ, List.forIn_cons]
    unfold PySem.StrLaws.occBody
    by_cases hh : Hit (tx l) (tx [49]) l.length lo
    · rw [if_pos ⟨⟨⟨by show acc.size < l.length + 1; omega, h2⟩, hh.1⟩, hh.2⟩]
      obtain ⟨k1, k2⟩ := hit1.mp hh
      have ih := occ_count (l := l) m (lo + 1) (acc.push lo) (lo + 1) (by omega) (Nat.le_refl _) (by rw [Array.size_push]; omega)
      have hd : (l.drop lo).count 49 = 1 + (l.drop (lo + 1)).count 49 := by
        rw [List.drop_eq_getElem_cons k1, List.count_cons]
        have : l[lo] = 49 := by
          rw [List.getD_eq_getElem?_getD, List.getElem?_eq_getElem k1] at k2
          exact k2
        rw [this]
        show _ + 1 = _
        omega
      rw [Array.size_push] at ih
      have e : (forIn (List.range' (lo + 1) m) (acc.push lo, lo + (tx [49]).length) (PySem.StrLaws.occBody (tx l) (tx [49]) l.length (l.length + 1))).run.fst.size = acc.size + 1 + (l.drop (lo + 1)).count 49 := ih
      refine Eq.trans e ?_
      rw [hd]
      omega
    · rw [if_neg fun z => hh ⟨z.1.2, z.2⟩]
      have ih := occ_count (l := l) m (lo + 1) acc free (by omega) (by omega) (by omega)
      refine Eq.trans ih ?_
      congr 1
      by_cases k1 : lo < l.length
      · rw [List.drop_eq_getElem_cons k1, List.count_cons]
        have : l[lo] ≠ 49 := fun z => hh (hit1.mpr ⟨k1, by rw [List.getD_eq_getElem?_getD, List.getElem?_eq_getElem k1]; exact z⟩)
        rw [if_neg (by simpa using this)]
        rfl
      · rw [List.drop_of_length_le (show l.length ≤ lo + 1 by omega), List.drop_of_length_le (show l.length ≤ lo by omega)]
theorem count_tx (l : List Nat) : Txt.count (tx l) (tx [49]) = ((l.count 49 : Nat) : Int) := by
  unfold Txt.count
  rw [tx_len, PySem.StrLaws.occ_eq]
  have := occ_count (l := l) (l.length + 1) 0 #[] 0 (by omega) (Nat.le_refl _) (Nat.le_refl _)
  rw [show l.length + 1 - 0 = l.length + 1 from rfl]
  rw [Array.length_toList, this]
  show (((0 + (l.drop 0).count 49 : Nat)) : Int) = _
  rw [List.drop_zero, Nat.zero_add]
theorem find_next {l : List Nat} {lo p : Nat} (h1 : lo ≤ p) (h2 : p < l.length) (h3 : l.getD p 0 = 49) (h4 : ∀ i, lo ≤ i → i < p → l.getD i 0 ≠ 49) : Txt.find3 (tx l) (tx [49]) (lo : Int) = (p : Int) := by
  unfold Txt.find3
  have e : PySem.fromIndex (tx l).length (lo : Int) = lo := by
    show (max 0 (if (lo : Int) < 0 then _ else (lo : Int))).toNat = lo
    rw [if_neg (by omega)]
    omega
  rw [e, tx_len, occ_first (d := p) h1 (by omega) (hit1.mpr ⟨h2, h3⟩) fun i a b z => h4 i a b (hit1.mp z).2]
theorem sign_eq {l : List Nat} {i : Nat} (h : i < l.length) : atI (tx l).cps.toList (i : Int) = some (l.getD i 0) := by
  refine atI_nat (xs := l) ?_
  rw [List.getD_eq_getElem?_getD, List.getElem?_eq_getElem h]
  rfl
theorem one_eq (c : Nat) : decide (V.str ⟨#[c]⟩ = V.str (tx [49])) = decide (c = 49) := by
  have := tx_eq [c] [49]
  refine Eq.trans this ?_
  exact decide_eq_decide.mpr ⟨fun h => (List.cons.inj h).1, fun h => by rw [h]⟩
section
variable {P : Program} {w : World} {K : PySem.W.Frag} {mg : Str → Option Value} {base : Heap}
def sp_is_whole (_ : PySem.W.Frag) : Sp := fun vs H Q _ => ∃ v b, vs = [v] ∧ ((∃ i, v = .int i ∧ b = true) ∨ ((∃ c, v = .bl c) ∧ b = false)) ∧ Q (.bl b) H
theorem ok_is_whole {f : Addr} {fd : FuncData} (F : Fun K "is_whole" "is_whole" s_is_whole f fd) (m_bool : mg "bool" = none) (m_int : mg "int" = none) (m_isinstance : mg "isinstance" = none) : FnOk P w K mg base CX0 1 f fd ["thing"] (sp_is_whole K) := by
  refine F.ok sc_is_whole (fun vs H Q E h => ?_) (fun cdv A outer s H vs Q E hr h => ?_)
  · obtain ⟨_, _, rfl, _⟩ := h
    rfl
  · obtain ⟨v, b, rfl, hv, q⟩ := h
    refine ⟨_, (pss_one (ps_ret (pe_and (pe_callB call_isi (by rfl) m_isinstance (by decide +kernel) (pa_cons (pv 0) (pa_cons (pe_bltn (v := .ty "int") (by rfl) m_int (by decide +kernel) rfl) pa_nil))) (pe_one (pe_not (pe_callB call_isi (by rfl) m_isinstance (by decide +kernel) (pa_cons (pv 0) (pa_cons (pe_bltn (v := .ty "bool") (by rfl) m_bool (by decide +kernel) rfl) pa_nil)))))))), ?_⟩
    rcases hv with ⟨i, rfl, rfl⟩ | ⟨⟨c, rfl⟩, rfl⟩
    · exact ⟨_, rfl, _, .ty "int", .type "int", .type "int", true, rfl, .ty "int", .base (.int _), kit_ty (by decide +kernel), true, rfl, iteT ⟨_, rfl, _, .ty "bool", .type "int", .type "bool", false, rfl, .ty "bool", .base (.int _), kit_ty (by decide +kernel), false, rfl, q⟩⟩
    · exact ⟨_, rfl, _, .ty "int", .type "bool", .type "int", true, rfl, .ty "int", .base (.bl _), kit_ty (by decide +kernel), true, rfl, iteT ⟨_, rfl, _, .ty "bool", .type "bool", .type "bool", true, rfl, .ty "bool", .base (.bl _), kit_ty (by decide +kernel), true, rfl, q⟩⟩
def sp_fresh (_ : PySem.W.Frag) : Sp := fun vs H Q _ => ∃ i : Int, vs = [.int i] ∧ Q (.int i) H
theorem ok_fresh {f : Addr} {fd : FuncData} (F : Fun K "fresh" "fresh" s_fresh f fd) (m_dict : mg "dict" = none) (m_isinstance : mg "isinstance" = none) (m_list : mg "list" = none) (m_tuple : mg "tuple" = none) : FnOk P w K mg base CX0 1 f fd ["thing"] (sp_fresh K) := by
  refine F.ok sc_fresh (fun vs H Q E h => ?_) (fun cdv A outer s H vs Q E hr h => ?_)
  · obtain ⟨_, rfl, _⟩ := h
    rfl
  · obtain ⟨i, rfl, q⟩ := h
    refine ⟨_, (pss_cons (ps_if (pt_val (pe_callB call_isi (by rfl) m_isinstance (by decide +kernel) (pa_cons (pv 0) (pa_cons (pe_bltn (v := .ty "list") (by rfl) m_list (by decide +kernel) rfl) pa_nil)))) (pss_one ps_never) pss_nil)
      (pss_cons (ps_if (pt_val (pe_callB call_isi (by rfl) m_isinstance (by decide +kernel) (pa_cons (pv 0) (pa_cons (pe_bltn (v := .ty "tuple") (by rfl) m_tuple (by decide +kernel) rfl) pa_nil)))) (pss_one ps_never) pss_nil)
      (pss_cons (ps_if (pt_val (pe_callB call_isi (by rfl) m_isinstance (by decide +kernel) (pa_cons (pv 0) (pa_cons (pe_bltn (v := .ty "dict") (by rfl) m_dict (by decide +kernel) rfl) pa_nil)))) (pss_one ps_never) pss_nil)
      (pss_one (ps_ret (pv 0)))))), ?_⟩
    refine ⟨_, rfl, _, .ty "list", .type "int", .type "list", false, rfl, .ty "list", .base (.int _), kit_ty (by decide +kernel), false, rfl, iteF ?_⟩
    refine ⟨_, rfl, _, .ty "tuple", .type "int", .type "tuple", false, rfl, .ty "tuple", .base (.int _), kit_ty (by decide +kernel), false, rfl, iteF ?_⟩
    refine ⟨_, rfl, _, .ty "dict", .type "int", .type "dict", false, rfl, .ty "dict", .base (.int _), kit_ty (by decide +kernel), false, rfl, iteF ?_⟩
    exact ⟨_, rfl, q⟩
def sp_NoPlace_init (K : PySem.W.Frag) : Sp := fun vs H Q _ => ∃ (a C : Addr) (i : Int), vs = [.ref a, .int i] ∧ OexC K C ∧ PySem.W.findIn K (.ref C) "place" = some none ∧ H a = some (exo a C none) ∧
  ∀ d, H d = none → d ≠ a → Q .non (upd (upd H d (exd d [("place", .int i)])) a (exo a C (some d)))
theorem ok_NoPlace_init {f : Addr} {fd : FuncData} (F : Fun K "__init__" "NoPlace.__init__" s_NoPlace_init f fd) {f_fresh : Addr} {fd_fresh : FuncData} (c_fresh : Cal P w K mg base CX0 1 f_fresh fd_fresh "fresh" ["thing"] (sp_fresh K)) : FnOk P w K mg base CX0 2 f fd ["self", "place"] (sp_NoPlace_init K) := by
  refine F.ok sc_NoPlace_init (fun vs H Q E h => ?_) (fun cdv A outer s H vs Q E hr h => ?_)
  · obtain ⟨_, _, _, rfl, _⟩ := h
    rfl
  · obtain ⟨a, C, i, rfl, T, hno, ha, q⟩ := h
    refine ⟨_, (pss_one (ps_ost (pv 0) (pe_call c_fresh.G (hr.mono (by decide)) (by rfl) c_fresh.g c_fresh.kp c_fresh.b .nil pass0 (pa_cons (pv 1) pa_nil)))), ?_⟩
    exact ⟨_, rfl, i, rfl, _, rfl, a, C, rfl, T, hno, .inl ⟨ha, fun d nd ne => q d nd ne⟩⟩
def sp_check_place (_ : PySem.W.Frag) : Sp := fun vs H Q _ => ∃ k : Nat, vs = [nV k] ∧ Q .non H
theorem ok_check_place {f : Addr} {fd : FuncData} (F : Fun K "_check_place" "_check_place" s_check_place f fd) {f_is_whole : Addr} {fd_is_whole : FuncData} (c_is_whole : Cal P w K mg base CX0 1 f_is_whole fd_is_whole "is_whole" ["thing"] (sp_is_whole K)) : FnOk P w K mg base CX0 2 f fd ["k"] (sp_check_place K) := by
  refine F.ok sc_check_place (fun vs H Q E h => ?_) (fun cdv A outer s H vs Q E hr h => ?_)
  · obtain ⟨_, rfl, _⟩ := h
    rfl
  · obtain ⟨k, rfl, q⟩ := h
    refine ⟨_, (pss_one (ps_if (PW.pt (pw_or (pt_not (pt_val (pe_call c_is_whole.G (hr.mono (by decide)) (by rfl) c_is_whole.g c_is_whole.kp c_is_whole.b .nil pass0 (pa_cons (pv 0) pa_nil)))) (pw_or1 (pt_cmpR op_lt (pv 0) pe_int (nomark _)))))
        (pss_one ps_never)
        pss_nil)), ?_⟩
    refine ⟨_, rfl, _, true, rfl, .inl ⟨_, rfl, rfl⟩, true, rfl, iteF ?_⟩
    refine ⟨_, rfl, _, _, rfl, rfl, _, rfl, ?_⟩
    rw [decide_eq_false (show ¬ (k : Int) < 0 by omega)]
    exact iteF q
def sp_letter (_ : PySem.W.Frag) : Sp := fun vs H Q _ => ∃ (b : Addr) (x y : List Nat) (k : Nat), vs = [.ref b, nV k] ∧ WordAt H b x y ∧ Q (.bl (decide (row x y k = 49))) H
theorem ok_letter {f : Addr} {fd : FuncData} (F : Fun K "letter" "letter" s_letter f fd) (m_len : mg "len" = none) {f_check_word : Addr} {fd_check_word : FuncData} (c_check_word : Cal P w K mg base CX0 3 f_check_word fd_check_word "_check_word" ["word"] (sp_check_word K)) {f_check_place : Addr} {fd_check_place : FuncData} (c_check_place : Cal P w K mg base CX0 2 f_check_place fd_check_place "_check_place" ["k"] (sp_check_place K)) : FnOk P w K mg base CX0 4 f fd ["word", "k"] (sp_letter K) := by
  refine F.ok sc_letter (fun vs H Q E h => ?_) (fun cdv A outer s H vs Q E hr h => ?_)
  · obtain ⟨_, _, _, _, rfl, _⟩ := h
    rfl
  · obtain ⟨b, x, y, k, rfl, hw, q⟩ := h
    have hw2 := hw
    obtain ⟨hb, k2, k3, k4, k5, k6⟩ := hw2
    have hz := szl
    have hlx := tx_len x
    have hly := tx_len y
    refine ⟨_, (pss_cons (ps_expr (pe_call c_check_word.G (hr.mono (by decide)) (by rfl) c_check_word.g c_check_word.kp c_check_word.b .nil pass0 (pa_cons (pv 0) pa_nil)))
      (pss_cons (ps_expr (pe_call c_check_place.G (hr.mono (by decide)) (by rfl) c_check_place.g c_check_place.kp c_check_place.b .nil pass0 (pa_cons (pv 1) pa_nil)))
      (pss_cons (ps_asg (pv 0) (pg_tup (by rfl) (pgs_cons (pg_name (i := 2) sc_letter.nd rfl (Or.inl rfl)) (pgs_cons (pg_name (i := 3) sc_letter.nd rfl (Or.inl rfl)) pgs_nil))))
      (pss_cons (ps_if (pt_cmpR op_lt (pv 1) (pe_callB call_len_str (by rfl) m_len PySem.boot_len (pa_cons (pv 2) pa_nil)) (nomark _))
        (pss_one (ps_ret (pe_cmpR op_eq (pe_ix ix_str (pv 2) (pv 1) (fun _ _ => rfl)) pe_str (nomark _))))
        pss_nil)
      (pss_one (ps_ret (pe_cmpR op_eq (pe_ix ix_str (pv 3) (pe_op op_mod (pe_op op_sub (pv 1) (pe_callB call_len_str (by rfl) m_len PySem.boot_len (pa_cons (pv 2) pa_nil))) (pe_callB call_len_str (by rfl) m_len PySem.boot_len (pa_cons (pv 3) pa_nil))) (fun _ _ => rfl)) pe_str (nomark _)))))))), ?_⟩
    refine ⟨_, rfl, b, x, y, rfl, hw, _, rfl, k, rfl, _, rfl, b, _, rfl, SqT.of hb, rfl, _, _, rfl, _, _, rfl, rfl, ?_⟩
    refine ⟨_, rfl, _, rfl, tx x, rfl, by omega, _, _, rfl, rfl, _, rfl, ite2 (fun e => ?_) (fun e => ?_)⟩
    · have hk : k < x.length := by
        have := of_decide_eq_true e
        omega
      refine ⟨_, rfl, _, rfl, tx x, (k : Int), x.getD k 0, rfl, rfl, by omega, sign_eq hk, rfl, ?_⟩
      rw [row_head hk] at q
      show Q (.bl (decide (V.str ⟨#[x.getD k 0]⟩ = V.str (tx [49])))) H
      rw [one_eq]
      exact q
    · have hk : x.length ≤ k := by
        have := of_decide_eq_false (Bool.eq_false_iff.mpr e)
        omega
      have hm := Nat.mod_lt (k - x.length) (show 0 < y.length by omega)
      refine ⟨_, rfl, _, rfl, _, rfl, tx x, rfl, by omega, _, _, rfl, rfl, _, rfl, tx y, rfl, by omega, _, _, rfl, rfl, ?_, tx y, (((k - x.length) % y.length : Nat) : Int), y.getD ((k - x.length) % y.length) 0, rfl, ?_, by omega, sign_eq hm, rfl, ?_⟩
      · show (0 : Int) < ((tx y).length : Int)
        omega
      · show V.int (((k : Int) - ((tx x).length : Int)) % ((tx y).length : Int)) = _
        rw [hlx, hly, show ((k : Int) - (x.length : Int)) = ((k - x.length : Nat) : Int) by omega]
        rfl
      · rw [row_again hk] at q
        show Q (.bl (decide (V.str ⟨#[y.getD ((k - x.length) % y.length) 0]⟩ = V.str (tx [49])))) H
        rw [one_eq]
        exact q
def sp_ones (_ : PySem.W.Frag) : Sp := fun vs H Q _ => ∃ (b : Addr) (x y : List Nat) (k : Nat), vs = [.ref b, nV k] ∧ WordAt H b x y ∧ ∀ H', Same H H' → Q (nV (cnt (row x y) k)) H'
theorem ok_ones {f : Addr} {fd : FuncData} (F : Fun K "ones" "ones" s_ones f fd) (m_divmod : mg "divmod" = none) (m_len : mg "len" = none) {f_check_word : Addr} {fd_check_word : FuncData} (c_check_word : Cal P w K mg base CX0 3 f_check_word fd_check_word "_check_word" ["word"] (sp_check_word K)) {f_check_place : Addr} {fd_check_place : FuncData} (c_check_place : Cal P w K mg base CX0 2 f_check_place fd_check_place "_check_place" ["k"] (sp_check_place K)) : FnOk P w K mg base CX0 4 f fd ["word", "k"] (sp_ones K) := by
  refine F.ok sc_ones (fun vs H Q E h => ?_) (fun cdv A outer s H vs Q E hr h => ?_)
  · obtain ⟨_, _, _, _, rfl, _⟩ := h
    rfl
  · obtain ⟨b, x, y, k, rfl, hw, q⟩ := h
    have hw2 := hw
    obtain ⟨hb, k2, k3, k4, k5, k6⟩ := hw2
    have hz := szl
    have hlx := tx_len x
    have hly := tx_len y
    refine ⟨_, (pss_cons (ps_expr (pe_call c_check_word.G (hr.mono (by decide)) (by rfl) c_check_word.g c_check_word.kp c_check_word.b .nil pass0 (pa_cons (pv 0) pa_nil)))
      (pss_cons (ps_expr (pe_call c_check_place.G (hr.mono (by decide)) (by rfl) c_check_place.g c_check_place.kp c_check_place.b .nil pass0 (pa_cons (pv 1) pa_nil)))
      (pss_cons (ps_asg (pv 0) (pg_tup (by rfl) (pgs_cons (pg_name (i := 2) sc_ones.nd rfl (Or.inl rfl)) (pgs_cons (pg_name (i := 3) sc_ones.nd rfl (Or.inl rfl)) pgs_nil))))
      (pss_cons (ps_if (pt_cmpR op_le (pv 1) (pe_callB call_len_str (by rfl) m_len PySem.boot_len (pa_cons (pv 2) pa_nil)) (nomark _))
        (pss_one (ps_ret (pe_bm PySem.F.plainAttrs_str PySem.F.slot_str_count PySem.F.type_str_count mt_count (pe_slice sl_str (pv 2) po_none (po_some (pv 1))) (pa_cons pe_str pa_nil))))
        pss_nil)
      (pss_cons (ps_asg (pe_callB call_divmod (by rfl) m_divmod (by decide +kernel) (pa_cons (pe_op op_sub (pv 1) (pe_callB call_len_str (by rfl) m_len PySem.boot_len (pa_cons (pv 2) pa_nil))) (pa_cons (pe_callB call_len_str (by rfl) m_len PySem.boot_len (pa_cons (pv 3) pa_nil)) pa_nil))) (pg_tup (by rfl) (pgs_cons (pg_name (i := 4) sc_ones.nd rfl (Or.inl rfl)) (pgs_cons (pg_name (i := 5) sc_ones.nd rfl (Or.inl rfl)) pgs_nil))))
      (pss_one (ps_ret (pe_op op_add (pe_op op_add (pe_bm PySem.F.plainAttrs_str PySem.F.slot_str_count PySem.F.type_str_count mt_count (pv 2) (pa_cons pe_str pa_nil)) (pe_op op_mul (pv 4) (pe_bm PySem.F.plainAttrs_str PySem.F.slot_str_count PySem.F.type_str_count mt_count (pv 3) (pa_cons pe_str pa_nil)))) (pe_bm PySem.F.plainAttrs_str PySem.F.slot_str_count PySem.F.type_str_count mt_count (pe_slice sl_str (pv 3) po_none (po_some (pv 5))) (pa_cons pe_str pa_nil)))))))))), ?_⟩
    refine ⟨_, rfl, b, x, y, rfl, hw, _, rfl, k, rfl, _, rfl, b, _, rfl, SqT.of hb, rfl, _, _, rfl, _, _, rfl, rfl, ?_⟩
    refine ⟨_, rfl, _, rfl, tx x, rfl, by omega, _, _, rfl, rfl, _, rfl, ite2 (fun e => ?_) (fun e => ?_)⟩
    · have hk : k ≤ x.length := by
        have := of_decide_eq_true e
        omega
      have h0 := q H (Same.refl H)
      rw [cnt_head hk] at h0
      refine ⟨_, rfl, _, rfl, _, rfl, tx x, rfl, by omega, rfl, _, "1", rfl, rfl, ?_⟩
      show Q (.int (Txt.count (cutS (tx x) none (some (k : Int))) (tx [49]))) H
      rw [cut_0n, count_tx]
      exact h0
    · have hk : x.length ≤ k := by
        have := of_decide_eq_false (Bool.eq_false_iff.mpr e)
        omega
      refine ⟨_, rfl, _, rfl, tx x, rfl, by omega, _, _, rfl, rfl, _, rfl, tx y, rfl, by omega, _, _, rfl, ⟨?_, ?_⟩, fun t nt => ?_⟩
      · show (0 : Int) < ((tx y).length : Int)
        omega
      · show ((tx y).length : Int) < 1073741824
        omega
      have hm := Nat.mod_lt (k - x.length) (show 0 < y.length by omega)
      refine ⟨t, _, rfl, SqT.of upd_same, rfl, _, _, rfl, _, _, rfl, rfl, ?_⟩
      have h0 := q (upd H t (.tup [.int (((k : Int) - ((tx x).length : Int)) / ((tx y).length : Int)), .int (((k : Int) - ((tx x).length : Int)) % ((tx y).length : Int))])) (same_upd nt)
      rw [cnt_far (by omega) hk] at h0
      have hc : y.count 49 ≤ y.length := List.count_le_length
      refine ⟨_, rfl, rfl, tx x, "1", rfl, rfl, _, rfl, _, rfl, rfl, tx y, "1", rfl, rfl, _, _, rfl, rfl, .inr ?_, _, _, rfl, rfl, ?_⟩
      · show -(2 ^ 64) < Txt.count (tx y) (tx [49]) ∧ Txt.count (tx y) (tx [49]) < 2 ^ 64
        rw [count_tx]
        omega
      refine ⟨_, rfl, _, rfl, _, rfl, tx y, rfl, by omega, rfl, _, "1", rfl, rfl, _, _, rfl, rfl, ?_⟩
      show Q (.int (Txt.count (tx x) (tx [49]) + (((k : Int) - ((tx x).length : Int)) / ((tx y).length : Int)) * Txt.count (tx y) (tx [49]) + Txt.count (cutS (tx y) none (some (((k : Int) - ((tx x).length : Int)) % ((tx y).length : Int)))) (tx [49]))) _
      have e1 : ((k : Int) - ((tx x).length : Int)) % ((tx y).length : Int) = (((k - x.length) % y.length : Nat) : Int) := by
        rw [hlx, hly, show ((k : Int) - (x.length : Int)) = ((k - x.length : Nat) : Int) by omega]
        rfl
      have e2 : ((k : Int) - ((tx x).length : Int)) / ((tx y).length : Int) = (((k - x.length) / y.length : Nat) : Int) := by
        rw [hlx, hly, show ((k : Int) - (x.length : Int)) = ((k - x.length : Nat) : Int) by omega]
        rfl
      rw [e1, e2] at h0
      rw [e1, e2, cut_0n, count_tx, count_tx, count_tx, ← Int.natCast_mul, ← Int.natCast_add, ← Int.natCast_add]
      exact h0
def sp_place_in (_ : PySem.W.Frag) : Sp := fun vs H Q _ => ∃ (l : List Nat) (k : Nat), vs = [.str (tx l), nV k] ∧ l.length ≤ 20000 ∧ k < l.count 49 ∧ ∀ p, At1 l k p → Q (nV p) H
theorem ok_place_in {f : Addr} {fd : FuncData} (F : Fun K "_place_in" "_place_in" s_place_in f fd) (m_range : mg "range" = none) : FnOk P w K mg base CX0 1 f fd ["text", "k"] (sp_place_in K) := by
  refine F.ok sc_place_in (fun vs H Q E h => ?_) (fun cdv A outer s H vs Q E hr h => ?_)
  · obtain ⟨_, _, rfl, _⟩ := h
    rfl
  · obtain ⟨l, k, rfl, h1, h2, q⟩ := h
    have hc : l.count 49 ≤ l.length := List.count_le_length
    refine ⟨_, (pss_cons (ps_set (i := 2) sc_place_in.nd rfl (Or.inl rfl) (pe_un un_neg pe_int))
      (pss_cons (ps_for PassesOwn.never rfl (pi_range1 (by rfl) m_range (pa_cons (pe_op op_add (pv 1) pe_int) pa_nil)) (pg_name (i := 3) sc_place_in.nd rfl (Or.inl rfl))
        (pss_one (ps_set (i := 2) sc_place_in.nd rfl (Or.inl rfl) (pe_bm PySem.F.plainAttrs_str PySem.F.slot_str_find PySem.F.type_str_find mt_find3 (pv 0) (pa_cons pe_str (pa_cons (pe_op op_add (pv 2) pe_int) pa_nil))))))
      (pss_one (ps_ret (pv 2))))), ?_⟩
    refine ⟨1, rfl, ?_⟩
    refine ⟨_, rfl, _, _, rfl, rfl, _, rfl, ?_, ?_, ?_⟩
    · show -(2 ^ 62) ≤ ((k : Int) + 1)
      omega
    · show ((k : Int) + 1) < 2 ^ 62
      omega
    have en : ((k : Int) + 1).toNat = k + 1 := by omega
    show _
    rw [en]
    refine for_range (n := k + 1) (fun i σ H' => H' = H ∧ ∃ (lo : Nat) (y : Option V), σ = [some (.str (tx l)), some (nV k), some (.int ((lo : Int) - 1)), y] ∧ lo ≤ l.length ∧ (l.take lo).count 49 = i ∧ (0 < i → At1 l (i - 1) (lo - 1) ∧ 0 < lo))
      ⟨rfl, 0, none, rfl, Nat.zero_le _, rfl, fun z => by omega⟩ (fun i σ H' hi hP => ?_) (fun σ H' hP => ?_)
    · obtain ⟨rfl, lo, y, rfl, g1, g2, g3⟩ := hP
      obtain ⟨p, p1, p2, p3⟩ := at1_next g1 g2 (show i < l.count 49 by omega)
      refine ⟨_, rfl, rfl, _, rfl, _, _, rfl, rfl, tx l, "1", _, rfl, rfl, rfl, p + 1, some (.int ((0 : Int) + (i : Int))), ?_, p2.1, at1_succ p2, fun _ => ⟨?_, by omega⟩⟩
      · show [_, _, some (V.int (Txt.find3 (tx l) (tx [49]) (((lo : Int) - 1) + 1))), some (V.int ((0 : Int) + (i : Int)))] = [_, _, some (V.int (((p + 1 : Nat) : Int) - 1)), some (V.int ((0 : Int) + (i : Int)))]
        rw [show (((lo : Int) - 1) + 1) = (lo : Int) by omega, find_next p1 p2.1 p2.2.1 p3, show (((p + 1 : Nat) : Int) - 1) = (p : Int) by omega]
      · rw [show i + 1 - 1 = i by omega, show p + 1 - 1 = p by omega]
        exact p2
    · obtain ⟨rfl, lo, y, rfl, g1, g2, g3⟩ := hP
      obtain ⟨g4, g5⟩ := g3 (by omega)
      refine ⟨_, rfl, ?_⟩
      show Q (.int ((lo : Int) - 1)) H'
      rw [show ((lo : Int) - 1) = ((lo - 1 : Nat) : Int) by omega]
      rw [show k + 1 - 1 = k by omega] at g4
      exact q _ g4
end
end WK
namespace WK
open PySem PySem.Spec PyProof.Rows L2
theorem upd_del {H : Hp} {a d : Addr} {o o' o'' u : HO} (na : H a = none) (ne : d ≠ a) : upd (del (upd (upd (upd H a o) d o') a o'') a) d u = upd H d u := by
  funext b
  by_cases h1 : b = d
  · subst h1
    rw [upd_same, upd_same]
  · rw [upd_ne h1, upd_ne h1]
    by_cases h2 : b = a
    · subst h2
      rw [del_same, na]
    · rw [del_ne h2, upd_ne h2, upd_ne h1, upd_ne h2]
theorem at1_ex {l : List Nat} {k : Nat} (h : k < l.count 49) : ∃ p, At1 l k p := by
  obtain ⟨p, _, hp, _⟩ := at1_next (l := l) (lo := 0) (k := 0) (Nat.zero_le _) rfl (by omega)
  have main : ∀ j, j < l.count 49 → ∃ p, At1 l j p := by
    intro j
    induction j with
    | zero => exact fun _ => ⟨p, hp⟩
    | succ j ih =>
      intro hj
      obtain ⟨p', A⟩ := ih (by omega)
      obtain ⟨r, _, B, _⟩ := at1_next (lo := p' + 1) (by have := A.1; omega) (at1_succ A) hj
      exact ⟨r, B⟩
  exact main k h
section
variable {P : Program} {w : World} {K : PySem.W.Frag} {mg : Str → Option Value} {base : Heap}
def sp_place_of (K : PySem.W.Frag) : Sp := fun vs H Q E => ∃ (b : Addr) (x y : List Nat) (k : Nat), vs = [.ref b, nV k] ∧ WordAt H b x y ∧ (∀ p H', Same H H' → Place (row x y) k p → Q (nV p) H') ∧
  ((∀ p, ¬ Place (row x y) k p) → ∀ C d, PySem.W.nsIn K mainGlobals "NoPlace" = some (some (.ref C)) → H d = none → E (.ref C) (some d) (upd H d (.xd [("place", nV k)])))
theorem ok_place_of {f : Addr} {fd : FuncData} (F : Fun K "place_of" "place_of" s_place_of f fd) (m_divmod : mg "divmod" = none) (m_len : mg "len" = none) {f_check_word : Addr} {fd_check_word : FuncData} (c_check_word : Cal P w K mg base CX0 3 f_check_word fd_check_word "_check_word" ["word"] (sp_check_word K)) {f_check_place : Addr} {fd_check_place : FuncData} (c_check_place : Cal P w K mg base CX0 2 f_check_place fd_check_place "_check_place" ["k"] (sp_check_place K)) {f_place_in : Addr} {fd_place_in : FuncData} (c_place_in : Cal P w K mg base CX0 1 f_place_in fd_place_in "_place_in" ["text", "k"] (sp_place_in K)) {C_NoPlace f_NoPlacei : Addr} {fd_NoPlacei : FuncData} (x_NoPlace : XCal P w K mg base 2 "NoPlace" C_NoPlace f_NoPlacei fd_NoPlacei ["self", "place"] ["place"] (sp_NoPlace_init K)) : FnOk P w K mg base (L2.CX P w) 4 f fd ["word", "k"] (sp_place_of K) := by
  refine F.okX sc_place_of (fun vs H Q E h => ?_) (fun cdv A outer s H vs Q E hr h => ?_)
  · obtain ⟨_, _, _, _, rfl, _⟩ := h
    rfl
  · obtain ⟨b, x, y, k, rfl, hw, q, qe⟩ := h
    have hw2 := hw
    obtain ⟨hb, k2, k3, k4, k5, k6⟩ := hw2
    have hz := szl
    have hlx := tx_len x
    have hly := tx_len y
    refine ⟨_, (pss_cons (ps_expr (pe_call c_check_word.G (hr.mono (by decide)) (by rfl) c_check_word.g c_check_word.kp c_check_word.b .nil pass0 (pa_cons (pv 0) pa_nil)))
      (pss_cons (ps_expr (pe_call c_check_place.G (hr.mono (by decide)) (by rfl) c_check_place.g c_check_place.kp c_check_place.b .nil pass0 (pa_cons (pv 1) pa_nil)))
      (pss_cons (ps_asg (pv 0) (pg_tup (by rfl) (pgs_cons (pg_name (i := 2) sc_place_of.nd rfl (Or.inl rfl)) (pgs_cons (pg_name (i := 3) sc_place_of.nd rfl (Or.inl rfl)) pgs_nil))))
      (pss_cons (ps_set (i := 4) sc_place_of.nd rfl (Or.inl rfl) (pe_bm PySem.F.plainAttrs_str PySem.F.slot_str_count PySem.F.type_str_count mt_count (pv 2) (pa_cons pe_str pa_nil)))
      (pss_cons (ps_if (pt_cmpR op_lt (pv 1) (pv 4) (nomark _))
        (pss_one (ps_ret (pe_call c_place_in.G (hr.mono (by decide)) (by rfl) c_place_in.g c_place_in.kp c_place_in.b .nil pass0 (pa_cons (pv 2) (pa_cons (pv 1) pa_nil)))))
        pss_nil)
      (pss_cons (ps_set (i := 5) sc_place_of.nd rfl (Or.inl rfl) (pe_bm PySem.F.plainAttrs_str PySem.F.slot_str_count PySem.F.type_str_count mt_count (pv 3) (pa_cons pe_str pa_nil)))
      (pss_cons (ps_if (pt_cmpR op_eq (pv 5) pe_int (nomark _))
        (pss_one (ps_raise rfl (takes_of rfl rfl rfl rfl) (pmk_oex x_NoPlace.T x_NoPlace.iC x_NoPlace.tI x_NoPlace.G (hr.mono (by decide)) x_NoPlace.b .nil pass0 (by rfl) x_NoPlace.g (pa_cons (pv 1) pa_nil))))
        pss_nil)
      (pss_cons (ps_asg (pe_callB call_divmod (by rfl) m_divmod (by decide +kernel) (pa_cons (pe_op op_sub (pv 1) (pv 4)) (pa_cons (pv 5) pa_nil))) (pg_tup (by rfl) (pgs_cons (pg_name (i := 6) sc_place_of.nd rfl (Or.inl rfl)) (pgs_cons (pg_name (i := 7) sc_place_of.nd rfl (Or.inl rfl)) pgs_nil))))
      (pss_one (ps_ret (pe_op op_add (pe_op op_add (pe_callB call_len_str (by rfl) m_len PySem.boot_len (pa_cons (pv 2) pa_nil)) (pe_op op_mul (pv 6) (pe_callB call_len_str (by rfl) m_len PySem.boot_len (pa_cons (pv 3) pa_nil)))) (pe_call c_place_in.G (hr.mono (by decide)) (by rfl) c_place_in.g c_place_in.kp c_place_in.b .nil pass0 (pa_cons (pv 3) (pa_cons (pv 7) pa_nil)))))))))))))), ?_⟩
    refine ⟨_, rfl, b, x, y, rfl, hw, _, rfl, k, rfl, _, rfl, b, _, rfl, SqT.of hb, rfl, _, _, rfl, _, _, rfl, rfl, ?_⟩
    have hcx : x.count 49 ≤ x.length := List.count_le_length
    have hcy : y.count 49 ≤ y.length := List.count_le_length
    refine ⟨_, rfl, rfl, tx x, "1", rfl, rfl, ?_⟩
    have ec := count_tx x
    refine ⟨_, rfl, _, rfl, _, _, rfl, rfl, _, rfl, ite2 (fun e => ?_) (fun e => ?_)⟩
    · have hk : k < x.count 49 := by
        have h1 : ((k : Int) < Txt.count (tx x) (tx [49])) := of_decide_eq_true e
        rw [ec] at h1
        omega
      exact ⟨_, rfl, _, rfl, x, k, rfl, k4, hk, fun p A => q p H (Same.refl H) (place_head A)⟩
    · have hk : x.count 49 ≤ k := by
        have h1 : ¬ ((k : Int) < Txt.count (tx x) (tx [49])) := of_decide_eq_false (Bool.eq_false_iff.mpr e)
        rw [ec] at h1
        omega
      have ey := count_tx y
      refine ⟨_, rfl, rfl, tx y, "1", rfl, rfl, _, rfl, rfl, _, rfl, ite2 (fun e => ?_) (fun e => ?_)⟩
      · have h0 : y.count 49 = 0 := by
          have h1 : V.int (Txt.count (tx y) (tx [49])) = V.int 0 := of_decide_eq_true e
          rw [ey] at h1
          have := V.int.inj h1
          omega
        refine ⟨_, rfl, (by show 1 ≤ 1000; decide), fun a na => ⟨a, _, k, rfl, x_NoPlace.T, x_NoPlace.no _ List.mem_cons_self, upd_same, fun d nd ne => ⟨rfl, d, [("place", nV k)], upd_same, ?_, ?_, ?_⟩⟩⟩
        · rw [upd_ne ne, upd_same]
          rfl
        · rw [upd_ne ne] at nd
          exact nd
        · rw [upd_del na ne]
          rw [upd_ne ne] at nd
          exact qe (fun p hp => no_place (by omega) h0 hk hp) _ d x_NoPlace.a nd
      · have h0 : 0 < y.count 49 := by
          by_cases hh : y.count 49 = 0
          · refine absurd (decide_eq_true ?_) e
            show V.int (Txt.count (tx y) (tx [49])) = V.int 0
            rw [ey, hh]
            rfl
          · omega
        have hm := Nat.mod_lt (k - x.count 49) h0
        refine ⟨_, rfl, _, rfl, _, _, rfl, rfl, _, rfl, _, _, rfl, ⟨?_, ?_⟩, fun t nt => ?_⟩
        · show (0 : Int) < Txt.count (tx y) (tx [49])
          rw [ey]
          omega
        · show Txt.count (tx y) (tx [49]) < 1073741824
          rw [ey]
          omega
        refine ⟨t, _, rfl, SqT.of upd_same, rfl, _, _, rfl, _, _, rfl, rfl, ?_⟩
        have e1 : ((k : Int) - Txt.count (tx x) (tx [49])) % Txt.count (tx y) (tx [49]) = (((k - x.count 49) % y.count 49 : Nat) : Int) := by
          rw [ec, ey, show ((k : Int) - ((x.count 49 : Nat) : Int)) = ((k - x.count 49 : Nat) : Int) by omega]
          rfl
        have e2 : ((k : Int) - Txt.count (tx x) (tx [49])) / Txt.count (tx y) (tx [49]) = (((k - x.count 49) / y.count 49 : Nat) : Int) := by
          rw [ec, ey, show ((k : Int) - ((x.count 49 : Nat) : Int)) = ((k - x.count 49 : Nat) : Int) by omega]
          rfl
        refine ⟨_, rfl, tx x, rfl, by omega, _, rfl, _, rfl, tx y, rfl, by omega, _, _, rfl, rfl, .inr ?_, _, _, rfl, rfl, _, rfl, _, rfl, y, (k - x.count 49) % y.count 49, ?_, k6, hm, fun p A => ?_⟩
        · show -(2 ^ 64) < ((tx y).length : Int) ∧ ((tx y).length : Int) < 2 ^ 64
          omega
        · show [V.str (tx y), V.int (((k : Int) - Txt.count (tx x) (tx [49])) % Txt.count (tx y) (tx [49]))] = _
          rw [e1]
          rfl
        · refine ⟨_, _, rfl, rfl, ?_⟩
          show Q (.int (((tx x).length : Int) + (((k : Int) - Txt.count (tx x) (tx [49])) / Txt.count (tx y) (tx [49])) * ((tx y).length : Int) + (p : Int))) _
          have hp := place_again (h := x) (q := (k - x.count 49) / y.count 49) (show 0 < y.length by omega) A
          have hdm := Nat.div_add_mod (k - x.count 49) (y.count 49)
          rw [show x.count 49 + (k - x.count 49) / y.count 49 * y.count 49 + (k - x.count 49) % y.count 49 = k by rw [Nat.mul_comm]; omega] at hp
          have ev : ((tx x).length : Int) + (((k : Int) - Txt.count (tx x) (tx [49])) / Txt.count (tx y) (tx [49])) * ((tx y).length : Int) + (p : Int) = ((x.length + (k - x.count 49) / y.count 49 * y.length + p : Nat) : Int) := by
            rw [e2, hlx, hly, ← Int.natCast_mul, ← Int.natCast_add, ← Int.natCast_add]
          rw [ev]
          exact q _ _ (same_upd nt) hp
end
end WK
namespace WK
open PySem PySem.Spec PyProof.Rows L2
abbrev s_law_whole : Stmt := topS 22
theorem sc_law_whole : FnScope ["_law_found"] ["_law_found"] (defScope s_law_whole) := ⟨rfl, rfl, rfl, by decide +kernel, rfl, by decide +kernel, by decide +kernel⟩
abbrev s_law_near : Stmt := topS 23
theorem sc_law_near : FnScope ["_law_word_here", "_law_signs_here", "_law_seen", "_law_k", "_law_told", "_law_place"] ["_law_word_here"] (defScope s_law_near) := ⟨rfl, rfl, rfl, by decide +kernel, rfl, by decide +kernel, by decide +kernel⟩
abbrev s_law_refused : Stmt := topS 24
theorem sc_law_refused : FnScope ["_law_word_here", "_law_k", "_law_caught", "e"] ["_law_word_here", "_law_k"] (defScope s_law_refused) := ⟨rfl, rfl, rfl, by decide +kernel, rfl, by decide +kernel, by decide +kernel⟩
theorem WordAt.mono {H H' : Hp} {b : Addr} {x y : List Nat} (s : Same H H') (h : WordAt H b x y) : WordAt H' b x y := ⟨s _ _ h.1, h.2⟩
section
variable {P : Program} {w : World} {K : PySem.W.Frag} {mg : Str → Option Value} {base : Heap}
def sp_law_whole (_ : PySem.W.Frag) : Sp := fun vs H Q _ => ∃ i : Int, vs = [.int i] ∧ Q (.bl true) H
theorem ok_law_whole {f : Addr} {fd : FuncData} (F : Fun K "_law_whole" "_law_whole" s_law_whole f fd) (m_bool : mg "bool" = none) (m_int : mg "int" = none) (m_isinstance : mg "isinstance" = none) : FnOk P w K mg base CX0 1 f fd ["_law_found"] (sp_law_whole K) := by
  refine F.ok sc_law_whole (fun vs H Q E h => ?_) (fun cdv A outer s H vs Q E hr h => ?_)
  · obtain ⟨_, rfl, _⟩ := h
    rfl
  · obtain ⟨i, rfl, q⟩ := h
    refine ⟨_, (pss_one (ps_ret (pe_and (pe_callB call_isi (by rfl) m_isinstance (by decide +kernel) (pa_cons (pv 0) (pa_cons (pe_bltn (v := .ty "int") (by rfl) m_int (by decide +kernel) rfl) pa_nil))) (pe_one (pe_not (pe_callB call_isi (by rfl) m_isinstance (by decide +kernel) (pa_cons (pv 0) (pa_cons (pe_bltn (v := .ty "bool") (by rfl) m_bool (by decide +kernel) rfl) pa_nil)))))))), ?_⟩
    exact ⟨_, rfl, _, .ty "int", .type "int", .type "int", true, rfl, .ty "int", .base (.int _), kit_ty (by decide +kernel), true, rfl, iteT ⟨_, rfl, _, .ty "bool", .type "int", .type "bool", false, rfl, .ty "bool", .base (.int _), kit_ty (by decide +kernel), false, rfl, q⟩⟩
def sp_law_near (_ : PySem.W.Frag) : Sp := fun vs H Q _ => ∃ (b : Addr) (x y : List Nat), vs = [.ref b] ∧ WordAt H b x y ∧ ∀ H', Same H H' → Q (.bl true) H'
theorem ok_law_near {f : Addr} {fd : FuncData} (F : Fun K "_law_near" "_law_near" s_law_near f fd) (m_range : mg "range" = none) {f_law_text : Addr} {fd_law_text : FuncData} (c_law_text : Cal P w K mg base CX0 1 f_law_text fd_law_text "_law_text" ["_law_word_here", "_law_many"] (sp_law_text K)) {f_ones : Addr} {fd_ones : FuncData} (c_ones : Cal P w K mg base CX0 4 f_ones fd_ones "ones" ["word", "k"] (sp_ones K)) {f_law_whole : Addr} {fd_law_whole : FuncData} (c_law_whole : Cal P w K mg base CX0 1 f_law_whole fd_law_whole "_law_whole" ["_law_found"] (sp_law_whole K)) {f_letter : Addr} {fd_letter : FuncData} (c_letter : Cal P w K mg base CX0 4 f_letter fd_letter "letter" ["word", "k"] (sp_letter K)) {f_place_of : Addr} {fd_place_of : FuncData} (c_place_of : Cal P w K mg base (L2.CX P w) 4 f_place_of fd_place_of "place_of" ["word", "k"] (sp_place_of K)) : FnOk P w K mg base CX0 5 f fd ["_law_word_here"] (sp_law_near K) := by
  refine F.ok sc_law_near (fun vs H Q E h => ?_) (fun cdv A outer s H vs Q E hr h => ?_)
  · obtain ⟨_, _, _, rfl, _⟩ := h
    rfl
  · obtain ⟨b, x, y, rfl, hw, q⟩ := h
    have hw2 := hw
    obtain ⟨hb, k2, k3, k4, k5, k6⟩ := hw2
    have hz := szl
    refine ⟨_, (pss_cons (ps_set (i := 1) sc_law_near.nd rfl (Or.inl rfl) (pe_call c_law_text.G (hr.mono (by decide)) (by rfl) c_law_text.g c_law_text.kp c_law_text.b .nil pass0 (pa_cons (pv 0) (pa_cons pe_int pa_nil))))
      (pss_cons (ps_set (i := 2) sc_law_near.nd rfl (Or.inl rfl) pe_int)
      (pss_cons (ps_for PassesOwn.never rfl (pi_range1 (by rfl) m_range (pa_cons pe_int pa_nil)) (pg_name (i := 3) sc_law_near.nd rfl (Or.inl rfl))
        (pss_cons (ps_set (i := 4) sc_law_near.nd rfl (Or.inl rfl) (pe_call c_ones.G (hr.mono (by decide)) (by rfl) c_ones.g c_ones.kp c_ones.b .nil pass0 (pa_cons (pv 0) (pa_cons (pv 3) pa_nil))))
        (C8.pss_cut (ps_if (PW.pt (pw_or (pt_not (pt_val (pe_call c_law_whole.G (hr.mono (by decide)) (by rfl) c_law_whole.g c_law_whole.kp c_law_whole.b .nil pass0 (pa_cons (pv 4) pa_nil)))) (pw_or (pt_cmpR op_ne (pv 4) (pv 2) (nomark _)) (pw_or1 (pt_cmpR op_ne (pe_call c_letter.G (hr.mono (by decide)) (by rfl) c_letter.g c_letter.kp c_letter.b .nil pass0 (pa_cons (pv 0) (pa_cons (pv 3) pa_nil))) (pe_cmpR op_eq (pe_ix ix_str (pv 1) (pv 3) (fun _ _ => rfl)) pe_str (nomark _)) (nomark _))))))
          (pss_one (ps_ret pe_bl))
          pss_nil)
        (pss_one (ps_if (pt_cmpR op_eq (pe_ix ix_str (pv 1) (pv 3) (fun _ _ => rfl)) pe_str (nomark _))
          (pss_cons (ps_set (i := 5) sc_law_near.nd rfl (Or.inl rfl) (pe_call c_place_of.G (hr.mono (by decide)) (by rfl) c_place_of.g c_place_of.kp c_place_of.b .nil passL (pa_cons (pv 0) (pa_cons (pv 2) pa_nil))))
          (C8.pss_cut (ps_if (PW.pt (pw_or (pt_not (pt_val (pe_call c_law_whole.G (hr.mono (by decide)) (by rfl) c_law_whole.g c_law_whole.kp c_law_whole.b .nil pass0 (pa_cons (pv 5) pa_nil)))) (pw_or1 (pt_cmpR op_ne (pv 5) (pv 3) (nomark _)))))
            (pss_one (ps_ret pe_bl))
            pss_nil)
          (pss_one (ps_set (i := 2) sc_law_near.nd rfl (Or.inl rfl) (pe_op op_add (pv 2) pe_int)))))
          pss_nil)))))
      (pss_one (ps_ret pe_bl))))), ?_⟩
    refine ⟨_, rfl, b, x, y, 300, rfl, hb, by omega, by omega, by omega, by decide, fun t T => ?_⟩
    have hT := T.1
    have hlt := tx_len t
    refine ⟨60, rfl, by decide, by decide, ?_⟩
    refine for_range (n := 60) (fun i σ H' => Same H H' ∧ ∃ y3 y4 y5, σ = [some (.ref b), some (.str (tx t)), some (nV (cnt (row x y) i)), y3, y4, y5]) ⟨Same.refl _, _, _, _, rfl⟩ (fun i σ H1 hi hP => ?_) (fun σ H' hP => ?_)
    · obtain ⟨s1, y3, y4, y5, rfl⟩ := hP
      have ei : ((0 : Int) + (i : Int)) = (i : Int) := Int.zero_add _
      refine ⟨_, rfl, _, rfl, b, x, y, i, ?_, hw.mono s1, fun H2 s2 => ?_⟩
      · show [V.ref b, V.int ((0 : Int) + (i : Int))] = _
        rw [ei]
        rfl
      have sn : atI (tx t).cps.toList ((0 : Int) + (i : Int)) = some (row x y i) := by
        rw [ei, sign_eq (by omega), T.2 i (by omega)]
      refine ⟨fun σ H' => H' = H2 ∧ ∃ y5, σ = [some (.ref b), some (.str (tx t)), some (nV (cnt (row x y) i)), some (.int ((0 : Int) + (i : Int))), some (nV (cnt (row x y) i)), y5], ?_, fun σ H' hm => ?_⟩
      · refine ⟨_, rfl, _, rfl, true, rfl, iteF ?_⟩
        refine ⟨_, rfl, _, rfl, rfl, false, ?_, iteF ?_⟩
        · rw [decide_eq_true rfl]
          rfl
        refine ⟨_, rfl, _, rfl, b, x, y, i, ?_, hw.mono (s1.trans s2), ?_⟩
        · show [V.ref b, V.int ((0 : Int) + (i : Int))] = _
          rw [ei]
          rfl
        refine ⟨_, rfl, _, rfl, tx t, _, row x y i, rfl, rfl, by omega, sn, rfl, rfl, false, ?_, iteF ⟨rfl, _, rfl⟩⟩
        show V.bl (!decide (V.bl (decide (row x y i = 49)) = V.bl (decide (V.str ⟨#[row x y i]⟩ = V.str (tx [49]))))) = V.bl false
        rw [one_eq, decide_eq_true rfl]
        rfl
      obtain ⟨rfl, y5, rfl⟩ := hm
      refine ⟨_, rfl, _, rfl, tx t, _, row x y i, rfl, rfl, by omega, sn, rfl, _, rfl, ?_⟩
      show if decide (V.str ⟨#[row x y i]⟩ = V.str (tx [49])) = true then _ else _
      rw [one_eq]
      refine ite2 (fun e => ?_) (fun e => ?_)
      · have e1 : row x y i = 49 := of_decide_eq_true e
        refine ⟨_, rfl, _, rfl, b, x, y, cnt (row x y) i, rfl, hw.mono (s1.trans s2), fun p H3 s3 hp => ?_, fun hno => absurd ⟨e1, rfl⟩ (hno i)⟩
        have ep : p = i := place_uniq hp.1 e1 hp.2
        subst ep
        refine ⟨fun σ H' => H' = H3 ∧ σ = [some (.ref b), some (.str (tx t)), some (nV (cnt (row x y) p)), some (.int ((0 : Int) + (p : Int))), some (nV (cnt (row x y) p)), some (nV p)], ?_, fun σ H' hm => ?_⟩
        · refine ⟨_, rfl, _, rfl, true, rfl, iteF ?_⟩
          refine ⟨_, rfl, _, rfl, rfl, false, ?_, iteF ⟨rfl, rfl⟩⟩
          show V.bl (!decide (V.int (p : Int) = V.int ((0 : Int) + (p : Int)))) = V.bl false
          rw [ei, decide_eq_true rfl]
          rfl
        obtain ⟨rfl, rfl⟩ := hm
        refine ⟨_, rfl, _, _, rfl, rfl, s1.trans (s2.trans s3), some (.int ((0 : Int) + (p : Int))), some (nV (cnt (row x y) p)), some (nV p), ?_⟩
        rw [show cnt (row x y) (p + 1) = cnt (row x y) p + 1 from congrArg (cnt (row x y) p + ·) (if_pos e1)]
        rfl
      · have e1 : row x y i ≠ 49 := of_decide_eq_false (Bool.eq_false_iff.mpr e)
        refine ⟨s1.trans s2, some (.int ((0 : Int) + (i : Int))), some (nV (cnt (row x y) i)), y5, ?_⟩
        rw [show cnt (row x y) (i + 1) = cnt (row x y) i from congrArg (cnt (row x y) i + ·) (if_neg e1)]
    · obtain ⟨s1, y3, y4, y5, rfl⟩ := hP
      exact q _ s1
def sp_law_refused (_ : PySem.W.Frag) : Sp := fun vs H Q _ => ∃ (b : Addr) (x y : List Nat) (k : Nat), vs = [.ref b, nV k] ∧ WordAt H b x y ∧ (∀ p, ¬ Place (row x y) k p) ∧ ∀ H', Same H H' → Q (.bl true) H'
theorem ok_law_refused {f : Addr} {fd : FuncData} (F : Fun K "_law_refused" "_law_refused" s_law_refused f fd) (m_ValueError : mg "ValueError" = none) (m_isinstance : mg "isinstance" = none) {f_place_of : Addr} {fd_place_of : FuncData} (c_place_of : Cal P w K mg base (L2.CX P w) 4 f_place_of fd_place_of "place_of" ["word", "k"] (sp_place_of K)) {C_LoomError : Addr} (e_LoomError : ECal K mg "LoomError" C_LoomError) {C_NoPlace : Addr} (e_NoPlace : ECal K mg "NoPlace" C_NoPlace) (n_NoPlace_place : PySem.W.findIn K (.ref C_NoPlace) "place" = some none) (u_NoPlace_LoomError : PySem.W.subIn K (.ref C_NoPlace) (.ref C_LoomError) = some true) : FnOk P w K mg base CX0 5 f fd ["_law_word_here", "_law_k"] (sp_law_refused K) := by
  refine F.ok sc_law_refused (fun vs H Q E h => ?_) (fun cdv A outer s H vs Q E hr h => ?_)
  · obtain ⟨_, _, _, _, rfl, _⟩ := h
    rfl
  · obtain ⟨b, x, y, k, rfl, hw, hno, q⟩ := h
    refine ⟨_, (pss_cons (ps_set (i := 2) sc_law_refused.nd rfl (Or.inl rfl) pe_non)
      (pss_cons (WX.ps_try_keep (i := 3) (j := 2) rfl rfl rfl sc_law_refused.nd rfl rfl rfl (Or.inl rfl) (Or.inl rfl) ⟨rfl, by decide, Or.inl e_LoomError.g⟩ rfl (Or.inl rfl) (by decide) (by decide) (fun W pn xe tk _ => 
        (pss_one (ps_expr (pe_callS c_place_of.G (hr.mono (by decide)) (by rfl) c_place_of.g c_place_of.kp c_place_of.b (fun σ => passAt tk σ) (pa_cons (pv 0) (pa_cons (pv 1) pa_nil)))))))
      (pss_one (ps_ret (pe_and (pe_callB WX.call_isX (by rfl) m_isinstance (by decide +kernel) (pa_cons (pv 2) (pa_cons (pe_glob (v := .ref C_NoPlace) (by rfl) e_NoPlace.g rfl) pa_nil))) (pe_and (pe_callB WX.call_isX (by rfl) m_isinstance (by decide +kernel) (pa_cons (pv 2) (pa_cons (pe_bltn (v := .ty "ValueError") (by rfl) m_ValueError (by decide +kernel) rfl) pa_nil))) (pe_one (pe_cmpR op_eq (WX.pe_xa (pv 2)) (pv 1) (nomark _))))))))), ?_⟩
    refine ⟨_, rfl, _, rfl, b, x, y, k, rfl, hw, fun p H' _ hp => absurd hp (hno p), fun _ C d hC nd => ?_⟩
    have eC : C = C_NoPlace := by
      have := hC.symm.trans e_NoPlace.a
      exact Value.ref.inj (Option.some.inj (Option.some.inj this))
    subst eC
    refine ⟨e_LoomError.exm u_NoPlace_LoomError, fun a na => ?_⟩
    have nda : d ≠ a := fun z => by
      rw [z, upd_same] at na
      cases na
    have na0 : H a = none := by
      rw [upd_ne (Ne.symm nda)] at na
      exact na
    have s1 : Same H (upd (upd H d (.xd [("place", nV k)])) a (WX.ExT a (.ref C) (some d))) := (same_upd nd).trans (same_upd na)
    have ha : (upd (upd H d (.xd [("place", nV k)])) a (WX.ExT a (.ref C) (some d))) a = some (WX.ExT a (.ref C) (some d)) := upd_same
    have hd : (upd (upd H d (.xd [("place", nV k)])) a (WX.ExT a (.ref C) (some d))) d = some (.xd [("place", nV k)]) := by
      rw [upd_ne nda, upd_same]
    refine ⟨_, rfl, a, C, some d, _, .ref C, true, rfl, ha, .inr ⟨d, _, rfl, hd⟩, e_NoPlace.E, .own C, ECal.self, true, rfl, iteT ?_⟩
    refine ⟨_, rfl, a, C, some d, _, .type "ValueError", true, rfl, ha, .inr ⟨d, _, rfl, hd⟩, e_NoPlace.E, .ty _, e_NoPlace.ve, true, rfl, iteT ?_⟩
    refine ⟨_, rfl, a, C, d, _, nV k, rfl, ha, hd, rfl, e_NoPlace.E, n_NoPlace_place, _, rfl, rfl, ?_⟩
    rw [decide_eq_true rfl]
    exact q _ s1
end
end WK
namespace WK
open PySem PySem.Spec PyProof.Rows L2
abbrev s_law_far : Stmt := topS 25
theorem sc_law_far : FnScope ["_law_word_here", "_law_k", "_law_rounds", "_law_size", "_law_each", "_law_further", "_law_seen"] ["_law_word_here", "_law_k", "_law_rounds"] (defScope s_law_far) := ⟨rfl, rfl, rfl, by decide +kernel, rfl, by decide +kernel, by decide +kernel⟩
abbrev s_law : Stmt := topS 26
theorem sc_law : FnScope ["_law_script", "_law_j", "_law_word_here", "_law_digits", "_law_rounds"] ["_law_script"] (defScope s_law) := ⟨rfl, rfl, rfl, by decide +kernel, rfl, by decide +kernel, by decide +kernel⟩
theorem place_ex {x y : List Nat} (hy : 0 < y.length) (h : 0 < y.count 49) (k : Nat) : ∃ p, Place (row x y) k p := by
  by_cases hk : k < x.count 49
  · obtain ⟨p, A⟩ := at1_ex hk
    exact ⟨p, place_head A⟩
  · have hm := Nat.mod_lt (k - x.count 49) h
    have hd := Nat.div_add_mod (k - x.count 49) (y.count 49)
    obtain ⟨p, A⟩ := at1_ex hm
    have := place_again (h := x) (q := (k - x.count 49) / y.count 49) hy A
    rw [show x.count 49 + (k - x.count 49) / y.count 49 * y.count 49 + (k - x.count 49) % y.count 49 = k by rw [Nat.mul_comm]; omega] at this
    exact ⟨_, this⟩
theorem cnt_further {x y : List Nat} (hy : 0 < y.length) (k r : Nat) : cnt (row x y) (k + x.length + r * y.length) = cnt (row x y) (k + x.length) + r * y.count 49 := by
  rw [cnt_far hy (by omega), cnt_far hy (by omega), show k + x.length + r * y.length - x.length = k + r * y.length by omega, Nat.add_sub_cancel, Nat.add_mul_mod_self_right, Nat.add_mul_div_right _ _ hy, Nat.add_mul]
  omega
theorem nV_of {z : Int} (h : 0 ≤ z) : ∃ r : Nat, V.int z = nV r := ⟨z.toNat, congrArg V.int (Int.toNat_of_nonneg h).symm⟩
section
variable {P : Program} {w : World} {K : PySem.W.Frag} {mg : Str → Option Value} {base : Heap}
def sp_law_far (_ : PySem.W.Frag) : Sp := fun vs H Q _ => ∃ (b : Addr) (x y : List Nat) (k r : Nat), vs = [.ref b, nV k, nV r] ∧ WordAt H b x y ∧ ∀ H', Same H H' → Q (.bl true) H'
theorem ok_law_far {f : Addr} {fd : FuncData} (F : Fun K "_law_far" "_law_far" s_law_far f fd) (m_bool : mg "bool" = none) (m_isinstance : mg "isinstance" = none) (m_len : mg "len" = none) {f_letter : Addr} {fd_letter : FuncData} (c_letter : Cal P w K mg base CX0 4 f_letter fd_letter "letter" ["word", "k"] (sp_letter K)) {f_ones : Addr} {fd_ones : FuncData} (c_ones : Cal P w K mg base CX0 4 f_ones fd_ones "ones" ["word", "k"] (sp_ones K)) {f_place_of : Addr} {fd_place_of : FuncData} (c_place_of : Cal P w K mg base (L2.CX P w) 4 f_place_of fd_place_of "place_of" ["word", "k"] (sp_place_of K)) {f_law_refused : Addr} {fd_law_refused : FuncData} (c_law_refused : Cal P w K mg base CX0 5 f_law_refused fd_law_refused "_law_refused" ["_law_word_here", "_law_k"] (sp_law_refused K)) : FnOk P w K mg base CX0 6 f fd ["_law_word_here", "_law_k", "_law_rounds"] (sp_law_far K) := by
  refine F.ok sc_law_far (fun vs H Q E h => ?_) (fun cdv A outer s H vs Q E hr h => ?_)
  · obtain ⟨_, _, _, _, _, rfl, _⟩ := h
    rfl
  · obtain ⟨b, x, y, k, r, rfl, hw, q⟩ := h
    have hw2 := hw
    obtain ⟨hb, k2, k3, k4, k5, k6⟩ := hw2
    have hz := szl
    have hlx := tx_len x
    have hly := tx_len y
    have hy : 0 < y.length := k5
    have hcy : y.count 49 ≤ y.length := List.count_le_length
    have ec := count_tx y
    refine ⟨_, (pss_cons (ps_set (i := 3) sc_law_far.nd rfl (Or.inl rfl) (pe_callB call_len_str (by rfl) m_len PySem.boot_len (pa_cons (pe_ix ix_tup (pv 0) pe_int (fun _ _ => rfl)) pa_nil)))
      (pss_cons (ps_set (i := 4) sc_law_far.nd rfl (Or.inl rfl) (pe_bm PySem.F.plainAttrs_str PySem.F.slot_str_count PySem.F.type_str_count mt_count (pe_ix ix_tup (pv 0) pe_int (fun _ _ => rfl)) (pa_cons pe_str pa_nil)))
      (pss_cons (ps_set (i := 1) sc_law_far.nd rfl (Or.inl rfl) (pe_op op_add (pv 1) (pe_callB call_len_str (by rfl) m_len PySem.boot_len (pa_cons (pe_ix ix_tup (pv 0) pe_int (fun _ _ => rfl)) pa_nil))))
      (pss_cons (ps_set (i := 5) sc_law_far.nd rfl (Or.inl rfl) (pe_op op_add (pv 1) (pe_op op_mul (pv 2) (pv 3))))
      (pss_cons (ps_if (PW.pt (pw_or (pt_not (pt_val (pe_callB call_isi (by rfl) m_isinstance (by decide +kernel) (pa_cons (pe_call c_letter.G (hr.mono (by decide)) (by rfl) c_letter.g c_letter.kp c_letter.b .nil pass0 (pa_cons (pv 0) (pa_cons (pv 1) pa_nil))) (pa_cons (pe_bltn (v := .ty "bool") (by rfl) m_bool (by decide +kernel) rfl) pa_nil))))) (pw_or1 (pt_cmpR op_ne (pe_call c_letter.G (hr.mono (by decide)) (by rfl) c_letter.g c_letter.kp c_letter.b .nil pass0 (pa_cons (pv 0) (pa_cons (pv 5) pa_nil))) (pe_call c_letter.G (hr.mono (by decide)) (by rfl) c_letter.g c_letter.kp c_letter.b .nil pass0 (pa_cons (pv 0) (pa_cons (pv 1) pa_nil))) (nomark _)))))
        (pss_one (ps_ret pe_bl))
        pss_nil)
      (pss_cons (ps_if (pt_cmpR op_ne (pe_call c_ones.G (hr.mono (by decide)) (by rfl) c_ones.g c_ones.kp c_ones.b .nil pass0 (pa_cons (pv 0) (pa_cons (pv 5) pa_nil))) (pe_op op_add (pe_call c_ones.G (hr.mono (by decide)) (by rfl) c_ones.g c_ones.kp c_ones.b .nil pass0 (pa_cons (pv 0) (pa_cons (pv 1) pa_nil))) (pe_op op_mul (pv 2) (pv 4))) (nomark _))
        (pss_one (ps_ret pe_bl))
        pss_nil)
      (pss_cons (ps_set (i := 6) sc_law_far.nd rfl (Or.inl rfl) (pe_call c_ones.G (hr.mono (by decide)) (by rfl) c_ones.g c_ones.kp c_ones.b .nil pass0 (pa_cons (pv 0) (pa_cons (pv 5) pa_nil))))
      (pss_cons (ps_if (pt_val (pe_call c_letter.G (hr.mono (by decide)) (by rfl) c_letter.g c_letter.kp c_letter.b .nil pass0 (pa_cons (pv 0) (pa_cons (pv 5) pa_nil))))
        (pss_one (ps_ret (pe_and (pe_cmpR op_eq (pe_call c_place_of.G (hr.mono (by decide)) (by rfl) c_place_of.g c_place_of.kp c_place_of.b .nil passL (pa_cons (pv 0) (pa_cons (pv 6) pa_nil))) (pv 5) (nomark _)) (pe_one (pe_cmpR op_eq (pe_call c_ones.G (hr.mono (by decide)) (by rfl) c_ones.g c_ones.kp c_ones.b .nil pass0 (pa_cons (pv 0) (pa_cons (pe_op op_add (pv 5) pe_int) pa_nil))) (pe_op op_add (pv 6) pe_int) (nomark _))))))
        pss_nil)
      (pss_cons (ps_if (pt_cmpR op_gt (pv 4) pe_int (nomark _))
        (pss_one (ps_ret (pe_and (pe_cmpR op_gt (pe_call c_place_of.G (hr.mono (by decide)) (by rfl) c_place_of.g c_place_of.kp c_place_of.b .nil passL (pa_cons (pv 0) (pa_cons (pv 6) pa_nil))) (pv 5) (nomark _)) (pe_one (pe_cmpR op_eq (pe_call c_ones.G (hr.mono (by decide)) (by rfl) c_ones.g c_ones.kp c_ones.b .nil pass0 (pa_cons (pv 0) (pa_cons (pe_call c_place_of.G (hr.mono (by decide)) (by rfl) c_place_of.g c_place_of.kp c_place_of.b .nil passL (pa_cons (pv 0) (pa_cons (pv 6) pa_nil))) pa_nil))) (pv 6) (nomark _))))))
        pss_nil)
      (pss_one (ps_ret (pe_and (pe_call c_law_refused.G (hr.mono (by decide)) (by rfl) c_law_refused.g c_law_refused.kp c_law_refused.b .nil pass0 (pa_cons (pv 0) (pa_cons (pv 6) pa_nil))) (pe_one (pe_call c_law_refused.G (hr.mono (by decide)) (by rfl) c_law_refused.g c_law_refused.kp c_law_refused.b .nil pass0 (pa_cons (pv 0) (pa_cons (pe_op op_add (pv 6) (pv 2)) pa_nil)))))))))))))))), ?_⟩
    refine ⟨_, rfl, b, _, 1, _, rfl, rfl, SqT.of hb, atI_nat (j := 1) rfl, tx y, rfl, by omega, ?_⟩
    refine ⟨_, rfl, b, _, 1, _, rfl, rfl, SqT.of hb, atI_nat (j := 1) rfl, rfl, tx y, "1", rfl, rfl, ?_⟩
    refine ⟨_, rfl, _, rfl, b, _, 0, _, rfl, rfl, SqT.of hb, atI_nat (j := 0) rfl, tx x, rfl, by omega, _, _, rfl, rfl, ?_⟩
    refine ⟨_, rfl, _, rfl, _, rfl, _, _, rfl, rfl, .inr ?_, _, _, rfl, rfl, ?_⟩
    · show -(2 ^ 64) < ((tx y).length : Int) ∧ ((tx y).length : Int) < 2 ^ 64
      omega
    have ek : V.int ((k : Int) + ((tx x).length : Int)) = nV (k + x.length) := by
      rw [hlx]
      rfl
    have ef : V.int ((k : Int) + ((tx x).length : Int) + (r : Int) * ((tx y).length : Int)) = nV (k + x.length + r * y.length) := by
      rw [hlx, hly]
      rfl
    have per : row x y (k + x.length + r * y.length) = row x y (k + x.length) := (row_per hy).mul r (k + x.length) (by omega)
    refine ⟨_, rfl, _, rfl, b, x, y, k + x.length, congrArg (fun z => [V.ref b, z]) ek, hw, _, .ty "bool", .type "bool", .type "bool", true, rfl, .ty "bool", .base (.bl _), kit_ty (by decide +kernel), true, rfl, iteF ?_⟩
    refine ⟨_, rfl, _, rfl, b, x, y, k + x.length + r * y.length, congrArg (fun z => [V.ref b, z]) ef, hw, _, rfl, _, rfl, b, x, y, k + x.length, congrArg (fun z => [V.ref b, z]) ek, hw, rfl, false, ?_, iteF ?_⟩
    · rw [per, decide_eq_true rfl]
      rfl
    refine ⟨_, rfl, _, rfl, b, x, y, k + x.length + r * y.length, congrArg (fun z => [V.ref b, z]) ef, hw, fun H1 s1 => ?_⟩
    refine ⟨_, rfl, _, rfl, b, x, y, k + x.length, congrArg (fun z => [V.ref b, z]) ek, hw.mono s1, fun H2 s2 => ?_⟩
    have w2 := hw.mono (s1.trans s2)
    refine ⟨_, rfl, _, rfl, _, _, rfl, rfl, .inr ?_, _, _, rfl, rfl, rfl, false, ?_, iteF ?_⟩
    · show -(2 ^ 64) < Txt.count (tx y) (tx [49]) ∧ Txt.count (tx y) (tx [49]) < 2 ^ 64
      rw [ec]
      omega
    · show V.bl (!decide (V.int ((cnt (row x y) (k + x.length + r * y.length) : Nat) : Int) = V.int (((cnt (row x y) (k + x.length) : Nat) : Int) + (r : Int) * Txt.count (tx y) (tx [49])))) = V.bl false
      rw [ec, cnt_further hy, ← Int.natCast_mul, ← Int.natCast_add, decide_eq_true rfl]
      rfl
    refine ⟨_, rfl, _, rfl, b, x, y, k + x.length + r * y.length, congrArg (fun z => [V.ref b, z]) ef, w2, fun H3 s3 => ?_⟩
    have w3 := w2.mono s3
    have s03 := s1.trans (s2.trans s3)
    refine ⟨_, rfl, _, rfl, b, x, y, k + x.length + r * y.length, congrArg (fun z => [V.ref b, z]) ef, w3, _, rfl, ite2 (fun e => ?_) (fun e => ?_)⟩
    · have e1 : row x y (k + x.length + r * y.length) = 49 := of_decide_eq_true e
      refine ⟨_, rfl, _, rfl, b, x, y, cnt (row x y) (k + x.length + r * y.length), rfl, w3, fun p H4 s4 hp => ?_, fun hno => absurd ⟨e1, rfl⟩ (hno _)⟩
      have ep : p = k + x.length + r * y.length := place_uniq hp.1 e1 hp.2
      refine ⟨_, rfl, rfl, true, ?_, iteT ?_⟩
      · rw [ep]
        show V.bl (decide (nV (k + x.length + r * y.length) = V.int ((k : Int) + ((tx x).length : Int) + (r : Int) * ((tx y).length : Int)))) = V.bl true
        rw [ef, decide_eq_true rfl]
      refine ⟨_, rfl, _, rfl, _, _, rfl, rfl, b, x, y, k + x.length + r * y.length + 1, ?_, w3.mono s4, fun H5 s5 => ?_⟩
      · have := congrArg (fun z => [V.ref b, z]) ef
        show [V.ref b, V.int ((k : Int) + ((tx x).length : Int) + (r : Int) * ((tx y).length : Int) + 1)] = _
        rw [hlx, hly]
        rfl
      refine ⟨_, rfl, _, _, rfl, rfl, rfl, ?_⟩
      show Q (.bl (decide (V.int ((cnt (row x y) (k + x.length + r * y.length + 1) : Nat) : Int) = V.int (((cnt (row x y) (k + x.length + r * y.length) : Nat) : Int) + 1)))) H5
      rw [show cnt (row x y) (k + x.length + r * y.length + 1) = cnt (row x y) (k + x.length + r * y.length) + 1 from congrArg (cnt (row x y) (k + x.length + r * y.length) + ·) (if_pos e1), decide_eq_true (show V.int ((cnt (row x y) (k + x.length + r * y.length) + 1 : Nat) : Int) = V.int (((cnt (row x y) (k + x.length + r * y.length) : Nat) : Int) + 1) from rfl)]
      exact q _ (s03.trans (s4.trans s5))
    · have e1 : row x y (k + x.length + r * y.length) ≠ 49 := of_decide_eq_false (Bool.eq_false_iff.mpr e)
      refine ⟨_, rfl, _, _, rfl, rfl, _, rfl, ite2 (fun e2 => ?_) (fun e2 => ?_)⟩
      · have h0 : 0 < y.count 49 := by
          have h1 : (0 : Int) < Txt.count (tx y) (tx [49]) := of_decide_eq_true e2
          rw [ec] at h1
          omega
        obtain ⟨p0, hp0⟩ := place_ex (x := x) hy h0 (cnt (row x y) (k + x.length + r * y.length))
        have gt : ∀ p, Place (row x y) (cnt (row x y) (k + x.length + r * y.length)) p → k + x.length + r * y.length < p := fun p hp => by
          rcases Nat.lt_trichotomy p (k + x.length + r * y.length) with h | h | h
          · have := cnt_lt h hp.1
            have := hp.2
            omega
          · rw [h] at hp
            exact absurd hp.1 e1
          · exact h
        refine ⟨_, rfl, _, rfl, b, x, y, cnt (row x y) (k + x.length + r * y.length), rfl, w3, fun p H4 s4 hp => ?_, fun hno => absurd hp0 (hno _)⟩
        refine ⟨_, rfl, _, _, rfl, rfl, true, ?_, iteT ?_⟩
        · have := gt p hp
          show V.bl (decide ((k : Int) + ((tx x).length : Int) + (r : Int) * ((tx y).length : Int) < (p : Int))) = V.bl true
          rw [V.int.inj ef, decide_eq_true (by omega)]
        refine ⟨_, rfl, _, rfl, _, rfl, b, x, y, cnt (row x y) (k + x.length + r * y.length), rfl, w3.mono s4, fun p' H5 s5 hp' => ?_, fun hno => absurd hp0 (hno _)⟩
        refine ⟨b, x, y, p', rfl, (w3.mono s4).mono s5, fun H6 s6 => ?_⟩
        refine ⟨_, rfl, rfl, ?_⟩
        rw [hp'.2, decide_eq_true rfl]
        exact q _ (s03.trans (s4.trans (s5.trans s6)))
      · have h0 : y.count 49 = 0 := by
          have h1 : ¬ (0 : Int) < Txt.count (tx y) (tx [49]) := of_decide_eq_false (Bool.eq_false_iff.mpr e2)
          rw [ec] at h1
          omega
        have hge : x.count 49 ≤ cnt (row x y) (k + x.length + r * y.length) := by
          rw [cnt_far hy (by omega)]
          omega
        refine ⟨_, rfl, _, rfl, b, x, y, cnt (row x y) (k + x.length + r * y.length), rfl, w3, fun p => no_place hy h0 hge, fun H4 s4 => ⟨true, rfl, iteT ?_⟩⟩
        refine ⟨_, rfl, _, rfl, _, rfl, _, _, rfl, rfl, b, x, y, cnt (row x y) (k + x.length + r * y.length) + r, rfl, w3.mono s4, fun p => no_place hy h0 (by omega), fun H5 s5 => ?_⟩
        exact q _ (s03.trans (s4.trans s5))
def sp_law (K : PySem.W.Frag) : Sp := fun vs H Q _ => ∃ (a : Addr) (ns : List Int), vs = [.ref a] ∧ SqL K H a (ns.map V.int) ∧ ns.length ≤ 63 ∧ ∀ H', Q (.bl true) H'
theorem ok_law {f : Addr} {fd : FuncData} (F : Fun K "law" "law" s_law f fd) (m_range : mg "range" = none) {f_law_word : Addr} {fd_law_word : FuncData} (c_law_word : Cal P w K mg base CX0 2 f_law_word fd_law_word "_law_word" ["_law_script", "_law_j"] (sp_law_word K)) {f_law_draws : Addr} {fd_law_draws : FuncData} (c_law_draws : Cal P w K mg base CX0 1 f_law_draws fd_law_draws "_law_draws" ["_law_script", "_law_j", "_law_many"] (sp_law_draws K)) {f_law_near : Addr} {fd_law_near : FuncData} (c_law_near : Cal P w K mg base CX0 5 f_law_near fd_law_near "_law_near" ["_law_word_here"] (sp_law_near K)) {f_law_far : Addr} {fd_law_far : FuncData} (c_law_far : Cal P w K mg base CX0 6 f_law_far fd_law_far "_law_far" ["_law_word_here", "_law_k", "_law_rounds"] (sp_law_far K)) : FnOk P w K mg base CX0 7 f fd ["_law_script"] (sp_law K) := by
  refine F.ok sc_law (fun vs H Q E h => ?_) (fun cdv A outer s H vs Q E hr h => ?_)
  · obtain ⟨_, _, rfl, _⟩ := h
    rfl
  · obtain ⟨a, ns, rfl, hS, h1, q⟩ := h
    have hz := szl
    refine ⟨_, (pss_cons (ps_for PassesOwn.never rfl (pi_range1 (by rfl) m_range (pa_cons pe_int pa_nil)) (pg_name (i := 1) sc_law.nd rfl (Or.inl rfl))
        (pss_cons (ps_set (i := 2) sc_law.nd rfl (Or.inl rfl) (pe_call c_law_word.G (hr.mono (by decide)) (by rfl) c_law_word.g c_law_word.kp c_law_word.b .nil pass0 (pa_cons (pv 0) (pa_cons (pv 1) pa_nil))))
        (pss_cons (ps_set (i := 3) sc_law.nd rfl (Or.inl rfl) (pe_call c_law_draws.G (hr.mono (by decide)) (by rfl) c_law_draws.g c_law_draws.kp c_law_draws.b .nil pass0 (pa_cons (pv 0) (pa_cons (pe_op op_add (pv 1) pe_int) (pa_cons pe_int pa_nil)))))
        (pss_cons (ps_if (pt_not (pt_val (pe_call c_law_near.G (hr.mono (by decide)) (by rfl) c_law_near.g c_law_near.kp c_law_near.b .nil pass0 (pa_cons (pv 2) pa_nil))))
          (pss_one (ps_ret pe_bl))
          pss_nil)
        (pss_one (ps_for PassesOwn.never rfl (pi_list (pe_lst (pa_cons pe_int (pa_cons (pe_ix ix_list (pv 3) pe_int (fun _ _ => rfl)) (pa_cons (pe_op op_add (pe_op op_mul (pe_ix ix_list (pv 3) pe_int (fun _ _ => rfl)) (pe_op op_powB pe_int pe_int)) (pe_ix ix_list (pv 3) pe_int (fun _ _ => rfl))) (pa_cons (pe_op op_powB pe_int pe_int) pa_nil)))))) (pg_name (i := 4) sc_law.nd rfl (Or.inl rfl))
          (pss_one (ps_if (pt_not (pt_val (pe_call c_law_far.G (hr.mono (by decide)) (by rfl) c_law_far.g c_law_far.kp c_law_far.b .nil pass0 (pa_cons (pv 2) (pa_cons (pe_op op_mod (pe_ix ix_list (pv 3) pe_int (fun _ _ => rfl)) pe_int) (pa_cons (pv 4) pa_nil))))))
            (pss_one (ps_ret pe_bl))
            pss_nil))))))))
      (pss_one (ps_ret pe_bl))), ?_⟩
    refine ⟨6, rfl, by decide, by decide, ?_⟩
    refine for_range (n := 6) (fun i σ H' => Same H H' ∧ ∃ y1 y2 y3 y4, σ = [some (.ref a), y1, y2, y3, y4]) ⟨Same.refl _, _, _, _, _, rfl⟩ (fun i σ H0 hi hP => ?_) (fun σ H' hP => ?_)
    · obtain ⟨s0, y1, y2, y3, y4, rfl⟩ := hP
      refine ⟨_, rfl, _, rfl, a, ns, i, ?_, s0.seq hS, by omega, by omega, fun b x y H1 s1 nb hb bx byy lx ly1 ly2 => ?_⟩
      · show [V.ref a, V.int ((0 : Int) + (i : Int))] = [V.ref a, V.int (i : Int)]
        rw [Int.zero_add]
      have hS1 : SqL K H1 a (ns.map V.int) := (s0.trans s1).seq hS
      have hw : WordAt H1 b x y := ⟨hb, bx, byy, by omega, by omega, by omega⟩
      refine ⟨_, rfl, _, rfl, _, _, rfl, rfl, a, ns, i + 10, 4, ?_, hS1, by omega, by omega, by decide, fun p ds np hl hd => ?_⟩
      · show [V.ref a, V.int ((0 : Int) + (i : Int) + 10), V.int 4] = [V.ref a, V.int ((i + 10 : Nat) : Int), V.int ((4 : Nat) : Int)]
        rw [Int.zero_add]
        rfl
      have s2 : Same H1 (upd H1 p (.lst (ds.map nV))) := same_upd np
      have hp2 : (upd H1 p (.lst (ds.map nV))) p = some (.lst (ds.map nV)) := upd_same
      refine ⟨_, rfl, b, x, y, rfl, hw.mono s2, fun H3 s3 => ⟨true, rfl, iteF ?_⟩⟩
      have hp3 := same_at s3 hp2
      have d1 : ds.getD 1 0 < 1000000000 := hd _ (getD_mem (by omega))
      refine ⟨_, rfl, p, _, 0, _, rfl, rfl, SqL.of hp3, atI_nat (j := 0) (nV_at (by omega)), ?_⟩
      refine ⟨_, rfl, p, _, 1, _, rfl, rfl, SqL.of hp3, atI_nat (j := 1) (nV_at (by omega)), _, _, rfl, rfl, ⟨by decide, by decide +kernel⟩, _, _, rfl, rfl, .inl ⟨?_, ?_⟩, ?_⟩
      · show -(2 ^ 64) < ((ds.getD 1 0 : Nat) : Int)
        omega
      · show ((ds.getD 1 0 : Nat) : Int) < 2 ^ 64
        omega
      refine ⟨_, rfl, p, _, 2, _, rfl, rfl, SqL.of hp3, atI_nat (j := 2) (nV_at (by omega)), _, _, rfl, rfl, _, _, rfl, rfl, ⟨by decide, by decide +kernel⟩, by show 4 ≤ sizeLine; decide, fun l nl => ?_⟩
      have all : ∀ v ∈ [V.int 1, nV (ds.getD 0 0), V.int (((ds.getD 1 0 : Nat) : Int) * (10 : Int) ^ (10 : Int).toNat + ((ds.getD 2 0 : Nat) : Int)), V.int ((10 : Int) ^ (28 : Int).toNat)], ∃ r : Nat, v = nV r := by
        intro v hv
        simp only [List.mem_cons, List.not_mem_nil, or_false] at hv
        rcases hv with rfl | rfl | rfl | rfl
        · exact ⟨1, rfl⟩
        · exact ⟨_, rfl⟩
        · refine nV_of ?_
          have h10 : (0 : Int) ≤ (10 : Int) ^ (10 : Int).toNat := Int.pow_nonneg (by decide)
          have := Int.mul_nonneg (Int.natCast_nonneg (ds.getD 1 0)) h10
          omega
        · exact nV_of (Int.pow_nonneg (by decide))
      have s4 := same_upd (o := .lst [V.int 1, nV (ds.getD 0 0), V.int (((ds.getD 1 0 : Nat) : Int) * (10 : Int) ^ (10 : Int).toNat + ((ds.getD 2 0 : Nat) : Int)), V.int ((10 : Int) ^ (28 : Int).toNat)]) nl
      refine ⟨l, rfl, ⟨_, SqL.of upd_same⟩, ?_⟩
      have hL : (upd H3 l (.lst [V.int 1, nV (ds.getD 0 0), V.int (((ds.getD 1 0 : Nat) : Int) * (10 : Int) ^ (10 : Int).toNat + ((ds.getD 2 0 : Nat) : Int)), V.int ((10 : Int) ^ (28 : Int).toNat)])) l = some (.lst [V.int 1, nV (ds.getD 0 0), V.int (((ds.getD 1 0 : Nat) : Int) * (10 : Int) ^ (10 : Int).toNat + ((ds.getD 2 0 : Nat) : Int)), V.int ((10 : Int) ^ (28 : Int).toNat)]) := upd_same
      have s14 : Same H1 (upd H3 l (.lst [V.int 1, nV (ds.getD 0 0), V.int (((ds.getD 1 0 : Nat) : Int) * (10 : Int) ^ (10 : Int).toNat + ((ds.getD 2 0 : Nat) : Int)), V.int ((10 : Int) ^ (28 : Int).toNat)])) := s2.trans (s3.trans s4)
      have hp4 := same_at s4 hp3
      generalize (upd H3 l (.lst [V.int 1, nV (ds.getD 0 0), V.int (((ds.getD 1 0 : Nat) : Int) * (10 : Int) ^ (10 : Int).toNat + ((ds.getD 2 0 : Nat) : Int)), V.int ((10 : Int) ^ (28 : Int).toNat)])) = HL at *
      refine for_list (K := K) (a := l) (fun i' σ H' => Same HL H' ∧ ∃ y4, σ = [some (.ref a), some (.int ((0 : Int) + (i : Int))), some (.ref b), some (.ref p), y4]) ⟨Same.refl _, _, rfl⟩ (fun i' σ H' _ hP => SqL.of (hP.1 _ _ hL)) (fun i' v σ H' hv hP => ?_) (fun σ H' hP => ?_)
      · obtain ⟨sm, y4, rfl⟩ := hP
        obtain ⟨r, rfl⟩ := all v (List.mem_of_getElem? hv)
        refine ⟨_, rfl, _, rfl, p, _, 3, _, rfl, rfl, SqL.of (sm _ _ hp4), atI_nat (j := 3) (nV_at (by omega)), _, _, rfl, rfl, (by show (0 : Int) < _; decide), _, rfl, b, x, y, ds.getD 3 0 % 30, r, rfl, hw.mono (s14.trans sm), fun H5 s5 => ⟨true, rfl, iteF ⟨sm.trans s5, _, rfl⟩⟩⟩
      · obtain ⟨sm, y4, rfl⟩ := hP
        exact ⟨s0.trans (s1.trans (s14.trans sm)), _, _, _, _, rfl⟩
    · exact q _
end
end WK
namespace WK
open PySem PySem.Spec PyProof.Rows L2
theorem all_mk {l : PySem.W.OpenLaw} {w : World} {K : PySem.W.Frag} {h : Heap} {mg : Str → Option Value} {fa : Addr} (X : K.In h) (G : h.Ns mainGlobals mg) (hfa : mg "law" = some (.ref fa))
    {C_LoomError : Addr} (aC_LoomError : PySem.W.nsIn K mainGlobals "LoomError" = some (some (.ref C_LoomError))) (hg_LoomError : PySem.W.findIn K (.ref C_LoomError) "__getattribute__" = some (some (.builtin "BaseException.__getattribute__"))) (hk_LoomError : PySem.W.findIn K (.ref C_LoomError) "__getattr__" = some none) (hd_LoomError : PySem.W.hasDictIn K C_LoomError = true) (ha_LoomError : PySem.W.findIn K (.ref C_LoomError) "__class__" = some (some (.builtin "object.__class__"))) (hm_LoomError : PySem.W.mroIn K C_LoomError (.type "object") = some true) (ve_LoomError : PySem.W.subIn K (.ref C_LoomError) (.type "ValueError") = some true) (hs_LoomError : PySem.W.subIn K (.ref C_LoomError) (.type "BaseException") = some true) (ty_LoomError : PySem.W.typeIn K (.ref C_LoomError) = some (.type "type"))
    {C_NoPlace : Addr} (aC_NoPlace : PySem.W.nsIn K mainGlobals "NoPlace" = some (some (.ref C_NoPlace))) (hg_NoPlace : PySem.W.findIn K (.ref C_NoPlace) "__getattribute__" = some (some (.builtin "BaseException.__getattribute__"))) (hk_NoPlace : PySem.W.findIn K (.ref C_NoPlace) "__getattr__" = some none) (hd_NoPlace : PySem.W.hasDictIn K C_NoPlace = true) (ha_NoPlace : PySem.W.findIn K (.ref C_NoPlace) "__class__" = some (some (.builtin "object.__class__"))) (hm_NoPlace : PySem.W.mroIn K C_NoPlace (.type "object") = some true) (ve_NoPlace : PySem.W.subIn K (.ref C_NoPlace) (.type "ValueError") = some true) (hs_NoPlace : PySem.W.subIn K (.ref C_NoPlace) (.type "BaseException") = some true) (ty_NoPlace : PySem.W.typeIn K (.ref C_NoPlace) = some (.type "type")) (kC_NoPlace : PySem.W.keepIn K (.ref C_NoPlace) = true) {nm_NoPlace q_NoPlace : Str} {N_NoPlace : Addr} {bs_NoPlace bm_NoPlace : List Value} {sn_NoPlace : List Str} {sub_NoPlace : List Value} {ab_NoPlace : Bool} {col_NoPlace : Option Bool} {dd_NoPlace : Option Addr} {m0_NoPlace m1_NoPlace m2_NoPlace m3_NoPlace m5_NoPlace : Option Value} (xL_NoPlace : K.lookup C_NoPlace = some (excClassObj nm_NoPlace q_NoPlace C_NoPlace N_NoPlace bs_NoPlace bm_NoPlace true sn_NoPlace sub_NoPlace ab_NoPlace col_NoPlace dd_NoPlace m0_NoPlace m1_NoPlace m2_NoPlace m3_NoPlace m5_NoPlace "ValueError.__new__")) (xb_NoPlace : PySem.HandSPX.refsVE bm_NoPlace = true) (sa_NoPlace : PySem.W.findIn K (.ref C_NoPlace) "__setattr__" = some (some (.builtin "object.__setattr__")))
    (oc_n : PySem.W.specialIn K (.builtin "object.__class__") "__get__" = some (some (.builtin "getset_descriptor.__get__"))) (oc_t : PySem.W.takesIn K (.builtin "object.__class__") = some true)
    {f0 : Addr} {od0 an0 : Option Addr} {sl0 : Array (Option Value)} {oc0 kV0 dc0 pm0 cd0 ct0 : Value}
    (a0 : PySem.W.nsIn K mainGlobals "is_whole" = some (some (.ref f0))) (l0 : K.lookup f0 = some ⟨oc0, od0, .func (PySem.W.fnOf "is_whole" "is_whole" (defArgs s_is_whole) (defBody s_is_whole) (defScope s_is_whole) .none kV0 dc0 pm0 an0 cd0 ct0), sl0⟩) (e0 : PySem.W.codeIn K cd0 "is_whole" = true) (k0 : PySem.W.keepIn K (.ref f0) = true)
    {f1 : Addr} {od1 an1 : Option Addr} {sl1 : Array (Option Value)} {oc1 kV1 dc1 pm1 cd1 ct1 : Value}
    (a1 : PySem.W.nsIn K mainGlobals "is_signs" = some (some (.ref f1))) (l1 : K.lookup f1 = some ⟨oc1, od1, .func (PySem.W.fnOf "is_signs" "is_signs" (defArgs s_is_signs) (defBody s_is_signs) (defScope s_is_signs) .none kV1 dc1 pm1 an1 cd1 ct1), sl1⟩) (e1 : PySem.W.codeIn K cd1 "is_signs" = true) (k1 : PySem.W.keepIn K (.ref f1) = true)
    {f2 : Addr} {od2 an2 : Option Addr} {sl2 : Array (Option Value)} {oc2 kV2 dc2 pm2 cd2 ct2 : Value}
    (a2 : PySem.W.nsIn K mainGlobals "fresh" = some (some (.ref f2))) (l2 : K.lookup f2 = some ⟨oc2, od2, .func (PySem.W.fnOf "fresh" "fresh" (defArgs s_fresh) (defBody s_fresh) (defScope s_fresh) .none kV2 dc2 pm2 an2 cd2 ct2), sl2⟩) (e2 : PySem.W.codeIn K cd2 "fresh" = true) (k2 : PySem.W.keepIn K (.ref f2) = true)
    {f4 : Addr} {od4 an4 : Option Addr} {sl4 : Array (Option Value)} {oc4 kV4 dc4 pm4 cd4 ct4 : Value}
    (a4 : PySem.W.nsIn K mainGlobals "is_word" = some (some (.ref f4))) (l4 : K.lookup f4 = some ⟨oc4, od4, .func (PySem.W.fnOf "is_word" "is_word" (defArgs s_is_word) (defBody s_is_word) (defScope s_is_word) .none kV4 dc4 pm4 an4 cd4 ct4), sl4⟩) (e4 : PySem.W.codeIn K cd4 "is_word" = true) (k4 : PySem.W.keepIn K (.ref f4) = true)
    {f5 : Addr} {od5 an5 : Option Addr} {sl5 : Array (Option Value)} {oc5 kV5 dc5 pm5 cd5 ct5 : Value}
    (a5 : PySem.W.nsIn K mainGlobals "_check_word" = some (some (.ref f5))) (l5 : K.lookup f5 = some ⟨oc5, od5, .func (PySem.W.fnOf "_check_word" "_check_word" (defArgs s_check_word) (defBody s_check_word) (defScope s_check_word) .none kV5 dc5 pm5 an5 cd5 ct5), sl5⟩) (e5 : PySem.W.codeIn K cd5 "_check_word" = true) (k5 : PySem.W.keepIn K (.ref f5) = true)
    {f6 : Addr} {od6 an6 : Option Addr} {sl6 : Array (Option Value)} {oc6 kV6 dc6 pm6 cd6 ct6 : Value}
    (a6 : PySem.W.nsIn K mainGlobals "_check_place" = some (some (.ref f6))) (l6 : K.lookup f6 = some ⟨oc6, od6, .func (PySem.W.fnOf "_check_place" "_check_place" (defArgs s_check_place) (defBody s_check_place) (defScope s_check_place) .none kV6 dc6 pm6 an6 cd6 ct6), sl6⟩) (e6 : PySem.W.codeIn K cd6 "_check_place" = true) (k6 : PySem.W.keepIn K (.ref f6) = true)
    {f7 : Addr} {od7 an7 : Option Addr} {sl7 : Array (Option Value)} {oc7 kV7 dc7 pm7 cd7 ct7 : Value}
    (a7 : PySem.W.nsIn K mainGlobals "letter" = some (some (.ref f7))) (l7 : K.lookup f7 = some ⟨oc7, od7, .func (PySem.W.fnOf "letter" "letter" (defArgs s_letter) (defBody s_letter) (defScope s_letter) .none kV7 dc7 pm7 an7 cd7 ct7), sl7⟩) (e7 : PySem.W.codeIn K cd7 "letter" = true) (k7 : PySem.W.keepIn K (.ref f7) = true)
    {f8 : Addr} {od8 an8 : Option Addr} {sl8 : Array (Option Value)} {oc8 kV8 dc8 pm8 cd8 ct8 : Value}
    (a8 : PySem.W.nsIn K mainGlobals "ones" = some (some (.ref f8))) (l8 : K.lookup f8 = some ⟨oc8, od8, .func (PySem.W.fnOf "ones" "ones" (defArgs s_ones) (defBody s_ones) (defScope s_ones) .none kV8 dc8 pm8 an8 cd8 ct8), sl8⟩) (e8 : PySem.W.codeIn K cd8 "ones" = true) (k8 : PySem.W.keepIn K (.ref f8) = true)
    {f9 : Addr} {od9 an9 : Option Addr} {sl9 : Array (Option Value)} {oc9 kV9 dc9 pm9 cd9 ct9 : Value}
    (a9 : PySem.W.nsIn K mainGlobals "_place_in" = some (some (.ref f9))) (l9 : K.lookup f9 = some ⟨oc9, od9, .func (PySem.W.fnOf "_place_in" "_place_in" (defArgs s_place_in) (defBody s_place_in) (defScope s_place_in) .none kV9 dc9 pm9 an9 cd9 ct9), sl9⟩) (e9 : PySem.W.codeIn K cd9 "_place_in" = true) (k9 : PySem.W.keepIn K (.ref f9) = true)
    {f10 : Addr} {od10 an10 : Option Addr} {sl10 : Array (Option Value)} {oc10 kV10 dc10 pm10 cd10 ct10 : Value}
    (a10 : PySem.W.nsIn K mainGlobals "place_of" = some (some (.ref f10))) (l10 : K.lookup f10 = some ⟨oc10, od10, .func (PySem.W.fnOf "place_of" "place_of" (defArgs s_place_of) (defBody s_place_of) (defScope s_place_of) .none kV10 dc10 pm10 an10 cd10 ct10), sl10⟩) (e10 : PySem.W.codeIn K cd10 "place_of" = true) (k10 : PySem.W.keepIn K (.ref f10) = true)
    {f11 : Addr} {od11 an11 : Option Addr} {sl11 : Array (Option Value)} {oc11 kV11 dc11 pm11 cd11 ct11 : Value}
    (a11 : PySem.W.nsIn K mainGlobals "_law_draws" = some (some (.ref f11))) (l11 : K.lookup f11 = some ⟨oc11, od11, .func (PySem.W.fnOf "_law_draws" "_law_draws" (defArgs s_law_draws) (defBody s_law_draws) (defScope s_law_draws) .none kV11 dc11 pm11 an11 cd11 ct11), sl11⟩) (e11 : PySem.W.codeIn K cd11 "_law_draws" = true) (k11 : PySem.W.keepIn K (.ref f11) = true)
    {f12 : Addr} {od12 an12 : Option Addr} {sl12 : Array (Option Value)} {oc12 kV12 dc12 pm12 cd12 ct12 : Value}
    (a12 : PySem.W.nsIn K mainGlobals "_law_signs" = some (some (.ref f12))) (l12 : K.lookup f12 = some ⟨oc12, od12, .func (PySem.W.fnOf "_law_signs" "_law_signs" (defArgs s_law_signs) (defBody s_law_signs) (defScope s_law_signs) .none kV12 dc12 pm12 an12 cd12 ct12), sl12⟩) (e12 : PySem.W.codeIn K cd12 "_law_signs" = true) (k12 : PySem.W.keepIn K (.ref f12) = true)
    {f13 : Addr} {od13 an13 : Option Addr} {sl13 : Array (Option Value)} {oc13 kV13 dc13 pm13 cd13 ct13 : Value}
    (a13 : PySem.W.nsIn K mainGlobals "_law_word" = some (some (.ref f13))) (l13 : K.lookup f13 = some ⟨oc13, od13, .func (PySem.W.fnOf "_law_word" "_law_word" (defArgs s_law_word) (defBody s_law_word) (defScope s_law_word) .none kV13 dc13 pm13 an13 cd13 ct13), sl13⟩) (e13 : PySem.W.codeIn K cd13 "_law_word" = true) (k13 : PySem.W.keepIn K (.ref f13) = true)
    {f14 : Addr} {od14 an14 : Option Addr} {sl14 : Array (Option Value)} {oc14 kV14 dc14 pm14 cd14 ct14 : Value}
    (a14 : PySem.W.nsIn K mainGlobals "_law_text" = some (some (.ref f14))) (l14 : K.lookup f14 = some ⟨oc14, od14, .func (PySem.W.fnOf "_law_text" "_law_text" (defArgs s_law_text) (defBody s_law_text) (defScope s_law_text) .none kV14 dc14 pm14 an14 cd14 ct14), sl14⟩) (e14 : PySem.W.codeIn K cd14 "_law_text" = true) (k14 : PySem.W.keepIn K (.ref f14) = true)
    {f15 : Addr} {od15 an15 : Option Addr} {sl15 : Array (Option Value)} {oc15 kV15 dc15 pm15 cd15 ct15 : Value}
    (a15 : PySem.W.nsIn K mainGlobals "_law_whole" = some (some (.ref f15))) (l15 : K.lookup f15 = some ⟨oc15, od15, .func (PySem.W.fnOf "_law_whole" "_law_whole" (defArgs s_law_whole) (defBody s_law_whole) (defScope s_law_whole) .none kV15 dc15 pm15 an15 cd15 ct15), sl15⟩) (e15 : PySem.W.codeIn K cd15 "_law_whole" = true) (k15 : PySem.W.keepIn K (.ref f15) = true)
    {f16 : Addr} {od16 an16 : Option Addr} {sl16 : Array (Option Value)} {oc16 kV16 dc16 pm16 cd16 ct16 : Value}
    (a16 : PySem.W.nsIn K mainGlobals "_law_near" = some (some (.ref f16))) (l16 : K.lookup f16 = some ⟨oc16, od16, .func (PySem.W.fnOf "_law_near" "_law_near" (defArgs s_law_near) (defBody s_law_near) (defScope s_law_near) .none kV16 dc16 pm16 an16 cd16 ct16), sl16⟩) (e16 : PySem.W.codeIn K cd16 "_law_near" = true) (k16 : PySem.W.keepIn K (.ref f16) = true)
    {f17 : Addr} {od17 an17 : Option Addr} {sl17 : Array (Option Value)} {oc17 kV17 dc17 pm17 cd17 ct17 : Value}
    (a17 : PySem.W.nsIn K mainGlobals "_law_refused" = some (some (.ref f17))) (l17 : K.lookup f17 = some ⟨oc17, od17, .func (PySem.W.fnOf "_law_refused" "_law_refused" (defArgs s_law_refused) (defBody s_law_refused) (defScope s_law_refused) .none kV17 dc17 pm17 an17 cd17 ct17), sl17⟩) (e17 : PySem.W.codeIn K cd17 "_law_refused" = true) (k17 : PySem.W.keepIn K (.ref f17) = true)
    {f18 : Addr} {od18 an18 : Option Addr} {sl18 : Array (Option Value)} {oc18 kV18 dc18 pm18 cd18 ct18 : Value}
    (a18 : PySem.W.nsIn K mainGlobals "_law_far" = some (some (.ref f18))) (l18 : K.lookup f18 = some ⟨oc18, od18, .func (PySem.W.fnOf "_law_far" "_law_far" (defArgs s_law_far) (defBody s_law_far) (defScope s_law_far) .none kV18 dc18 pm18 an18 cd18 ct18), sl18⟩) (e18 : PySem.W.codeIn K cd18 "_law_far" = true) (k18 : PySem.W.keepIn K (.ref f18) = true)
    {f19 : Addr} {od19 an19 : Option Addr} {sl19 : Array (Option Value)} {oc19 kV19 dc19 pm19 cd19 ct19 : Value}
    (a19 : PySem.W.nsIn K mainGlobals "law" = some (some (.ref f19))) (l19 : K.lookup f19 = some ⟨oc19, od19, .func (PySem.W.fnOf "law" "law" (defArgs s_law) (defBody s_law) (defScope s_law) .none kV19 dc19 pm19 an19 cd19 ct19), sl19⟩) (e19 : PySem.W.codeIn K cd19 "law" = true) (k19 : PySem.W.keepIn K (.ref f19) = true)
    {f3 : Addr} {od3 an3 : Option Addr} {sl3 : Array (Option Value)} {oc3 kV3 dc3 pm3 cd3 ct3 : Value}
    (a3 : PySem.W.findIn K (.ref C_NoPlace) "__init__" = some (some (.ref f3))) (l3 : K.lookup f3 = some ⟨oc3, od3, .func (PySem.W.fnOf "__init__" "NoPlace.__init__" (defArgs s_NoPlace_init) (defBody s_NoPlace_init) (defScope s_NoPlace_init) .none kV3 dc3 pm3 an3 cd3 ct3), sl3⟩) (e3 : PySem.W.codeIn K cd3 "NoPlace.__init__" = true) (k3 : PySem.W.keepIn K (.ref f3) = true) (ti3 : PySem.W.typeIn K (.ref f3) = some (.type "function"))
    (u_NoPlace_LoomError : PySem.W.subIn K (.ref C_NoPlace) (.ref C_LoomError) = some true)
    (n_NoPlace_place : PySem.W.findIn K (.ref C_NoPlace) "place" = some none)
    (z_m_ValueError : PySem.W.nsIn K mainGlobals "ValueError" = some none)
    (z_m_bool : PySem.W.nsIn K mainGlobals "bool" = some none)
    (z_m_dict : PySem.W.nsIn K mainGlobals "dict" = some none)
    (z_m_divmod : PySem.W.nsIn K mainGlobals "divmod" = some none)
    (z_m_int : PySem.W.nsIn K mainGlobals "int" = some none)
    (z_m_isinstance : PySem.W.nsIn K mainGlobals "isinstance" = some none)
    (z_m_len : PySem.W.nsIn K mainGlobals "len" = some none)
    (z_m_list : PySem.W.nsIn K mainGlobals "list" = some none)
    (z_m_min : PySem.W.nsIn K mainGlobals "min" = some none)
    (z_m_range : PySem.W.nsIn K mainGlobals "range" = some none)
    (z_m_str : PySem.W.nsIn K mainGlobals "str" = some none)
    (z_m_tuple : PySem.W.nsIn K mainGlobals "tuple" = some none)
    {t_MOST_SIGNS : Tok} (v_MOST_SIGNS : PySem.W.nsIn K mainGlobals "MOST_SIGNS" = some (some (.int 20000 t_MOST_SIGNS))) :
    ∃ fd : FuncData, (∀ (s : Shared) (v : Value), BindsTo s fd ⟨[v], []⟩ [("_law_script", v)]) ∧ ∀ base : Heap, K.In base → base.Ns mainGlobals mg → FnOk l.prog w K mg base CX0 7 fa fd ["_law_script"] (sp_law K) := by
  have e := hfa.symm.trans (PySem.W.mg_of X G a19)
  cases e
  refine ⟨PySem.W.fnOf "law" "law" (defArgs s_law) (defBody s_law) (defScope s_law) .none kV19 dc19 pm19 an19 cd19 ct19, fun s v => .of_eq rfl, fun base _ _ => ?_⟩
  have m_ValueError := PySem.W.mg_none_of X G z_m_ValueError
  have m_bool := PySem.W.mg_none_of X G z_m_bool
  have m_dict := PySem.W.mg_none_of X G z_m_dict
  have m_divmod := PySem.W.mg_none_of X G z_m_divmod
  have m_int := PySem.W.mg_none_of X G z_m_int
  have m_isinstance := PySem.W.mg_none_of X G z_m_isinstance
  have m_len := PySem.W.mg_none_of X G z_m_len
  have m_list := PySem.W.mg_none_of X G z_m_list
  have m_min := PySem.W.mg_none_of X G z_m_min
  have m_range := PySem.W.mg_none_of X G z_m_range
  have m_str := PySem.W.mg_none_of X G z_m_str
  have m_tuple := PySem.W.mg_none_of X G z_m_tuple
  have g_MOST_SIGNS : ∃ t, mg "MOST_SIGNS" = some (.int 20000 t) := ⟨_, PySem.W.mg_of X G v_MOST_SIGNS⟩
  have e_LoomError : ECal K mg "LoomError" C_LoomError := ⟨PySem.W.mg_of X G aC_LoomError, aC_LoomError, ⟨hg_LoomError, hk_LoomError, hs_LoomError, hd_LoomError, ha_LoomError, oc_n, oc_t, hm_LoomError⟩, ty_LoomError, ve_LoomError⟩
  have e_NoPlace : ECal K mg "NoPlace" C_NoPlace := ⟨PySem.W.mg_of X G aC_NoPlace, aC_NoPlace, ⟨hg_NoPlace, hk_NoPlace, hs_NoPlace, hd_NoPlace, ha_NoPlace, oc_n, oc_t, hm_NoPlace⟩, ty_NoPlace, ve_NoPlace⟩
  have F0 := fun_mk (st := s_is_whole) l0 e0 k0
  have b0 := F0.binds (ps := ["thing"]) fun _ _ _ _ _ _ us hl => match us, hl with | [_], _ => rfl
  have c_is_whole : Cal l.prog w K mg base CX0 1 f0 _ "is_whole" ["thing"] (sp_is_whole K) := ⟨ok_is_whole F0 m_bool m_int m_isinstance, PySem.W.mg_of X G a0, k0, b0⟩
  have F1 := fun_mk (st := s_is_signs) l1 e1 k1
  have b1 := F1.binds (ps := ["thing"]) fun _ _ _ _ _ _ us hl => match us, hl with | [_], _ => rfl
  have c_is_signs : Cal l.prog w K mg base CX0 1 f1 _ "is_signs" ["thing"] (sp_is_signs K) := ⟨ok_is_signs F1 m_isinstance m_str, PySem.W.mg_of X G a1, k1, b1⟩
  have F2 := fun_mk (st := s_fresh) l2 e2 k2
  have b2 := F2.binds (ps := ["thing"]) fun _ _ _ _ _ _ us hl => match us, hl with | [_], _ => rfl
  have c_fresh : Cal l.prog w K mg base CX0 1 f2 _ "fresh" ["thing"] (sp_fresh K) := ⟨ok_fresh F2 m_dict m_isinstance m_list m_tuple, PySem.W.mg_of X G a2, k2, b2⟩
  have F9 := fun_mk (st := s_place_in) l9 e9 k9
  have b9 := F9.binds (ps := ["text", "k"]) fun _ _ _ _ _ _ us hl => match us, hl with | [_, _], _ => rfl
  have c_place_in : Cal l.prog w K mg base CX0 1 f9 _ "_place_in" ["text", "k"] (sp_place_in K) := ⟨ok_place_in F9 m_range, PySem.W.mg_of X G a9, k9, b9⟩
  have F11 := fun_mk (st := s_law_draws) l11 e11 k11
  have b11 := F11.binds (ps := ["_law_script", "_law_j", "_law_many"]) fun _ _ _ _ _ _ us hl => match us, hl with | [_, _, _], _ => rfl
  have c_law_draws : Cal l.prog w K mg base CX0 1 f11 _ "_law_draws" ["_law_script", "_law_j", "_law_many"] (sp_law_draws K) := ⟨ok_law_draws F11 m_len m_min m_range, PySem.W.mg_of X G a11, k11, b11⟩
  have F12 := fun_mk (st := s_law_signs) l12 e12 k12
  have b12 := F12.binds (ps := ["_law_digits", "_law_many"]) fun _ _ _ _ _ _ us hl => match us, hl with | [_, _], _ => rfl
  have c_law_signs : Cal l.prog w K mg base CX0 1 f12 _ "_law_signs" ["_law_digits", "_law_many"] (sp_law_signs K) := ⟨ok_law_signs F12 , PySem.W.mg_of X G a12, k12, b12⟩
  have F14 := fun_mk (st := s_law_text) l14 e14 k14
  have b14 := F14.binds (ps := ["_law_word_here", "_law_many"]) fun _ _ _ _ _ _ us hl => match us, hl with | [_, _], _ => rfl
  have c_law_text : Cal l.prog w K mg base CX0 1 f14 _ "_law_text" ["_law_word_here", "_law_many"] (sp_law_text K) := ⟨ok_law_text F14 m_len, PySem.W.mg_of X G a14, k14, b14⟩
  have F15 := fun_mk (st := s_law_whole) l15 e15 k15
  have b15 := F15.binds (ps := ["_law_found"]) fun _ _ _ _ _ _ us hl => match us, hl with | [_], _ => rfl
  have c_law_whole : Cal l.prog w K mg base CX0 1 f15 _ "_law_whole" ["_law_found"] (sp_law_whole K) := ⟨ok_law_whole F15 m_bool m_int m_isinstance, PySem.W.mg_of X G a15, k15, b15⟩
  have F3 := fun_mk (st := s_NoPlace_init) l3 e3 k3
  have b3 := F3.binds (ps := ["self", "place"]) fun _ _ _ _ _ _ us hl => match us, hl with | [_, _], _ => rfl
  have x_NoPlace : XCal l.prog w K mg base 2 "NoPlace" C_NoPlace f3 _ ["self", "place"] ["place"] (sp_NoPlace_init K) := ⟨⟨⟨_, _, _, _, _, _, _, _, _, _, _, _, _, _, _, xL_NoPlace, xb_NoPlace⟩, sa_NoPlace, hs_NoPlace, ty_NoPlace, kC_NoPlace⟩, a3, ti3, ok_NoPlace_init F3 c_fresh, b3, PySem.W.mg_of X G aC_NoPlace, aC_NoPlace, fun f hf => by
      simp only [List.mem_cons, List.not_mem_nil, or_false] at hf
      rcases hf with rfl
      · exact n_NoPlace_place⟩
  have F4 := fun_mk (st := s_is_word) l4 e4 k4
  have b4 := F4.binds (ps := ["thing"]) fun _ _ _ _ _ _ us hl => match us, hl with | [_], _ => rfl
  have c_is_word : Cal l.prog w K mg base CX0 2 f4 _ "is_word" ["thing"] (sp_is_word K) := ⟨ok_is_word F4 m_isinstance m_len m_tuple g_MOST_SIGNS c_is_signs, PySem.W.mg_of X G a4, k4, b4⟩
  have F6 := fun_mk (st := s_check_place) l6 e6 k6
  have b6 := F6.binds (ps := ["k"]) fun _ _ _ _ _ _ us hl => match us, hl with | [_], _ => rfl
  have c_check_place : Cal l.prog w K mg base CX0 2 f6 _ "_check_place" ["k"] (sp_check_place K) := ⟨ok_check_place F6 c_is_whole, PySem.W.mg_of X G a6, k6, b6⟩
  have F13 := fun_mk (st := s_law_word) l13 e13 k13
  have b13 := F13.binds (ps := ["_law_script", "_law_j"]) fun _ _ _ _ _ _ us hl => match us, hl with | [_, _], _ => rfl
  have c_law_word : Cal l.prog w K mg base CX0 2 f13 _ "_law_word" ["_law_script", "_law_j"] (sp_law_word K) := ⟨ok_law_word F13 c_law_draws c_law_signs, PySem.W.mg_of X G a13, k13, b13⟩
  have F5 := fun_mk (st := s_check_word) l5 e5 k5
  have b5 := F5.binds (ps := ["word"]) fun _ _ _ _ _ _ us hl => match us, hl with | [_], _ => rfl
  have c_check_word : Cal l.prog w K mg base CX0 3 f5 _ "_check_word" ["word"] (sp_check_word K) := ⟨ok_check_word F5 c_is_word, PySem.W.mg_of X G a5, k5, b5⟩
  have F7 := fun_mk (st := s_letter) l7 e7 k7
  have b7 := F7.binds (ps := ["word", "k"]) fun _ _ _ _ _ _ us hl => match us, hl with | [_, _], _ => rfl
  have c_letter : Cal l.prog w K mg base CX0 4 f7 _ "letter" ["word", "k"] (sp_letter K) := ⟨ok_letter F7 m_len c_check_word c_check_place, PySem.W.mg_of X G a7, k7, b7⟩
  have F8 := fun_mk (st := s_ones) l8 e8 k8
  have b8 := F8.binds (ps := ["word", "k"]) fun _ _ _ _ _ _ us hl => match us, hl with | [_, _], _ => rfl
  have c_ones : Cal l.prog w K mg base CX0 4 f8 _ "ones" ["word", "k"] (sp_ones K) := ⟨ok_ones F8 m_divmod m_len c_check_word c_check_place, PySem.W.mg_of X G a8, k8, b8⟩
  have F10 := fun_mk (st := s_place_of) l10 e10 k10
  have b10 := F10.binds (ps := ["word", "k"]) fun _ _ _ _ _ _ us hl => match us, hl with | [_, _], _ => rfl
  have c_place_of : Cal l.prog w K mg base (L2.CX l.prog w) 4 f10 _ "place_of" ["word", "k"] (sp_place_of K) := ⟨ok_place_of F10 m_divmod m_len c_check_word c_check_place c_place_in x_NoPlace, PySem.W.mg_of X G a10, k10, b10⟩
  have F16 := fun_mk (st := s_law_near) l16 e16 k16
  have b16 := F16.binds (ps := ["_law_word_here"]) fun _ _ _ _ _ _ us hl => match us, hl with | [_], _ => rfl
  have c_law_near : Cal l.prog w K mg base CX0 5 f16 _ "_law_near" ["_law_word_here"] (sp_law_near K) := ⟨ok_law_near F16 m_range c_law_text c_ones c_law_whole c_letter c_place_of, PySem.W.mg_of X G a16, k16, b16⟩
  have F17 := fun_mk (st := s_law_refused) l17 e17 k17
  have b17 := F17.binds (ps := ["_law_word_here", "_law_k"]) fun _ _ _ _ _ _ us hl => match us, hl with | [_, _], _ => rfl
  have c_law_refused : Cal l.prog w K mg base CX0 5 f17 _ "_law_refused" ["_law_word_here", "_law_k"] (sp_law_refused K) := ⟨ok_law_refused F17 m_ValueError m_isinstance c_place_of e_LoomError e_NoPlace n_NoPlace_place u_NoPlace_LoomError, PySem.W.mg_of X G a17, k17, b17⟩
  have F18 := fun_mk (st := s_law_far) l18 e18 k18
  have b18 := F18.binds (ps := ["_law_word_here", "_law_k", "_law_rounds"]) fun _ _ _ _ _ _ us hl => match us, hl with | [_, _, _], _ => rfl
  have c_law_far : Cal l.prog w K mg base CX0 6 f18 _ "_law_far" ["_law_word_here", "_law_k", "_law_rounds"] (sp_law_far K) := ⟨ok_law_far F18 m_bool m_isinstance m_len c_letter c_ones c_place_of c_law_refused, PySem.W.mg_of X G a18, k18, b18⟩
  have F19 := fun_mk (st := s_law) l19 e19 k19
  exact ok_law F19 m_range c_law_word c_law_draws c_law_near c_law_far
end WK
open PySem PySem.W PyProof.Rows
set_option maxRecDepth 100000 in
set_option maxHeartbeats 0 in
theorem PySem.Challenge.cw_clockloom_k02_letters_and_ones_holds : PySem.Challenge.rw_clockloom_k02_letters_and_ones.Holds := by
  w_on; o_law; k_head; (case hw => w_witness2)
  k_fill
  refine L2.walk_of (l := PySem.Challenge.rw_clockloom_k02_letters_and_ones) (n := 63) (k := 7) (x := "_law_script") (CX := fun _ => L2.CX0) (sp := fun w => WK.sp_law _) rfl (by decide) rfl ⟨rfl, by decide, by decide⟩ (fun w h Y => PySem.W.kIn_of Y) ?F (fun _ _ a ns hl _ hS => ⟨a, ns, rfl, hS, hl, fun _ => rfl⟩) (fun _ _ _ _ _ h => h)
  case F =>
    intro w mg fa h KX G hmg
    refine' WK.all_mk KX G hmg ?aC_LoomError ?hg_LoomError ?hk_LoomError ?hd_LoomError ?ha_LoomError ?hm_LoomError ?ve_LoomError ?hs_LoomError ?ty_LoomError ?aC_NoPlace ?hg_NoPlace ?hk_NoPlace ?hd_NoPlace ?ha_NoPlace ?hm_NoPlace ?ve_NoPlace ?hs_NoPlace ?ty_NoPlace ?kC_NoPlace ?xL_NoPlace ?xb_NoPlace ?sa_NoPlace ?oc_n ?oc_t ?a0 ?l0 ?e0 ?k0 ?a1 ?l1 ?e1 ?k1 ?a2 ?l2 ?e2 ?k2 ?a4 ?l4 ?e4 ?k4 ?a5 ?l5 ?e5 ?k5 ?a6 ?l6 ?e6 ?k6 ?a7 ?l7 ?e7 ?k7 ?a8 ?l8 ?e8 ?k8 ?a9 ?l9 ?e9 ?k9 ?a10 ?l10 ?e10 ?k10 ?a11 ?l11 ?e11 ?k11 ?a12 ?l12 ?e12 ?k12 ?a13 ?l13 ?e13 ?k13 ?a14 ?l14 ?e14 ?k14 ?a15 ?l15 ?e15 ?k15 ?a16 ?l16 ?e16 ?k16 ?a17 ?l17 ?e17 ?k17 ?a18 ?l18 ?e18 ?k18 ?a19 ?l19 ?e19 ?k19 ?a3 ?l3 ?e3 ?k3 ?ti3 ?u_NoPlace_LoomError ?n_NoPlace_place ?z_m_ValueError ?z_m_bool ?z_m_dict ?z_m_divmod ?z_m_int ?z_m_isinstance ?z_m_len ?z_m_list ?z_m_min ?z_m_range ?z_m_str ?z_m_tuple ?v_MOST_SIGNS
    (case aC_LoomError => k_is)
    (case hg_LoomError => k_is)
    (case hk_LoomError => k_is)
    (case hd_LoomError => k_is)
    (case ha_LoomError => k_is)
    (case hm_LoomError => k_is)
    (case ve_LoomError => k_is)
    (case hs_LoomError => k_is)
    (case ty_LoomError => k_is)
    (case aC_NoPlace => k_is)
    (case hg_NoPlace => k_is)
    (case hk_NoPlace => k_is)
    (case hd_NoPlace => k_is)
    (case ha_NoPlace => k_is)
    (case hm_NoPlace => k_is)
    (case ve_NoPlace => k_is)
    (case hs_NoPlace => k_is)
    (case ty_NoPlace => k_is)
    (case kC_NoPlace => k_is)
    (case xL_NoPlace => k_is)
    (case xb_NoPlace => decide +kernel)
    (case sa_NoPlace => k_is)
    (case oc_n => k_is)
    (case oc_t => k_is)
    (case a0 => k_is)
    (case l0 => k_is)
    (case e0 => k_is)
    (case k0 => k_is)
    (case a1 => k_is)
    (case l1 => k_is)
    (case e1 => k_is)
    (case k1 => k_is)
    (case a2 => k_is)
    (case l2 => k_is)
    (case e2 => k_is)
    (case k2 => k_is)
    (case a4 => k_is)
    (case l4 => k_is)
    (case e4 => k_is)
    (case k4 => k_is)
    (case a5 => k_is)
    (case l5 => k_is)
    (case e5 => k_is)
    (case k5 => k_is)
    (case a6 => k_is)
    (case l6 => k_is)
    (case e6 => k_is)
    (case k6 => k_is)
    (case a7 => k_is)
    (case l7 => k_is)
    (case e7 => k_is)
    (case k7 => k_is)
    (case a8 => k_is)
    (case l8 => k_is)
    (case e8 => k_is)
    (case k8 => k_is)
    (case a9 => k_is)
    (case l9 => k_is)
    (case e9 => k_is)
    (case k9 => k_is)
    (case a10 => k_is)
    (case l10 => k_is)
    (case e10 => k_is)
    (case k10 => k_is)
    (case a11 => k_is)
    (case l11 => k_is)
    (case e11 => k_is)
    (case k11 => k_is)
    (case a12 => k_is)
    (case l12 => k_is)
    (case e12 => k_is)
    (case k12 => k_is)
    (case a13 => k_is)
    (case l13 => k_is)
    (case e13 => k_is)
    (case k13 => k_is)
    (case a14 => k_is)
    (case l14 => k_is)
    (case e14 => k_is)
    (case k14 => k_is)
    (case a15 => k_is)
    (case l15 => k_is)
    (case e15 => k_is)
    (case k15 => k_is)
    (case a16 => k_is)
    (case l16 => k_is)
    (case e16 => k_is)
    (case k16 => k_is)
    (case a17 => k_is)
    (case l17 => k_is)
    (case e17 => k_is)
    (case k17 => k_is)
    (case a18 => k_is)
    (case l18 => k_is)
    (case e18 => k_is)
    (case k18 => k_is)
    (case a19 => k_is)
    (case l19 => k_is)
    (case e19 => k_is)
    (case k19 => k_is)
    (case a3 => k_is)
    (case l3 => k_is)
    (case e3 => k_is)
    (case k3 => k_is)
    (case ti3 => k_is)
    (case u_NoPlace_LoomError => first | rfl | k_is)
    (case n_NoPlace_place => k_is)
    (case z_m_ValueError => k_is)
    (case z_m_bool => k_is)
    (case z_m_dict => k_is)
    (case z_m_divmod => k_is)
    (case z_m_int => k_is)
    (case z_m_isinstance => k_is)
    (case z_m_len => k_is)
    (case z_m_list => k_is)
    (case z_m_min => k_is)
    (case z_m_range => k_is)
    (case z_m_str => k_is)
    (case z_m_tuple => k_is)
    (case v_MOST_SIGNS => k_is)
