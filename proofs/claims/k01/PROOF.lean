import PyProof.Rows.All
import Wide.All
import OpenK.AllK
import Wide.FinOn
import HandS.ForMost
import HandS.StrMore
import HandS.IsInst
import HandS.Style
import HandS.Flow
import HandS.WideBits
import HandS.Wide
import HandS.Codes
import PySem.Challenge.RW_clockloom_k01_words_looked_at
set_option Elab.async false
set_option linter.all false
set_option maxRecDepth 100000
namespace WK
/-- the sign at place i of the row that head and again tell -/
def row (h a : List Nat) (i : Nat) : Nat := if i < h.length then h.getD i 0 else a.getD ((i - h.length) % a.length) 0
def Per (R : Nat → Nat) (c p : Nat) : Prop := 0 < p ∧ ∀ i, c ≤ i → R (i + p) = R i
structure Tells (R : Nat → Nat) (x y : List Nat) : Prop where
  pos : 0 < y.length
  eq : ∀ i, row x y i = R i
structure Lst (R : Nat → Nat) (x y : List Nat) : Prop where
  tells : Tells R x y
  head : ∀ c p, Per R c p → x.length ≤ c
  again : ∀ c p, Per R c p → y.length ≤ p
theorem row_head {h a : List Nat} {i : Nat} (hi : i < h.length) : row h a i = h.getD i 0 := if_pos hi
theorem row_again {h a : List Nat} {i : Nat} (hi : h.length ≤ i) : row h a i = a.getD ((i - h.length) % a.length) 0 := if_neg (by omega)
theorem row_per {h a : List Nat} (ha : 0 < a.length) : Per (row h a) h.length a.length := by
  refine ⟨ha, fun i hi => ?_⟩
  rw [row_again (by omega), row_again hi, show i + a.length - h.length = (i - h.length) + a.length by omega, Nat.add_mod_right]
theorem Per.mul {R : Nat → Nat} {c p : Nat} (P : Per R c p) : ∀ (k i : Nat), c ≤ i → R (i + k * p) = R i
  | 0, i, _ => by rw [Nat.zero_mul, Nat.add_zero]
  | k + 1, i, hi => by
    rw [Nat.succ_mul, ← Nat.add_assoc, P.2 (i + k * p) (by omega), Per.mul P k i hi]
theorem Per.mod {R : Nat → Nat} {c p : Nat} (P : Per R c p) {i j : Nat} (hi : c ≤ i) (hj : c ≤ j) (e : (i - c) % p = (j - c) % p) : R i = R j := by
  have h1 := Nat.div_add_mod (i - c) p
  have h2 := Nat.div_add_mod (j - c) p
  have k1 : R i = R (c + (i - c) % p) := by
    have := P.mul ((i - c) / p) (c + (i - c) % p) (by omega)
    rw [← this, Nat.mul_comm]
    congr 1
    omega
  have k2 : R j = R (c + (j - c) % p) := by
    have := P.mul ((j - c) / p) (c + (j - c) % p) (by omega)
    rw [← this, Nat.mul_comm]
    congr 1
    omega
  rw [k1, k2, e]
/-- a period behind one place is one behind each place from which on there is one -/
theorem Per.down {R : Nat → Nat} {c p c' p' : Nat} (P : Per R c p) (P' : Per R c' p') : Per R c p' := by
  refine ⟨P'.1, fun i hi => ?_⟩
  have h1 := P.1
  have k : c' ≤ i + c' * p := by
    have : c' * 1 ≤ c' * p := Nat.mul_le_mul_left _ h1
    omega
  have e1 := P.mul c' (i + p') (by omega)
  have e2 := P.mul c' i hi
  have e3 := P'.2 (i + c' * p) k
  rw [← e1, ← e2, ← e3]
  congr 1
  omega
theorem Tells.per {R : Nat → Nat} {x y : List Nat} (T : Tells R x y) : Per R x.length y.length := by
  have h := row_per (h := x) T.pos
  exact ⟨h.1, fun i hi => by rw [← T.eq, ← T.eq]; exact h.2 i hi⟩
theorem getD_ext {x y : List Nat} (hl : x.length = y.length) (h : ∀ i, i < x.length → x.getD i 0 = y.getD i 0) : x = y := by
  apply List.ext_getElem hl
  intro i h1 h2
  have := h i h1
  rw [List.getD_eq_getElem?_getD, List.getD_eq_getElem?_getD, List.getElem?_eq_getElem h1, List.getElem?_eq_getElem h2] at this
  exact this
theorem Lst.uniq {R : Nat → Nat} {x y x' y' : List Nat} (L : Lst R x y) (L' : Lst R x' y') : x = x' ∧ y = y' := by
  have e1 : x.length = x'.length := Nat.le_antisymm (L.head _ _ L'.tells.per) (L'.head _ _ L.tells.per)
  have e2 : y.length = y'.length := Nat.le_antisymm (L.again _ _ L'.tells.per) (L'.again _ _ L.tells.per)
  refine ⟨getD_ext e1 fun i hi => ?_, getD_ext e2 fun i hi => ?_⟩
  · rw [← row_head (a := y) hi, ← row_head (h := x') (a := y') (by omega), L.tells.eq, L'.tells.eq]
  · have h1 := row_again (h := x) (a := y) (i := x.length + i) (by omega)
    have h2 := row_again (h := x') (a := y') (i := x'.length + i) (by omega)
    rw [show x.length + i - x.length = i by omega, Nat.mod_eq_of_lt hi] at h1
    rw [show x'.length + i - x'.length = i by omega, Nat.mod_eq_of_lt (by omega)] at h2
    rw [← h1, ← h2, L.tells.eq, L'.tells.eq, e1]
/-- a row with least places and a least period -/
theorem Lst.of {R : Nat → Nat} {x y : List Nat} (T : Tells R x y) (hc : ∀ c p, Per R c p → x.length ≤ c) (hp : ∀ p, Per R x.length p → y.length ≤ p) : Lst R x y :=
  ⟨T, hc, fun _ _ P => hp _ (T.per.down P)⟩
theorem row_ext {h a h' a' : List Nat} (e : ∀ i, row h a i = row h' a' i) : row h a = row h' a' := funext e
end WK
namespace WK
theorem Per.mono {R : Nat → Nat} {c c' p : Nat} (P : Per R c p) (h : c ≤ c') : Per R c' p := ⟨P.1, fun i hi => P.2 i (by omega)⟩
theorem least_one {P : Nat → Prop} : ∀ n, 1 ≤ n → P n → ∃ d, 1 ≤ d ∧ d ≤ n ∧ P d ∧ ∀ i, 1 ≤ i → i < d → ¬ P i := by
  intro n
  induction n using Nat.strongRecOn with
  | ind n ih =>
    intro h1 hp
    by_cases h : ∃ i, 1 ≤ i ∧ i < n ∧ P i
    · obtain ⟨i, a, b, c⟩ := h
      obtain ⟨d, e1, e2, e3, e4⟩ := ih i b a c
      exact ⟨d, e1, by omega, e3, e4⟩
    · exact ⟨n, h1, Nat.le_refl _, hp, fun i a b c => h ⟨i, a, b, c⟩⟩
theorem row_nil {a : List Nat} (i : Nat) : row [] a i = a.getD (i % a.length) 0 := by
  rw [row_again (Nat.zero_le _)]
  rfl
theorem row_shift {h a : List Nat} (i : Nat) : row h a (h.length + i) = row [] a i := by
  rw [row_again (by omega), row_nil, Nat.add_sub_cancel_left]
theorem getD_app {a b : List Nat} {i : Nat} : (a ++ b).getD i 0 = if i < a.length then a.getD i 0 else b.getD (i - a.length) 0 := by
  rw [List.getD_eq_getElem?_getD]
  by_cases h : i < a.length
  · rw [if_pos h, List.getElem?_append_left h, List.getD_eq_getElem?_getD]
  · rw [if_neg h, List.getElem?_append_right (by omega), List.getD_eq_getElem?_getD]
theorem getD_drop {a : List Nat} {d i : Nat} : (a.drop d).getD i 0 = a.getD (d + i) 0 := by
  rw [List.getD_eq_getElem?_getD, List.getElem?_drop, List.getD_eq_getElem?_getD]
theorem getD_take {a : List Nat} {d i : Nat} (h : i < d) : (a.take d).getD i 0 = a.getD i 0 := by
  rw [List.getD_eq_getElem?_getD, List.getElem?_take, if_pos h, List.getD_eq_getElem?_getD]
/-- the again stands at the d-th place of itself told twice -/
def Again (a : List Nat) (d : Nat) : Prop := ((a ++ a).drop d).take a.length = a
theorem again_row {a : List Nat} {i : Nat} (hi : i < 2 * a.length) : (a ++ a).getD i 0 = row [] a i := by
  rw [getD_app, row_nil]
  by_cases h : i < a.length
  · rw [if_pos h, Nat.mod_eq_of_lt h]
  · rw [if_neg h, Nat.mod_eq_sub_mod (by omega), Nat.mod_eq_of_lt (by omega)]
theorem again_iff {a : List Nat} {d : Nat} (h1 : 1 ≤ d) (hd : d ≤ a.length) : Again a d ↔ Per (row [] a) 0 d := by
  have hl : ((a ++ a).drop d).length = 2 * a.length - d := by rw [List.length_drop, List.length_append]; omega
  constructor
  · intro h
    refine ⟨h1, fun i _ => ?_⟩
    have ha : 0 < a.length := by omega
    have P := row_per (h := []) ha
    have e : ∀ j, j < a.length → row [] a (d + j) = row [] a j := fun j hj => by
      have q := congrArg (fun l : List Nat => l.getD j 0) h
      rw [getD_take hj, getD_drop, again_row (by omega)] at q
      rw [q, row_nil, Nat.mod_eq_of_lt hj]
    have hm := Nat.mod_lt i ha
    have k1 := P.mod (i := i + d) (j := d + i % a.length) (Nat.zero_le _) (Nat.zero_le _) (by
      show (i + d - 0) % a.length = (d + i % a.length - 0) % a.length
      rw [Nat.sub_zero, Nat.sub_zero, Nat.add_comm i d, Nat.add_mod_mod])
    have k2 := P.mod (i := i) (j := i % a.length) (Nat.zero_le _) (Nat.zero_le _) (by
      show (i - 0) % a.length = (i % a.length - 0) % a.length
      rw [Nat.sub_zero, Nat.sub_zero, Nat.mod_mod])
    rw [k1, e _ hm, k2]
  · intro h
    refine getD_ext (by rw [List.length_take, hl]; omega) fun j hj => ?_
    rw [List.length_take, hl] at hj
    have hj' : j < a.length := by omega
    rw [getD_take hj', getD_drop, again_row (by omega), Nat.add_comm, h.2 j (Nat.zero_le _), row_nil, Nat.mod_eq_of_lt hj']
/-- the least period of an again -/
structure Sho (a : List Nat) (d : Nat) : Prop where
  one : 1 ≤ d
  le : d ≤ a.length
  per : Per (row [] a) 0 d
  least : ∀ p, Per (row [] a) 0 p → d ≤ p
theorem sho_of {a : List Nat} {d : Nat} (h1 : 1 ≤ d) (hd : d ≤ a.length) (hm : Again a d) (hl : ∀ i, 1 ≤ i → i < d → ¬ Again a i) : Sho a d := by
  refine ⟨h1, hd, (again_iff h1 hd).mp hm, fun p hp => ?_⟩
  by_cases h : d ≤ p
  · exact h
  · exact absurd ((again_iff hp.1 (by omega)).mpr hp) (hl p hp.1 (by omega))
theorem again_self (a : List Nat) : Again a a.length := by
  unfold Again
  rw [List.drop_left, List.take_length]
theorem sho_ex {a : List Nat} (h : 0 < a.length) : ∃ d, 1 ≤ d ∧ d ≤ a.length ∧ Again a d ∧ ∀ i, 1 ≤ i → i < d → ¬ Again a i :=
  least_one a.length h (again_self a)
theorem Sho.row {a : List Nat} {d : Nat} (S : Sho a d) (i : Nat) : row [] (a.take d) i = row [] a i := by
  have hl : (a.take d).length = d := by rw [List.length_take]; exact Nat.min_eq_left S.le
  have hm := Nat.mod_lt i S.one
  rw [row_nil, hl, getD_take hm]
  have k := S.per.mod (i := i) (j := i % d) (Nat.zero_le _) (Nat.zero_le _) (by rw [Nat.sub_zero, Nat.sub_zero, Nat.mod_mod])
  have hle := S.le
  rw [k, row_nil, Nat.mod_eq_of_lt (Nat.lt_of_lt_of_le hm S.le)]
theorem Sho.row_head {a : List Nat} {d : Nat} (S : Sho a d) (h : List Nat) (i : Nat) : WK.row h (a.take d) i = WK.row h a i := by
  by_cases hi : i < h.length
  · rw [WK.row_head hi, WK.row_head hi]
  · obtain ⟨j, rfl⟩ : ∃ j, i = h.length + j := ⟨i - h.length, by omega⟩
    rw [row_shift, row_shift, S.row]
/-- the row of agains as a list -/
theorem rep_get {a : List Nat} (ha : 0 < a.length) : ∀ (k i : Nat), i < k * a.length → (List.flatten (List.replicate k a)).getD i 0 = a.getD (i % a.length) 0
  | 0, i, h => by omega
  | k + 1, i, h => by
    rw [List.replicate_succ, List.flatten_cons, getD_app]
    rw [Nat.succ_mul] at h
    by_cases hi : i < a.length
    · rw [if_pos hi, Nat.mod_eq_of_lt hi]
    · rw [if_neg hi, rep_get ha k (i - a.length) (by omega), ← Nat.mod_eq_sub_mod (by omega)]
theorem rep_length (a : List Nat) : ∀ k, (List.flatten (List.replicate k a)).length = k * a.length
  | 0 => by rw [Nat.zero_mul]; rfl
  | k + 1 => by rw [List.replicate_succ, List.flatten_cons, List.length_append, rep_length a k, Nat.succ_mul, Nat.add_comm]
/-- the head's last m signs are as in the row of agains -/
def Suf (h a : List Nat) (k m : Nat) : Prop := h.drop (h.length - m) = (List.flatten (List.replicate k a)).drop (k * a.length - m)
theorem suf_iff {h a : List Nat} {k m : Nat} (ha : 0 < a.length) (hk : h.length < k * a.length) (hm : m ≤ h.length) : Suf h a k m ↔ Per (row h a) (h.length - m) a.length := by
  have hL : (List.flatten (List.replicate k a)).length = k * a.length := rep_length a k
  have R := row_per (h := h) ha
  have key : ∀ j, j < m → (h.drop (h.length - m)).getD j 0 = row h a (h.length - m + j) ∧ ((List.flatten (List.replicate k a)).drop (k * a.length - m)).getD j 0 = row h a (h.length - m + j + k * a.length) := fun j hj => by
    constructor
    · rw [getD_drop, row_head (by omega)]
    · rw [getD_drop, rep_get ha k _ (by omega), row_again (by omega)]
      congr 2
      omega
  constructor
  · intro hs
    have e : ∀ i, h.length - m ≤ i → i < h.length → row h a (i + k * a.length) = row h a i := fun i h1 h2 => by
      have q := key (i - (h.length - m)) (by omega)
      rw [hs, show h.length - m + (i - (h.length - m)) = i by omega] at q
      rw [← q.2, ← q.1]
    have e2 : ∀ i, h.length - m ≤ i → row h a (i + k * a.length) = row h a i := fun i h1 => by
      by_cases h2 : i < h.length
      · exact e i h1 h2
      · exact R.mul k i (by omega)
    refine ⟨ha, fun i hi => ?_⟩
    rw [← e2 (i + a.length) (by omega), ← e2 i hi]
    have := R.2 (i + k * a.length) (by omega)
    rw [← this]
    congr 1
    omega
  · intro P
    refine getD_ext (by rw [List.length_drop, List.length_drop, hL]; omega) fun j hj => ?_
    rw [List.length_drop] at hj
    obtain ⟨k1, k2⟩ := key j (by omega)
    rw [k1, k2, P.mul k _ (by omega)]
theorem suf_zero {h a : List Nat} {k : Nat} : Suf h a k 0 := by
  unfold Suf
  rw [Nat.sub_zero, Nat.sub_zero, List.drop_length]
  have := rep_length a k
  rw [← this, List.drop_length]
theorem suf_le {h a : List Nat} {k m m' : Nat} (ha : 0 < a.length) (hk : h.length < k * a.length) (hm : m ≤ h.length) (hs : Suf h a k m) (h' : m' ≤ m) : Suf h a k m' :=
  (suf_iff ha hk (by omega)).mpr (((suf_iff ha hk hm).mp hs).mono (by omega))
/-- how many signs of the head are taken in -/
structure Tak (h a : List Nat) (m : Nat) : Prop where
  le : m ≤ h.length
  per : Per (row h a) (h.length - m) a.length
  least : ∀ c p, Per (row h a) c p → h.length - m ≤ c
theorem tak_of {h a : List Nat} {k m : Nat} (ha : 0 < a.length) (hk : h.length < k * a.length) (hm : m ≤ h.length) (hs : Suf h a k m) (hl : ∀ i, m < i → i ≤ h.length → ¬ Suf h a k i) : Tak h a m := by
  refine ⟨hm, (suf_iff ha hk hm).mp hs, fun c p P => ?_⟩
  by_cases h1 : h.length - m ≤ c
  · exact h1
  · have P2 := P.down (row_per (h := h) ha)
    refine absurd ((suf_iff ha hk (Nat.sub_le h.length c)).mpr ?_) (hl (h.length - c) (by omega) (by omega))
    rw [show h.length - (h.length - c) = c by omega]
    exact P2
/-- the again begun at another place -/
theorem turn_get {a : List Nat} {cut j : Nat} (hc : cut ≤ a.length) (hj : j < a.length) : (a.drop cut ++ a.take cut).getD j 0 = a.getD ((cut + j) % a.length) 0 := by
  rw [getD_app, List.length_drop]
  by_cases h : j < a.length - cut
  · rw [if_pos h, getD_drop, Nat.mod_eq_of_lt (by omega)]
  · rw [if_neg h, getD_take (by omega), Nat.mod_eq_sub_mod (by omega), Nat.mod_eq_of_lt (by omega)]
    congr 1
    omega
theorem turn_len {a : List Nat} {cut : Nat} (hc : cut ≤ a.length) : (a.drop cut ++ a.take cut).length = a.length := by
  rw [List.length_append, List.length_drop, List.length_take]
  omega
theorem lst_of {h a : List Nat} {d m : Nat} (ha : 0 < a.length) (S : Sho a d) (T : Tak h (a.take d) m) :
    Lst (row h a) (h.take (h.length - m)) ((a.take d).drop (d - m % d) ++ (a.take d).take (d - m % d)) := by
  have hl : (a.take d).length = d := by rw [List.length_take]; exact Nat.min_eq_left S.le
  have hR : row h (a.take d) = row h a := funext fun i => S.row_head h i
  have h1 := S.one
  have hmd := Nat.mod_lt m h1
  have hc : d - m % d ≤ (a.take d).length := by omega
  have hx : (h.take (h.length - m)).length = h.length - m := by rw [List.length_take]; omega
  have hm := T.le
  have T2 := T.per
  rw [hR, hl] at T2
  refine Lst.of ⟨by rw [turn_len hc]; omega, fun i => ?_⟩ ?_ ?_
  · by_cases hi : i < h.length - m
    · rw [row_head (by omega), getD_take hi, row_head (by omega)]
    · have e1 := row_again (h := h.take (h.length - m)) (a := (a.take d).drop (d - m % d) ++ (a.take d).take (d - m % d)) (i := i) (by omega)
      rw [e1, hx, turn_len hc, turn_get hc (Nat.mod_lt _ (by omega))]
      have e2 := T2.mul h.length i (by omega)
      have hb : h.length ≤ h.length * d := Nat.le_mul_of_pos_right _ h1
      rw [← e2, ← hR, row_again (by omega), hl]
      congr 1
      rw [Nat.add_mod_mod]
      have hdm := Nat.div_add_mod m d
      have e3 : d - m % d + m = d * (m / d + 1) := by
        rw [Nat.mul_add, Nat.mul_one]
        omega
      have e4 : i + h.length * d - h.length + (d - m % d + m) = (d - m % d + (i - (h.length - m))) + h.length * d := by omega
      have e5 : (i + h.length * d - h.length) % d = (i + h.length * d - h.length + (d - m % d + m)) % d := by rw [e3, Nat.add_mul_mod_self_left]
      rw [e5, e4, Nat.add_mul_mod_self_right]
  · intro c p P
    rw [hx]
    rw [← hR] at P
    exact T.least c p P
  · intro p P
    rw [turn_len hc, hl]
    rw [hx] at P
    refine S.least p ⟨P.1, fun i _ => ?_⟩
    have := P.2 (h.length + i) (by omega)
    rw [Nat.add_assoc, row_shift, row_shift] at this
    exact this
end WK
namespace WK
/-- the first n signs of a row -/
def Txt (R : Nat → Nat) (n : Nat) (t : List Nat) : Prop := t.length = n ∧ ∀ i, i < n → t.getD i 0 = R i
theorem Txt.uniq {R : Nat → Nat} {n : Nat} {t t' : List Nat} (h : Txt R n t) (h' : Txt R n t') : t = t' :=
  getD_ext (by rw [h.1, h'.1]) fun i hi => by
    rw [h.1] at hi
    rw [h.2 i hi, h'.2 i hi]
theorem Txt.take {R : Nat → Nat} {n m : Nat} {t : List Nat} (h : Txt R n t) (hm : m ≤ n) : Txt R m (t.take m) :=
  ⟨by rw [List.length_take, h.1]; omega, fun i hi => by rw [getD_take hi, h.2 i (by omega)]⟩
/-- the piece of a text -/
def piece (t : List Nat) (lo hi : Nat) : List Nat := (t.drop lo).take (hi - lo)
theorem piece_len {t : List Nat} {lo hi : Nat} (h : hi ≤ t.length) : (piece t lo hi).length = hi - lo := by
  unfold piece
  rw [List.length_take, List.length_drop]
  omega
theorem piece_get {t : List Nat} {lo hi i : Nat} (h : lo + i < hi) : (piece t lo hi).getD i 0 = t.getD (lo + i) 0 := by
  unfold piece
  rw [getD_take (by omega), getD_drop]
/-- what the law's look asks -/
def Win (t : List Nat) (cut size : Nat) : Prop :=
  (t.take cut ++ List.flatten (List.replicate (t.length / size + 1) (piece t cut (cut + size)))).take t.length = t
theorem win_iff {R : Nat → Nat} {n : Nat} {t : List Nat} (T : Txt R n t) {cut size c p : Nat} (P : Per R c p) (h1 : 1 ≤ size) (hn : max c cut + p + size ≤ n) : Win t cut size ↔ Per R cut size := by
  have hlen := T.1
  have hx : (t.take cut).length = cut := by rw [List.length_take]; omega
  have hw : (piece t cut (cut + size)).length = size := by rw [piece_len (by omega)]; omega
  have hk : n - cut ≤ (n / size + 1) * size := by
    have h2 := Nat.div_add_mod n size
    have h3 := Nat.mod_lt n h1
    rw [Nat.succ_mul, Nat.mul_comm]
    omega
  have hp := P.1
  have get : ∀ i, cut ≤ i → i < n → ((t.take cut ++ List.flatten (List.replicate (t.length / size + 1) (piece t cut (cut + size)))).take t.length).getD i 0 = R (cut + (i - cut) % size) := fun i h2 h3 => by
    have hm := Nat.mod_lt (i - cut) h1
    rw [getD_take (by omega), getD_app, hx, if_neg (by omega), hlen, rep_get (by omega) _ _ (by rw [hw]; omega), hw, piece_get (by omega), T.2 _ (by omega)]
  have low : ∀ i, i < cut → ((t.take cut ++ List.flatten (List.replicate (t.length / size + 1) (piece t cut (cut + size)))).take t.length).getD i 0 = R i := fun i h2 => by
    rw [getD_take (by omega), getD_app, hx, if_pos h2, getD_take h2, T.2 _ (by omega)]
  have hl : ((t.take cut ++ List.flatten (List.replicate (t.length / size + 1) (piece t cut (cut + size)))).take t.length).length = n := by
    rw [List.length_take, List.length_append, hx, rep_length, hw, hlen]
    omega
  constructor
  · intro h
    have e : ∀ i, cut ≤ i → i < n → R i = R (cut + (i - cut) % size) := fun i h2 h3 => by
      have q := get i h2 h3
      rw [h, T.2 i h3] at q
      exact q
    have s1 : ∀ i, cut ≤ i → i + size < n → R (i + size) = R i := fun i h2 h3 => by
      rw [e (i + size) (by omega) h3, e i h2 (by omega), show i + size - cut = i - cut + size by omega, Nat.add_mod_right]
    refine ⟨h1, fun i hi => ?_⟩
    by_cases h3 : i + size < n
    · exact s1 i hi h3
    · have P' : Per R (max c cut) p := P.mono (Nat.le_max_left _ _)
      have hc2 : cut ≤ max c cut := Nat.le_max_right _ _
      have hmm := Nat.mod_lt (i - max c cut) hp
      have g1 := P'.mod (i := i) (j := max c cut + (i - max c cut) % p) (by omega) (by omega) (by rw [Nat.add_sub_cancel_left, Nat.mod_mod])
      have g2 := P'.mod (i := i + size) (j := max c cut + (i - max c cut) % p + size) (by omega) (by omega) (by
        rw [show i + size - max c cut = (i - max c cut) + size by omega, show max c cut + (i - max c cut) % p + size - max c cut = (i - max c cut) % p + size by omega, Nat.mod_add_mod])
      rw [g1, g2]
      exact s1 _ (by omega) (by omega)
  · intro W
    refine getD_ext (by rw [hl, hlen]) fun i hi => ?_
    rw [hl] at hi
    rw [T.2 i hi]
    by_cases h2 : i < cut
    · exact low i h2
    · rw [get i (by omega) hi]
      exact W.mod (by omega) (by omega) (by rw [Nat.add_sub_cancel_left, Nat.mod_mod])
theorem lst_found {R : Nat → Nat} {n : Nat} {t : List Nat} (T : Txt R n t) {cut size c p B : Nat} (P : Per R c p) (hpB : p ≤ B) (h1 : 1 ≤ size) (hsB : size ≤ B) (hn : max c cut + B + B ≤ n) (hw : Win t cut size)
    (hc : ∀ c' s, c' < cut → 1 ≤ s → s ≤ B → ¬ Win t c' s) (hs : ∀ s, 1 ≤ s → s < size → ¬ Win t cut s) : Lst R (t.take cut) (piece t cut (cut + size)) := by
  have W := (win_iff T P h1 (by omega)).mp hw
  have hlen := T.1
  have hp := P.1
  have hx : (t.take cut).length = cut := by rw [List.length_take]; omega
  have hy : (piece t cut (cut + size)).length = size := by rw [piece_len (by omega)]; omega
  refine Lst.of ⟨by omega, fun i => ?_⟩ ?_ ?_
  · by_cases hi : i < cut
    · rw [row_head (by omega), getD_take hi, T.2 _ (by omega)]
    · have hm := Nat.mod_lt (i - cut) h1
      rw [row_again (by omega), hx, hy, piece_get (by omega), T.2 _ (by omega)]
      exact W.mod (by omega) (by omega) (by rw [Nat.add_sub_cancel_left, Nat.mod_mod])
  · intro c' p' P'
    rw [hx]
    by_cases h : cut ≤ c'
    · exact h
    · exact absurd ((win_iff T P hp (by omega)).mpr (P'.down P)) (hc c' p (by omega) hp hpB)
  · intro p' P'
    rw [hx] at P'
    rw [hy]
    by_cases h : size ≤ p'
    · exact h
    · exact absurd ((win_iff T P P'.1 (by omega)).mpr P') (hs p' P'.1 (by omega))
end WK
namespace WK
open PySem PySem.Spec PyProof.Rows L2

/-! ### texts as lists of codes -/
def tx (l : List Nat) : Str := ⟨l.toArray⟩
theorem tx_toList (l : List Nat) : (tx l).cps.toList = l := rfl
theorem tx_len (l : List Nat) : (tx l).length = l.length := by
  show l.toArray.size = l.length
  exact List.size_toArray
theorem tx_inj {a b : List Nat} (h : tx a = tx b) : a = b := by
  have := congrArg (fun z : Str => z.cps.toList) h
  exact this
theorem tx_eq (a b : List Nat) : decide (V.str (tx a) = V.str (tx b)) = decide (a = b) := by
  by_cases e : a = b
  · subst e; simp
  · rw [decide_eq_false e, decide_eq_false]
    intro z
    exact e (tx_inj (V.str.inj z))
theorem tx_add (a b : List Nat) : tx a ++ tx b = tx (a ++ b) := by
  show (⟨a.toArray ++ b.toArray⟩ : Str) = ⟨(a ++ b).toArray⟩
  congr 1
  simp
def cutL (l : List Nat) (lo hi : Nat) : List Nat := (l.drop lo).take (hi - lo)
theorem cut_nn (l : List Nat) (lo hi : Nat) : cutS (tx l) (some (lo : Int)) (some (hi : Int)) = tx (cutL l (min lo l.length) (min hi l.length)) := by
  have e : ∀ n, n = l.length → (⟨(List.take (HT.sIx n n (some (hi : Int)) - HT.sIx n 0 (some (lo : Int))) (List.drop (HT.sIx n 0 (some (lo : Int))) l)).toArray⟩ : Str) = tx (cutL l (min lo l.length) (min hi l.length)) := fun n en => by
    subst en
    rw [HT.sIx_nat, HT.sIx_nat]
    rfl
  exact e _ (tx_len l)
theorem cut_n0 (l : List Nat) (lo : Nat) : cutS (tx l) (some (lo : Int)) none = tx (l.drop lo) := by
  show (⟨_⟩ : Str) = ⟨_⟩
  congr 1
  rw [tx_len]
  show (List.take _ (List.drop _ l)).toArray = _
  rw [HT.sIx_nat, HT.sIx_none]
  by_cases h : lo ≤ l.length
  · rw [Nat.min_eq_left h, List.take_of_length_le (by rw [List.length_drop]; omega)]
  · rw [Nat.min_eq_right (by omega), List.drop_of_length_le (by omega), List.drop_of_length_le (show l.length ≤ lo by omega)]
    simp
theorem cut_0n (l : List Nat) (hi : Nat) : cutS (tx l) none (some (hi : Int)) = tx (l.take hi) := by
  show (⟨_⟩ : Str) = ⟨_⟩
  congr 1
  rw [tx_len]
  show (List.take _ (List.drop _ l)).toArray = _
  rw [HT.sIx_nat, HT.sIx_none, List.drop_zero, Nat.sub_zero]
  by_cases h : hi ≤ l.length
  · rw [Nat.min_eq_left h]
  · rw [Nat.min_eq_right (by omega), List.take_of_length_le (by omega), List.take_of_length_le (by omega)]
/-- the list n times -/
def rep (a : List Nat) (n : Nat) : List Nat := (List.replicate n a).flatten
theorem rep_zero (a : List Nat) : rep a 0 = [] := rfl
theorem rep_succ (a : List Nat) (n : Nat) : rep a (n + 1) = a ++ rep a n := by
  unfold rep
  rw [List.replicate_succ, List.flatten_cons]
theorem rep_len (a : List Nat) : ∀ n, (rep a n).length = n * a.length
  | 0 => by rw [rep_zero, Nat.zero_mul]; rfl
  | n + 1 => by rw [rep_succ, List.length_append, rep_len a n, Nat.succ_mul, Nat.add_comm]
theorem foldl_app (a : List Nat) : ∀ (n : Nat) (acc : List Nat), List.foldl (fun x1 x2 => x1 ++ x2) acc.toArray (List.replicate n a.toArray) = (acc ++ rep a n).toArray
  | 0, acc => by rw [rep_zero, List.append_nil]; rfl
  | n + 1, acc => by
    rw [List.replicate_succ, List.foldl_cons, rep_succ]
    have e : acc.toArray ++ a.toArray = (acc ++ a).toArray := by simp
    rw [e, foldl_app a n (acc ++ a), List.append_assoc]
theorem tx_mul (a : List Nat) (n : Nat) : Txt.mul (tx a) (n : Int) = tx (rep a n) := by
  unfold Txt.mul
  by_cases h0 : n = 0
  · subst h0
    rfl
  · rw [if_neg (by omega)]
    by_cases h1 : ((n : Int) == 1 || (tx a).length == 0) = true
    · rw [if_pos h1]
      rw [Bool.or_eq_true, beq_iff_eq, beq_iff_eq, tx_len] at h1
      rcases h1 with h1 | h1
      · have : n = 1 := by omega
        subst this
        rw [rep_succ, rep_zero, List.append_nil]
      · have : a = [] := List.length_eq_zero_iff.mp h1
        subst this
        have : rep [] n = [] := List.length_eq_zero_iff.mp (by rw [rep_len]; simp)
        rw [this]
    · rw [if_neg h1, Int.toNat_natCast]
      show (⟨_⟩ : Str) = ⟨_⟩
      congr 1
      have := foldl_app a n []
      rw [List.nil_append] at this
      exact this
theorem mulOk (a : List Nat) (n : Nat) (h : a.length * n ≤ 1000000) (h2 : n ≤ 1000000) : PySem.MulOk (tx a) (n : Int) := by
  refine ⟨?_, fun h1 _ => ?_, fun h1 _ => ?_⟩
  · rw [Bool.or_eq_false_iff, decide_eq_false_iff_not, decide_eq_false_iff_not]
    constructor <;> omega
  · rw [tx_len]
    have h3 : (a.length : Int) * n ≤ 1000000 := by
      have := Int.ofNat_le.mpr h
      rw [Int.natCast_mul] at this
      exact this
    intro z
    have h4 : (2 ^ 63 - 1 : Int) < n * ((2 ^ 63 - 1) / n + 1) := by
      have := Int.lt_mul_ediv_self_add (x := (2 ^ 63 - 1 : Int)) (k := (n : Int)) (by omega)
      rw [Int.mul_add, Int.mul_one]
      exact this
    have h5 : (n : Int) * ((2 ^ 63 - 1) / n + 1) ≤ n * a.length := Int.mul_le_mul_of_nonneg_left (by omega) (by omega)
    rw [Int.mul_comm] at h3
    omega
  · rw [tx_len, Int.toNat_natCast]
    show decide _ = false
    rw [decide_eq_false_iff_not]
    have : (sizeLine : Nat) = 16777216 := by decide
    omega
section
variable {X : Cx}
theorem op_mul_str : OpR X (binaryOp .Mult) (fun x y H Q => ∃ (a : List Nat) (n : Nat), x = .str (tx a) ∧ y = .int (n : Int) ∧ a.length * n ≤ 1000000 ∧ n ≤ 1000000 ∧ Q (.str (tx (rep a n))) H) := by
  intro pins s σ H x y v u Q I rx ry h
  obtain ⟨a, n, rfl, rfl, h1, h2, q⟩ := h
  obtain ⟨t, rfl⟩ := rx
  obtain ⟨t', rfl⟩ := ry
  refine PySem.SB.mul (mulOk a n h1 h2) (fun t' tk => ⟨.str (Txt.mul (tx a) n), H, I.tok _, ⟨_, rfl⟩, ?_⟩)
  rw [tx_mul]
  exact q
def CPowB (i j : Int) : Prop := 0 ≤ j ∧ (Builtin.Int.intBits i : Int) * j ≤ 2 ^ 27
theorem op_powB : OpR X (binaryOp .Pow) (rI CPowB fun i j => .int (i ^ j.toNat)) := opI fun _ _ _ _ _ _ _ hc q => PyProof.Rows.pow_int hc.1 hc.2 q
end
end WK
namespace WK
open PySem PySem.Spec PyProof.Rows L2
def topS (i : Nat) : Stmt := PySem.Challenge.pw_clockloom_k01_words_looked_at.main.body.getD i (.Pass ⟨0, 0, 0, 0⟩)
structure Cal (P : Program) (w : World) (K : PySem.W.Frag) (mg : Str → Option Value) (base : Heap) (CX : CXT) (k : Nat) (f : Addr) (fd : FuncData) (x : Str) (ps : List Str) (sp : Sp) : Prop where
  G : FnOk P w K mg base CX k f fd ps sp
  g : mg x = some (.ref f)
  kp : PySem.W.keepIn K (.ref f) = true
  b : Binds K fd ps []
abbrev s_is_signs : Stmt := topS 1
theorem sc_is_signs : FnScope ["thing"] ["thing"] (defScope s_is_signs) := ⟨rfl, rfl, rfl, by decide +kernel, rfl, by decide +kernel, by decide +kernel⟩
abbrev s_is_word : Stmt := topS 7
theorem sc_is_word : FnScope ["thing", "head", "again"] ["thing"] (defScope s_is_word) := ⟨rfl, rfl, rfl, by decide +kernel, rfl, by decide +kernel, by decide +kernel⟩
abbrev s_check_word : Stmt := topS 8
theorem sc_check_word : FnScope ["word"] ["word"] (defScope s_check_word) := ⟨rfl, rfl, rfl, by decide +kernel, rfl, by decide +kernel, by decide +kernel⟩
abbrev s_shortest_again : Stmt := topS 9
theorem sc_shortest_again : FnScope ["again"] ["again"] (defScope s_shortest_again) := ⟨rfl, rfl, rfl, by decide +kernel, rfl, by decide +kernel, by decide +kernel⟩
abbrev s_taken_in : Stmt := topS 10
theorem sc_taken_in : FnScope ["head", "again", "row", "low", "high", "middle"] ["head", "again"] (defScope s_taken_in) := ⟨rfl, rfl, rfl, by decide +kernel, rfl, by decide +kernel, by decide +kernel⟩
abbrev s_least : Stmt := topS 11
theorem sc_least : FnScope ["head", "again", "taken", "cut"] ["head", "again"] (defScope s_least) := ⟨rfl, rfl, rfl, by decide +kernel, rfl, by decide +kernel, by decide +kernel⟩
abbrev s_least_word : Stmt := topS 12
theorem sc_least_word : FnScope ["word"] ["word"] (defScope s_least_word) := ⟨rfl, rfl, rfl, by decide +kernel, rfl, by decide +kernel, by decide +kernel⟩
theorem same_upd {H : Hp} {p : Addr} {o : HO} (h : H p = none) : Same H (upd H p o) := fun b x e => by
  rw [upd_ne (ne_of_none e h)]
  exact e
def Bin (x : List Nat) : Prop := ∀ c ∈ x, c = 48 ∨ c = 49
instance (x : List Nat) : Decidable (Bin x) := inferInstanceAs (Decidable (∀ c ∈ x, c = 48 ∨ c = 49))
theorem szl : (sizeLine : Nat) = 16777216 := by decide
theorem bin_goes {x : List Nat} : Bin x ↔ ∀ k, k < x.length → (("01" : Str).cps.contains ((tx x).cps.getD k 0)) = true := by
  have e : ∀ c : Nat, ("01" : Str).cps.contains c = (c == 48 || c == 49) := fun c => by
    show (#[48, 49] : Array Nat).contains c = _
    simp [Array.contains]
  have g : ∀ k (h : k < x.length), (tx x).cps.getD k 0 = x[k] := fun k h => by
    show x.toArray.getD k 0 = x[k]
    simp [Array.getD, h]
  constructor
  · intro h k hk
    rw [e, g k hk]
    rcases h _ (List.getElem_mem hk) with z | z <;> rw [z] <;> rfl
  · intro h c hc
    obtain ⟨k, hk, rfl⟩ := List.getElem_of_mem hc
    have := h k hk
    rw [e, g k hk, Bool.or_eq_true, beq_iff_eq, beq_iff_eq] at this
    exact this
theorem strip_bin (x : List Nat) : (!(((Txt.stripChars (tx x) "01").length : Int) != 0)) = decide (Bin x) := by
  have hl := tx_len x
  have e : (Txt.stripChars (tx x) "01").length = PySem.stripHi ("01" : Str).cps.contains true (tx x) (PySem.stripLo ("01" : Str).cps.contains true (tx x)) - PySem.stripLo ("01" : Str).cps.contains true (tx x) := by
    unfold Txt.stripChars
    rw [PyProof.Rows.stripBy_eq]
    obtain ⟨a1, _, _⟩ := PyProof.Rows.lo_facts ("01" : Str).cps.contains (tx x)
    obtain ⟨b1, b2, _, _⟩ := PyProof.Rows.hi_facts ("01" : Str).cps.contains (tx x) _ a1
    have hz : (tx x).cps.size = (tx x).length := rfl
    show ((tx x).cps.extract _ _).size = _
    rw [Array.size_extract]
    omega
  obtain ⟨a1, a2, a3⟩ := PyProof.Rows.lo_facts ("01" : Str).cps.contains (tx x)
  obtain ⟨b1, b2, b3, b4⟩ := PyProof.Rows.hi_facts ("01" : Str).cps.contains (tx x) _ a1
  by_cases hb : Bin x
  · rw [decide_eq_true hb]
    have h0 : PySem.stripLo ("01" : Str).cps.contains true (tx x) = (tx x).length := by
      rcases a3 with h | h
      · exact h
      · by_cases hlt : PySem.stripLo ("01" : Str).cps.contains true (tx x) < x.length
        · rw [bin_goes.mp hb _ hlt] at h
          cases h
        · omega
    have : (Txt.stripChars (tx x) "01").length = 0 := by omega
    rw [this]
    rfl
  · rw [decide_eq_false hb]
    have h1 : PySem.stripLo ("01" : Str).cps.contains true (tx x) < x.length := by
      by_cases hlt : PySem.stripLo ("01" : Str).cps.contains true (tx x) < x.length
      · exact hlt
      · exact absurd (bin_goes.mpr fun k hk => a2 k (by omega)) hb
    have h2 : PySem.stripLo ("01" : Str).cps.contains true (tx x) < PySem.stripHi ("01" : Str).cps.contains true (tx x) (PySem.stripLo ("01" : Str).cps.contains true (tx x)) := by
      by_cases hlt : PySem.stripLo ("01" : Str).cps.contains true (tx x) < PySem.stripHi ("01" : Str).cps.contains true (tx x) (PySem.stripLo ("01" : Str).cps.contains true (tx x))
      · exact hlt
      · refine absurd (bin_goes.mpr fun k hk => ?_) hb
        by_cases hk2 : k < PySem.stripLo ("01" : Str).cps.contains true (tx x)
        · exact a2 k hk2
        · exact b3 k (by omega) (by omega)
    have : ¬ (Txt.stripChars (tx x) "01").length = 0 := by omega
    have h3 : (((Txt.stripChars (tx x) "01").length : Int) != 0) = true := by
      rw [bne_iff_ne]
      omega
    rw [h3]
    rfl
def SignsIs (H : Hp) (v : V) (b : Bool) : Prop := (∃ x, v = .str (tx x) ∧ x.length ≤ 100000 ∧ b = decide (Bin x)) ∨ (b = false ∧ (v = .non ∨ (∃ i, v = .int i) ∨ ∃ a xs, v = .ref a ∧ H a = some (.lst xs)))
def WordAt (H : Hp) (a : Addr) (x y : List Nat) : Prop := H a = some (.tup [.str (tx x), .str (tx y)]) ∧ Bin x ∧ Bin y ∧ x.length ≤ 20000 ∧ 1 ≤ y.length ∧ y.length ≤ 20000
def WordIs (H : Hp) (v : V) (b : Bool) : Prop :=
  (∃ a x y, v = .ref a ∧ H a = some (.tup [.str (tx x), .str (tx y)]) ∧ x.length ≤ 100000 ∧ y.length ≤ 100000 ∧ b = decide (Bin x ∧ Bin y ∧ x.length ≤ 20000 ∧ 1 ≤ y.length ∧ y.length ≤ 20000)) ∨
  (b = false ∧ ((∃ a u z bu bz, v = .ref a ∧ H a = some (.tup [u, z]) ∧ SignsIs H u bu ∧ SignsIs H z bz ∧ (bu = false ∨ bz = false)) ∨
    (∃ a xs, v = .ref a ∧ H a = some (.tup xs) ∧ xs.length ≠ 2 ∧ xs.length ≤ 100) ∨ v = .non ∨ (∃ i, v = .int i) ∨ (∃ c, v = .bl c) ∨ (∃ x, v = .str x) ∨ ∃ a xs, v = .ref a ∧ H a = some (.lst xs)))
section
variable {P : Program} {w : World} {K : PySem.W.Frag} {mg : Str → Option Value} {base : Heap}
def sp_is_signs (_ : PySem.W.Frag) : Sp := fun vs H Q _ => ∃ v b, vs = [v] ∧ SignsIs H v b ∧ Q (.bl b) H
theorem ok_is_signs {f : Addr} {fd : FuncData} (F : Fun K "is_signs" "is_signs" s_is_signs f fd) (m_isinstance : mg "isinstance" = none) (m_str : mg "str" = none) : FnOk P w K mg base CX0 1 f fd ["thing"] (sp_is_signs K) := by
  refine F.ok sc_is_signs (fun vs H Q E h => ?_) (fun cdv A outer s H vs Q E hr h => ?_)
  · obtain ⟨v, b, rfl, _⟩ := h
    rfl
  · obtain ⟨v, b, rfl, hv, q⟩ := h
    refine ⟨_, (pss_one (ps_ret (pe_and (pe_callB call_isi (by rfl) m_isinstance (by decide +kernel) (pa_cons (pv 0) (pa_cons (pe_bltn (v := .ty "str") (by rfl) m_str (by decide +kernel) rfl) pa_nil))) (pe_one (pe_notT (pe_bm PySem.F.plainAttrs_str PySem.F.slot_str_strip PySem.F.type_str_strip mt_stripChars (pv 0) (pa_cons pe_str pa_nil))))))), ?_⟩
    rcases hv with ⟨x, rfl, hx, rfl⟩ | ⟨rfl, rfl | ⟨i, rfl⟩ | ⟨a, xs, rfl, ha⟩⟩
    · have hxl := tx_len x
      have hz := szl
      have hs := PyProof.Rows.len_stripChars (tx x) "01"
      refine ⟨_, rfl, _, .ty "str", .type "str", .type "str", true, rfl, .ty "str", .base (.str _), kit_ty (by decide +kernel), true, rfl, iteT ?_⟩
      refine ⟨_, rfl, rfl, tx x, "01", rfl, rfl, by omega, _, ⟨by omega, rfl⟩, ?_⟩
      rw [strip_bin]
      exact q
    · exact ⟨_, rfl, _, .ty "str", .type "NoneType", .type "str", false, rfl, .ty "str", .base .non, kit_ty (by decide +kernel), false, rfl, iteF q⟩
    · exact ⟨_, rfl, _, .ty "str", .type "int", .type "str", false, rfl, .ty "str", .base (.int _), kit_ty (by decide +kernel), false, rfl, iteF q⟩
    · exact ⟨_, rfl, _, .ty "str", .type "list", .type "str", false, rfl, .ty "str", .base (.lst ha), kit_ty (by decide +kernel), false, rfl, iteF q⟩
def sp_is_word (_ : PySem.W.Frag) : Sp := fun vs H Q _ => ∃ v b, vs = [v] ∧ WordIs H v b ∧ Q (.bl b) H
theorem ok_is_word {f : Addr} {fd : FuncData} (F : Fun K "is_word" "is_word" s_is_word f fd) (m_isinstance : mg "isinstance" = none) (m_len : mg "len" = none) (m_tuple : mg "tuple" = none) (g_MOST_SIGNS : ∃ t, mg "MOST_SIGNS" = some (.int 20000 t)) {f_is_signs : Addr} {fd_is_signs : FuncData} (c_is_signs : Cal P w K mg base CX0 1 f_is_signs fd_is_signs "is_signs" ["thing"] (sp_is_signs K)) : FnOk P w K mg base CX0 2 f fd ["thing"] (sp_is_word K) := by
  refine F.ok sc_is_word (fun vs H Q E h => ?_) (fun cdv A outer s H vs Q E hr h => ?_)
  · obtain ⟨v, b, rfl, _⟩ := h
    rfl
  · obtain ⟨v, b, rfl, hv, q⟩ := h
    refine ⟨_, (pss_cons (ps_if (PW.pt (pw_or (pt_not (pt_val (pe_callB call_isi (by rfl) m_isinstance (by decide +kernel) (pa_cons (pv 0) (pa_cons (pe_bltn (v := .ty "tuple") (by rfl) m_tuple (by decide +kernel) rfl) pa_nil))))) (pw_or1 (pt_cmpR op_ne (pe_callB call_len_seq (by rfl) m_len PySem.boot_len (pa_cons (pv 0) pa_nil)) pe_int (nomark _)))))
        (pss_one (ps_ret pe_bl))
        pss_nil)
      (pss_cons (ps_asg (pv 0) (pg_tup (by rfl) (pgs_cons (pg_name (i := 1) sc_is_word.nd rfl (Or.inl rfl)) (pgs_cons (pg_name (i := 2) sc_is_word.nd rfl (Or.inl rfl)) pgs_nil))))
      (pss_cons (ps_if (PW.pt (pw_or (pt_not (pt_val (pe_call c_is_signs.G (hr.mono (by decide)) (by rfl) c_is_signs.g c_is_signs.kp c_is_signs.b .nil pass0 (pa_cons (pv 1) pa_nil)))) (pw_or1 (pt_not (pt_val (pe_call c_is_signs.G (hr.mono (by decide)) (by rfl) c_is_signs.g c_is_signs.kp c_is_signs.b .nil pass0 (pa_cons (pv 2) pa_nil)))))))
        (pss_one (ps_ret pe_bl))
        pss_nil)
      (pss_one (ps_ret (pe_and (pe_cmpR op_le (pe_callB call_len_str (by rfl) m_len PySem.boot_len (pa_cons (pv 1) pa_nil)) (pe_glob (v := .int 20000) (by rfl) g_MOST_SIGNS.choose_spec ⟨_, rfl⟩) (nomark _)) (pe_one (pe_chain op_le op_le pe_int (pe_callB call_len_str (by rfl) m_len PySem.boot_len (pa_cons (pv 2) pa_nil)) (pe_glob (v := .int 20000) (by rfl) g_MOST_SIGNS.choose_spec ⟨_, rfl⟩))))))))), ?_⟩
    have hz := szl
    have c3 : (∃ a u z bu bz, v = .ref a ∧ H a = some (.tup [u, z]) ∧ SignsIs H u bu ∧ SignsIs H z bz ∧ ((bu = false ∨ bz = false) → b = false) ∧
        (bu = true → bz = true → ∃ x y, u = .str (tx x) ∧ z = .str (tx y) ∧ x.length ≤ 100000 ∧ y.length ≤ 100000 ∧ b = decide (x.length ≤ 20000 ∧ 1 ≤ y.length ∧ y.length ≤ 20000))) ∨
        (∃ a xs, v = .ref a ∧ H a = some (.tup xs) ∧ xs.length ≠ 2 ∧ b = false) ∨ (∃ t, TyX K H v (.type t) ∧ kitB t "tuple" = some false ∧ b = false) := by
      rcases hv with ⟨a, x, y, rfl, ha, hx, hy, rfl⟩ | ⟨rfl, ⟨a, u, z, bu, bz, rfl, ha, hu, hz2, hb⟩ | ⟨a, xs, rfl, ha, hn, hl⟩ | rfl | ⟨i, rfl⟩ | ⟨c, rfl⟩ | ⟨x, rfl⟩ | ⟨a, xs, rfl, ha⟩⟩
      · refine .inl ⟨a, _, _, decide (Bin x), decide (Bin y), rfl, ha, .inl ⟨x, rfl, hx, rfl⟩, .inl ⟨y, rfl, hy, rfl⟩, fun h => ?_, fun h1 h2 => ⟨x, y, rfl, rfl, hx, hy, ?_⟩⟩
        · refine decide_eq_false fun hh => ?_
          rcases h with h | h
          · exact absurd hh.1 (of_decide_eq_false h)
          · exact absurd hh.2.1 (of_decide_eq_false h)
        · exact decide_eq_decide.mpr ⟨fun h => h.2.2, fun h => ⟨of_decide_eq_true h1, of_decide_eq_true h2, h⟩⟩
      · exact .inl ⟨a, u, z, bu, bz, rfl, ha, hu, hz2, fun _ => rfl, fun h1 h2 => by
          rcases hb with hb | hb
          · rw [hb] at h1; cases h1
          · rw [hb] at h2; cases h2⟩
      · exact .inr (.inl ⟨a, xs, rfl, ha, hn, rfl⟩)
      · exact .inr (.inr ⟨_, .base .non, by decide +kernel, rfl⟩)
      · exact .inr (.inr ⟨_, .base (.int _), by decide +kernel, rfl⟩)
      · exact .inr (.inr ⟨_, .base (.bl _), by decide +kernel, rfl⟩)
      · exact .inr (.inr ⟨_, .base (.str _), by decide +kernel, rfl⟩)
      · exact .inr (.inr ⟨_, .base (.lst ha), by decide +kernel, rfl⟩)
    rcases c3 with ⟨a, u, z, bu, bz, rfl, ha, hu, hz', hno, hyes⟩ | ⟨a, xs, rfl, ha, hn, rfl⟩ | ⟨t, ht, hk, rfl⟩
    · refine ⟨_, rfl, _, .ty "tuple", .type "tuple", .type "tuple", true, rfl, .ty "tuple", .base (.tup ha), kit_ty (by decide +kernel), true, rfl, ?_⟩
      refine iteF ?_
      refine ⟨_, rfl, a, [u, z], rfl, .inr (SqT.of ha), rfl, _, rfl, ?_⟩
      refine iteF ?_
      refine ⟨_, rfl, a, [u, z], rfl, SqT.of ha, rfl, u, [z], rfl, z, [], rfl, rfl, ?_⟩
      refine ⟨_, rfl, _, bu, rfl, hu, bu, rfl, ?_⟩
      cases bu with
      | false =>
        refine iteT (iteT ?_)
        rw [hno (.inl rfl)] at q
        exact q
      | true =>
        refine iteF ?_
        refine ⟨_, rfl, _, bz, rfl, hz', bz, rfl, ?_⟩
        cases bz with
        | false =>
          refine iteT ?_
          rw [hno (.inr rfl)] at q
          exact q
        | true =>
          refine iteF ?_
          obtain ⟨x, y, rfl, rfl, hx, hy, rfl⟩ := hyes rfl rfl
          have hxl := tx_len x
          have hyl := tx_len y
          refine ⟨_, rfl, _, rfl, by omega, _, _, rfl, rfl, decide (x.length ≤ 20000), ?_, ?_⟩
          · show V.bl (decide (((tx x).length : Int) ≤ 20000)) = V.bl (decide (x.length ≤ 20000))
            rw [hxl]
            congr 1
            exact decide_eq_decide.mpr (by omega)
          · by_cases h1 : x.length ≤ 20000
            · rw [decide_eq_true h1]
              refine iteT ⟨_, rfl, _, rfl, by omega, _, _, rfl, rfl, decide (1 ≤ y.length), ?_, ?_⟩
              · show V.bl (decide ((1 : Int) ≤ ((tx y).length : Int))) = V.bl (decide (1 ≤ y.length))
                rw [hyl]
                congr 1
                exact decide_eq_decide.mpr (by omega)
              · by_cases h2 : 1 ≤ y.length
                · rw [decide_eq_true h2]
                  refine iteT ⟨_, _, rfl, rfl, ?_⟩
                  show Q (V.bl (decide (((tx y).length : Int) ≤ 20000))) H
                  rw [hyl]
                  rw [show decide ((y.length : Int) ≤ 20000) = decide (x.length ≤ 20000 ∧ 1 ≤ y.length ∧ y.length ≤ 20000) from decide_eq_decide.mpr (by omega)]
                  exact q
                · rw [decide_eq_false h2]
                  rw [decide_eq_false (by omega)] at q
                  exact iteF q
            · rw [decide_eq_false h1]
              rw [decide_eq_false (by omega)] at q
              exact iteF q
    · refine ⟨_, rfl, _, .ty "tuple", .type "tuple", .type "tuple", true, rfl, .ty "tuple", .base (.tup ha), kit_ty (by decide +kernel), true, rfl, ?_⟩
      refine iteF ?_
      refine ⟨_, rfl, a, xs, rfl, .inr (SqT.of ha), rfl, _, rfl, ?_⟩
      have hd : (!decide (V.int (xs.length : Int) = V.int 2)) = true := by
        rw [decide_eq_false]
        · rfl
        · intro z
          have := V.int.inj z
          omega
      rw [hd]
      exact iteT q
    · refine ⟨_, rfl, _, .ty "tuple", .type t, .type "tuple", false, rfl, .ty "tuple", ht, kit_ty hk, false, rfl, ?_⟩
      exact iteT (iteT q)
end
end WK
namespace WK
open PySem PySem.Spec PyProof.Rows L2
/-! ### the first place of a text in another -/
def Hit (s sub : Str) (hi i : Nat) : Prop := i + sub.length ≤ hi ∧ Builtin.Str.subAt s sub i = true
theorem occ_stop (s sub : Str) (hi : Nat) : ∀ (l : List Nat) (st : Array Nat × Nat), 1 ≤ st.fst.size → (forIn l st (PySem.StrLaws.occBody s sub hi 1)).run.fst = st.fst
  | [], st, _ => by simp
  | a :: l, st, h => by
    rw [List.forIn_cons]
    unfold PySem.StrLaws.occBody
    rw [if_neg (by omega)]
    exact occ_stop s sub hi l st h
theorem occ_hit (s sub : Str) (hi d : Nat) (l2 : List Nat) (hd : Hit s sub hi d) : ∀ (l1 : List Nat) (free : Nat), (∀ i ∈ l1, ¬ Hit s sub hi i) → (∀ i ∈ l1, free ≤ i) → free ≤ d →
    (forIn (l1 ++ d :: l2) ((#[] : Array Nat), free) (PySem.StrLaws.occBody s sub hi 1)).run.fst = #[d]
  | [], free, _, _, hf => by
    rw [List.nil_append, List.forIn_cons]
    unfold PySem.StrLaws.occBody
    rw [if_pos ⟨⟨⟨by simp, hf⟩, hd.1⟩, hd.2⟩]
    exact occ_stop s sub hi l2 _ (by simp)
  | a :: l1, free, hn, hl, hf => by
    rw [List.cons_append, List.forIn_cons]
    unfold PySem.StrLaws.occBody
    have na := hn a (List.mem_cons_self ..)
    rw [if_neg fun z => na ⟨z.1.2, z.2⟩]
    exact occ_hit s sub hi d l2 hd l1 free (fun i h => hn i (List.mem_cons_of_mem _ h)) (fun i h => hl i (List.mem_cons_of_mem _ h)) hf
theorem occ_first {s sub : Str} {lo hi d : Nat} (h1 : lo ≤ d) (h2 : d ≤ hi) (hd : Hit s sub hi d) (hn : ∀ i, lo ≤ i → i < d → ¬ Hit s sub hi i) : Builtin.Str.occurrences s sub lo hi 1 = [d] := by
  rw [PySem.StrLaws.occ_eq]
  have e : List.range' lo (hi + 1 - lo) = List.range' lo (d - lo) ++ d :: List.range' (d + 1) (hi - d) := by
    rw [show hi + 1 - lo = (d - lo) + ((hi - d) + 1) by omega, ← List.range'_append_1, List.range'_succ, show lo + (d - lo) = d by omega]
  rw [e, occ_hit s sub hi d _ hd _ lo (fun i hi' => ?_) (fun i hi' => ?_) h1]
  · rw [List.mem_range'_1] at hi'
    exact hn i hi'.1 (by omega)
  · rw [List.mem_range'_1] at hi'
    exact hi'.1
theorem hit_tx {a b : List Nat} {hi i : Nat} (h : hi = a.length) : Hit (tx a) (tx b) hi i ↔ i + b.length ≤ a.length ∧ (a.drop i).take b.length = b := by
  unfold Hit
  rw [tx_len, PySem.StrLaws.subAt_eq, tx_len, h, tx_toList, tx_toList]
  exact ⟨fun z => ⟨z.1, by simpa using z.2⟩, fun z => ⟨z.1, by simpa using z.2⟩⟩
theorem find_again {a : List Nat} (ha : 0 < a.length) : ∃ d, Sho a d ∧ Txt.find3 (tx (a ++ a)) (tx a) 1 = (d : Int) := by
  obtain ⟨d, h1, h2, h3, h4⟩ := sho_ex ha
  refine ⟨d, sho_of h1 h2 h3 h4, ?_⟩
  unfold Txt.find3
  have hl : (tx (a ++ a)).length = (a ++ a).length := tx_len _
  have hl2 : (a ++ a).length = a.length + a.length := List.length_append
  have ef : PySem.fromIndex (tx (a ++ a)).length 1 = 1 := rfl
  rw [ef, occ_first (d := d) h1 (by omega) ((hit_tx hl).mpr ⟨by omega, h3⟩) fun i g1 g2 z => h4 i g1 g2 ((hit_tx hl).mp z).2]
theorem nat_div1 (a b : Nat) : (a : Int) / b + 1 = ((a / b + 1 : Nat) : Int) := rfl
section
variable {P : Program} {w : World} {K : PySem.W.Frag} {mg : Str → Option Value} {base : Heap}
def sp_check_word (_ : PySem.W.Frag) : Sp := fun vs H Q _ => ∃ a x y, vs = [.ref a] ∧ WordAt H a x y ∧ Q .non H
theorem WordAt.is {H : Hp} {a : Addr} {x y : List Nat} (h : WordAt H a x y) : WordIs H (.ref a) true := by
  obtain ⟨h1, h2, h3, h4, h5, h6⟩ := h
  exact .inl ⟨a, x, y, rfl, h1, by omega, by omega, (decide_eq_true ⟨h2, h3, h4, h5, h6⟩).symm⟩
theorem ok_check_word {f : Addr} {fd : FuncData} (F : Fun K "_check_word" "_check_word" s_check_word f fd) {f_is_word : Addr} {fd_is_word : FuncData} (c_is_word : Cal P w K mg base CX0 2 f_is_word fd_is_word "is_word" ["thing"] (sp_is_word K)) : FnOk P w K mg base CX0 3 f fd ["word"] (sp_check_word K) := by
  refine F.ok sc_check_word (fun vs H Q E h => ?_) (fun cdv A outer s H vs Q E hr h => ?_)
  · obtain ⟨v, _, _, rfl, _⟩ := h
    rfl
  · obtain ⟨a, x, y, rfl, hw, q⟩ := h
    refine ⟨_, (pss_one (ps_if (pt_not (pt_val (pe_call c_is_word.G (hr.mono (by decide)) (by rfl) c_is_word.g c_is_word.kp c_is_word.b .nil pass0 (pa_cons (pv 0) pa_nil))))
        (pss_one ps_never)
        pss_nil)), ?_⟩
    exact ⟨_, rfl, _, true, rfl, hw.is, true, rfl, iteF q⟩
def sp_shortest_again (_ : PySem.W.Frag) : Sp := fun vs H Q _ => ∃ a, vs = [.str (tx a)] ∧ 0 < a.length ∧ a.length ≤ 20000 ∧ ∀ d, Sho a d → Q (.str (tx (a.take d))) H
theorem ok_shortest_again {f : Addr} {fd : FuncData} (F : Fun K "_shortest_again" "_shortest_again" s_shortest_again f fd) : FnOk P w K mg base CX0 1 f fd ["again"] (sp_shortest_again K) := by
  refine F.ok sc_shortest_again (fun vs H Q E h => ?_) (fun cdv A outer s H vs Q E hr h => ?_)
  · obtain ⟨v, rfl, _⟩ := h
    rfl
  · obtain ⟨a, rfl, h1, h2, q⟩ := h
    have hz := szl
    have hl := tx_len a
    refine ⟨_, (pss_one (ps_ret (pe_slice sl_str (pv 0) po_none (po_some (pe_bm PySem.F.plainAttrs_str PySem.F.slot_str_find PySem.F.type_str_find mt_find3 (pe_op op_add_str (pv 0) (pv 0)) (pa_cons (pv 0) (pa_cons pe_int pa_nil))))))), ?_⟩
    obtain ⟨d, S, e⟩ := find_again h1
    refine ⟨_, rfl, ?_⟩
    refine ⟨_, rfl, _, rfl, tx a, tx a, rfl, rfl, by omega, ?_⟩
    refine ⟨rfl, _, rfl, tx a ++ tx a, tx a, 1, rfl, rfl, _, rfl, tx a, rfl, by omega, ?_⟩
    rw [tx_add, e, cut_0n]
    exact q d S
def sp_taken_in (_ : PySem.W.Frag) : Sp := fun vs H Q _ => ∃ h a, vs = [.str (tx h), .str (tx a)] ∧ 0 < a.length ∧ a.length ≤ 20000 ∧ h.length ≤ 20000 ∧ ∀ m, Tak h a m → Q (.int (m : Nat)) H
theorem ok_taken_in {f : Addr} {fd : FuncData} (F : Fun K "_taken_in" "_taken_in" s_taken_in f fd) (m_len : mg "len" = none) : FnOk P w K mg base CX0 1 f fd ["head", "again"] (sp_taken_in K) := by
  refine F.ok sc_taken_in (fun vs H Q E h => ?_) (fun cdv A outer s H vs Q E hr h => ?_)
  · obtain ⟨_, _, rfl, _⟩ := h
    rfl
  · obtain ⟨h, a, rfl, h1, h2, h3, q⟩ := h
    have hz := szl
    have hl := tx_len a
    have hlh := tx_len h
    refine ⟨_, (pss_cons (ps_set (i := 2) sc_taken_in.nd rfl (Or.inl rfl) (pe_op op_mul_str (pv 1) (pe_op op_add (pe_op op_fdiv (pe_callB call_len_str (by rfl) m_len PySem.boot_len (pa_cons (pv 0) pa_nil)) (pe_callB call_len_str (by rfl) m_len PySem.boot_len (pa_cons (pv 1) pa_nil))) pe_int)))
      (pss_cons (ps_set (i := 3) sc_taken_in.nd rfl (Or.inl rfl) pe_int)
      (pss_cons (ps_set (i := 4) sc_taken_in.nd rfl (Or.inl rfl) (pe_callB call_len_str (by rfl) m_len PySem.boot_len (pa_cons (pv 0) pa_nil)))
      (pss_cons (ps_while PassesOwn.never (pt_cmpR op_lt (pv 3) (pv 4) (nomark _))
        (pss_cons (ps_set (i := 5) sc_taken_in.nd rfl (Or.inl rfl) (pe_op op_fdiv (pe_op op_add (pe_op op_add (pv 3) (pv 4)) pe_int) pe_int))
        (pss_one (ps_if (pt_cmpR op_eq (pe_slice sl_str (pv 0) (po_some (pe_op op_sub (pe_callB call_len_str (by rfl) m_len PySem.boot_len (pa_cons (pv 0) pa_nil)) (pv 5))) po_none) (pe_slice sl_str (pv 2) (po_some (pe_op op_sub (pe_callB call_len_str (by rfl) m_len PySem.boot_len (pa_cons (pv 2) pa_nil)) (pv 5))) po_none) (nomark _))
          (pss_one (ps_set (i := 3) sc_taken_in.nd rfl (Or.inl rfl) (pv 5)))
          (pss_one (ps_set (i := 4) sc_taken_in.nd rfl (Or.inl rfl) (pe_op op_sub (pv 5) pe_int)))))))
      (pss_one (ps_ret (pv 3))))))), ?_⟩
    have hdm := Nat.div_add_mod h.length a.length
    have hml := Nat.mod_lt h.length h1
    have hK : (h.length / a.length + 1) * a.length = a.length * (h.length / a.length) + a.length := by rw [Nat.succ_mul, Nat.mul_comm]
    have hKl := rep_len a (h.length / a.length + 1)
    have hKb : h.length / a.length ≤ h.length := Nat.div_le_self _ _
    refine ⟨_, rfl, _, rfl, tx h, rfl, by omega, _, rfl, tx a, rfl, by omega, _, _, rfl, rfl, ⟨?_, ?_⟩, _, _, rfl, rfl, ?_⟩
    · show (0 : Int) < ((tx a).length : Int)
      omega
    · show ((tx a).length : Int) < 1073741824
      omega
    refine ⟨a, h.length / a.length + 1, rfl, ?_, ?_, by omega, ?_⟩
    · show V.int (((tx h).length : Int) / ((tx a).length : Int) + 1) = _
      rw [hlh, hl, nat_div1]
    · rw [Nat.mul_comm, hK]
      omega
    show _
    refine ⟨_, rfl, tx h, rfl, by omega, ?_⟩
    rw [hlh]
    refine while_by (fun σ H' => H' = H ∧ ∃ (lo hi : Nat) (y5 : Option V), σ = [some (.str (tx h)), some (.str (tx a)), some (.str (tx (rep a (h.length / a.length + 1)))), some (.int lo), some (.int hi), y5] ∧ lo ≤ hi ∧ hi ≤ h.length ∧
        Suf h a (h.length / a.length + 1) lo ∧ ∀ i, hi < i → i ≤ h.length → ¬ Suf h a (h.length / a.length + 1) i)
      (fun σ _ => match σ with
        | [_, _, _, some (.int lo), some (.int hi), _] => (hi - lo).toNat
        | _ => 0) ⟨rfl, 0, h.length, none, rfl, Nat.zero_le _, Nat.le_refl _, suf_zero, fun i g1 g2 => by omega⟩ (fun σ H' hP => ?_) (fun σ H' Q1 Q2 hq z => ?_)
    · obtain ⟨rfl, lo, hi, y5, rfl, g1, g2, g3, g4⟩ := hP
      refine ⟨_, rfl, _, rfl, lo, hi, rfl, rfl, _, rfl, ?_⟩
      by_cases hlt : lo < hi
      · rw [decide_eq_true (show (lo : Int) < hi by omega)]
        refine iteT ?_
        refine ⟨_, rfl, _, rfl, lo, hi, rfl, rfl, _, _, rfl, rfl, _, _, rfl, rfl, ⟨by decide, by decide⟩, ?_⟩
        obtain ⟨mid, em, hm1, hm2⟩ : ∃ mid : Nat, ((lo : Int) + (hi : Int) + 1) / 2 = (mid : Int) ∧ lo < mid ∧ mid ≤ hi := ⟨(lo + hi + 1) / 2, by omega, by omega, by omega⟩
        show _
        have hrl : (tx (rep a (h.length / a.length + 1))).length = (h.length / a.length + 1) * a.length := by rw [tx_len, hKl]
        refine ⟨_, rfl, _, rfl, tx h, rfl, by omega, _, rfl, _, _, rfl, rfl, _, rfl, tx h, rfl, by omega, _, rfl, _, rfl, tx _, rfl, by omega, _, rfl, _, _, rfl, rfl, _, rfl, tx _, rfl, by omega, rfl, _, rfl, ?_⟩
        show if decide (V.str (cutS (tx h) (some (((tx h).length : Int) - (((lo : Int) + (hi : Int) + 1) / 2))) none) = V.str (cutS (tx (rep a (h.length / a.length + 1))) (some (((tx (rep a (h.length / a.length + 1))).length : Int) - (((lo : Int) + (hi : Int) + 1) / 2))) none)) = true then _ else _
        rw [em, hrl, hlh, show ((h.length : Int) - (mid : Int)) = ((h.length - mid : Nat) : Int) by omega, show ((((h.length / a.length + 1) * a.length : Nat) : Int) - (mid : Int)) = (((h.length / a.length + 1) * a.length - mid : Nat) : Int) by omega, cut_n0, cut_n0, tx_eq]
        by_cases hs : h.drop (h.length - mid) = (rep a (h.length / a.length + 1)).drop ((h.length / a.length + 1) * a.length - mid)
        · rw [decide_eq_true hs]
          refine iteT ⟨_, rfl, ⟨rfl, mid, hi, some (.int (((lo : Int) + (hi : Int) + 1) / 2)), ?_, hm2, g2, hs, g4⟩, ?_⟩
          · show [_, _, _, some (V.int (((lo : Int) + (hi : Int) + 1) / 2)), _, some (V.int (((lo : Int) + (hi : Int) + 1) / 2))] = _
            rw [em]
          · show ((hi : Int) - (((lo : Int) + (hi : Int) + 1) / 2)).toNat < ((hi : Int) - (lo : Int)).toNat
            omega
        · rw [decide_eq_false hs]
          refine iteF ⟨_, rfl, _, _, rfl, rfl, ⟨rfl, lo, mid - 1, some (.int (((lo : Int) + (hi : Int) + 1) / 2)), ?_, by omega, by omega, g3, fun i k1 k2 z => hs (suf_le h1 (by omega) k2 z (by omega))⟩, ?_⟩
          · show [_, _, _, _, some (V.int ((((lo : Int) + (hi : Int) + 1) / 2) - 1)), some (V.int (((lo : Int) + (hi : Int) + 1) / 2))] = _
            rw [em, show ((mid : Int) - 1) = ((mid - 1 : Nat) : Int) by omega]
          · show ((((lo : Int) + (hi : Int) + 1) / 2 - 1) - (lo : Int)).toNat < ((hi : Int) - (lo : Int)).toNat
            omega
      · rw [decide_eq_false (show ¬ (lo : Int) < hi by omega)]
        refine iteF ⟨_, rfl, q lo (tak_of h1 (by omega) (by omega) g3 fun i k1 k2 => g4 i (by omega) k2)⟩
    · obtain ⟨v1, e1, v2, e2, i, j, e3, e4, k, e5, z⟩ := z
      exact ⟨v1, e1, v2, e2, i, j, e3, e4, k, e5, hq _ _ z⟩
end
end WK
namespace WK
open PySem PySem.Spec PyProof.Rows L2
section
variable {P : Program} {w : World} {K : PySem.W.Frag} {mg : Str → Option Value} {base : Heap}
def sp_least (_ : PySem.W.Frag) : Sp := fun vs H Q _ => ∃ h a, vs = [.str (tx h), .str (tx a)] ∧ 0 < a.length ∧ a.length ≤ 20000 ∧ h.length ≤ 20000 ∧
  ∀ p x y, H p = none → Lst (row h a) x y → x.length ≤ h.length → y.length ≤ a.length → Q (.ref p) (upd H p (.tup [.str (tx x), .str (tx y)]))
theorem ok_least {f : Addr} {fd : FuncData} (F : Fun K "_least" "_least" s_least f fd) (m_len : mg "len" = none) {f_shortest_again : Addr} {fd_shortest_again : FuncData} (c_shortest_again : Cal P w K mg base CX0 1 f_shortest_again fd_shortest_again "_shortest_again" ["again"] (sp_shortest_again K)) {f_taken_in : Addr} {fd_taken_in : FuncData} (c_taken_in : Cal P w K mg base CX0 1 f_taken_in fd_taken_in "_taken_in" ["head", "again"] (sp_taken_in K)) : FnOk P w K mg base CX0 2 f fd ["head", "again"] (sp_least K) := by
  refine F.ok sc_least (fun vs H Q E h => ?_) (fun cdv A outer s H vs Q E hr h => ?_)
  · obtain ⟨_, _, rfl, _⟩ := h
    rfl
  · obtain ⟨h, a, rfl, h1, h2, h3, q⟩ := h
    have hz := szl
    have hlh := tx_len h
    refine ⟨_, (pss_cons (ps_set (i := 1) sc_least.nd rfl (Or.inl rfl) (pe_call c_shortest_again.G (hr.mono (by decide)) (by rfl) c_shortest_again.g c_shortest_again.kp c_shortest_again.b .nil pass0 (pa_cons (pv 1) pa_nil)))
      (pss_cons (ps_set (i := 2) sc_least.nd rfl (Or.inl rfl) (pe_call c_taken_in.G (hr.mono (by decide)) (by rfl) c_taken_in.g c_taken_in.kp c_taken_in.b .nil pass0 (pa_cons (pv 0) (pa_cons (pv 1) pa_nil))))
      (pss_cons (ps_set (i := 3) sc_least.nd rfl (Or.inl rfl) (pe_op op_sub (pe_callB call_len_str (by rfl) m_len PySem.boot_len (pa_cons (pv 1) pa_nil)) (pe_op op_mod (pv 2) (pe_callB call_len_str (by rfl) m_len PySem.boot_len (pa_cons (pv 1) pa_nil)))))
      (pss_one (ps_ret (pe_tup (pa_cons (pe_slice sl_str (pv 0) po_none (po_some (pe_op op_sub (pe_callB call_len_str (by rfl) m_len PySem.boot_len (pa_cons (pv 0) pa_nil)) (pv 2)))) (pa_cons (pe_op op_add_str (pe_slice sl_str (pv 1) (po_some (pv 3)) po_none) (pe_slice sl_str (pv 1) po_none (po_some (pv 3)))) pa_nil)))))))), ?_⟩
    refine ⟨_, rfl, a, rfl, h1, h2, fun d S => ?_⟩
    have hdl : (a.take d).length = d := by rw [List.length_take]; exact Nat.min_eq_left S.le
    have hS1 := S.one
    have hS2 := S.le
    have hla := tx_len (a.take d)
    refine ⟨_, rfl, _, rfl, h, a.take d, rfl, by omega, by omega, by omega, fun m T => ?_⟩
    have hmd := Nat.mod_lt m hS1
    have hT := T.le
    have L := lst_of (h := h) h1 S T
    refine ⟨_, rfl, tx (a.take d), rfl, by omega, _, rfl, _, rfl, tx (a.take d), rfl, by omega, _, _, rfl, rfl, ?_, _, _, rfl, rfl, ?_⟩
    · show (0 : Int) < ((tx (a.take d)).length : Int)
      omega
    have ecut : (((tx (a.take d)).length : Int) - ((m : Nat) : Int) % ((tx (a.take d)).length : Int)) = ((d - m % d : Nat) : Int) := by
      rw [hla, hdl]
      omega
    have ehd : (((tx h).length : Int) - ((m : Nat) : Int)) = ((h.length - m : Nat) : Int) := by omega
    refine ⟨_, rfl, _, rfl, tx h, rfl, by omega, _, rfl, _, _, rfl, rfl, _, rfl, tx h, rfl, by omega, ?_⟩
    refine ⟨_, rfl, _, rfl, _, rfl, tx (a.take d), rfl, by omega, _, rfl, _, rfl, _, rfl, tx (a.take d), rfl, by omega, _, _, rfl, rfl, ?_, ?_⟩
    · show (cutS (tx (a.take d)) (some (((tx (a.take d)).length : Int) - ((m : Nat) : Int) % ((tx (a.take d)).length : Int))) none).length + (cutS (tx (a.take d)) none (some (((tx (a.take d)).length : Int) - ((m : Nat) : Int) % ((tx (a.take d)).length : Int)))).length ≤ sizeLine
      have c1 := cutS_length (tx (a.take d)) (some (((tx (a.take d)).length : Int) - ((m : Nat) : Int) % ((tx (a.take d)).length : Int))) none
      have c2 := cutS_length (tx (a.take d)) none (some (((tx (a.take d)).length : Int) - ((m : Nat) : Int) % ((tx (a.take d)).length : Int)))
      omega
    refine ⟨by show 2 ≤ sizeLine; decide, fun p np => ?_⟩
    show Q (.ref p) (upd H p (.tup [.str (cutS (tx h) none (some (((tx h).length : Int) - ((m : Nat) : Int)))), .str (cutS (tx (a.take d)) (some (((tx (a.take d)).length : Int) - ((m : Nat) : Int) % ((tx (a.take d)).length : Int))) none ++ cutS (tx (a.take d)) none (some (((tx (a.take d)).length : Int) - ((m : Nat) : Int) % ((tx (a.take d)).length : Int))))]))
    rw [ecut, ehd, cut_0n, cut_n0, cut_0n, tx_add]
    refine q p _ _ np L ?_ ?_
    · rw [List.length_take]; omega
    · rw [turn_len (by omega)]; omega
def sp_least_word (_ : PySem.W.Frag) : Sp := fun vs H Q _ => ∃ b h a, vs = [.ref b] ∧ WordAt H b h a ∧
  ∀ p x y, H p = none → Lst (row h a) x y → x.length ≤ h.length → y.length ≤ a.length → Q (.ref p) (upd H p (.tup [.str (tx x), .str (tx y)]))
theorem ok_least_word {f : Addr} {fd : FuncData} (F : Fun K "least_word" "least_word" s_least_word f fd) {f_check_word : Addr} {fd_check_word : FuncData} (c_check_word : Cal P w K mg base CX0 3 f_check_word fd_check_word "_check_word" ["word"] (sp_check_word K)) {f_least : Addr} {fd_least : FuncData} (c_least : Cal P w K mg base CX0 2 f_least fd_least "_least" ["head", "again"] (sp_least K)) : FnOk P w K mg base CX0 4 f fd ["word"] (sp_least_word K) := by
  refine F.ok sc_least_word (fun vs H Q E h => ?_) (fun cdv A outer s H vs Q E hr h => ?_)
  · obtain ⟨_, _, _, rfl, _⟩ := h
    rfl
  · obtain ⟨b, h, a, rfl, hw, q⟩ := h
    have hw2 := hw
    obtain ⟨k1, k2, k3, k4, k5, k6⟩ := hw2
    refine ⟨_, (pss_cons (ps_expr (pe_call c_check_word.G (hr.mono (by decide)) (by rfl) c_check_word.g c_check_word.kp c_check_word.b .nil pass0 (pa_cons (pv 0) pa_nil)))
      (pss_one (ps_ret (pe_call c_least.G (hr.mono (by decide)) (by rfl) c_least.g c_least.kp c_least.b .nil pass0 (pa_cons (pe_ix ix_tup (pv 0) pe_int (fun _ _ => rfl)) (pa_cons (pe_ix ix_tup (pv 0) pe_int (fun _ _ => rfl)) pa_nil)))))), ?_⟩
    refine ⟨_, rfl, b, h, a, rfl, hw, ?_⟩
    exact ⟨_, rfl, b, _, 0, _, rfl, rfl, SqT.of k1, atI_nat (j := 0) rfl, _, rfl, b, _, 1, _, rfl, rfl, SqT.of k1, atI_nat (j := 1) rfl, h, a, rfl, k5, k6, k4, q⟩
end
end WK
namespace WK
open PySem PySem.Spec PyProof.Rows L2
abbrev s_law_draws : Stmt := topS 14
theorem sc_law_draws : FnScope ["_law_script", "_law_j", "_law_many", "_law_cell", "_law_great", "_law_number", "_law_found", "_law_k", "_law_mixed"] ["_law_script", "_law_j", "_law_many"] (defScope s_law_draws) := ⟨rfl, rfl, rfl, by decide +kernel, rfl, by decide +kernel, by decide +kernel⟩
abbrev s_law_signs : Stmt := topS 15
theorem sc_law_signs : FnScope ["_law_digits", "_law_many", "_law_digit"] ["_law_digits", "_law_many"] (defScope s_law_signs) := ⟨rfl, rfl, rfl, by decide +kernel, rfl, by decide +kernel, by decide +kernel⟩
abbrev s_law_word : Stmt := topS 16
theorem sc_law_word : FnScope ["_law_script", "_law_j", "_law_digits", "_law_way", "_law_many", "_law_size", "_law_front", "_law_again"] ["_law_script", "_law_j"] (defScope s_law_word) := ⟨rfl, rfl, rfl, by decide +kernel, rfl, by decide +kernel, by decide +kernel⟩
abbrev s_law_text : Stmt := topS 17
theorem sc_law_text : FnScope ["_law_word_here", "_law_many", "_law_front", "_law_again"] ["_law_word_here", "_law_many"] (defScope s_law_text) := ⟨rfl, rfl, rfl, by decide +kernel, rfl, by decide +kernel, by decide +kernel⟩
def nV (n : Nat) : V := .int (n : Int)
theorem mask_eq : (((2 : Int) ^ (60 : Int).toNat) ^ (60 : Int).toNat) ^ (6 : Int).toNat - 1 = 2 ^ 21600 - 1 := by
  rw [← Int.pow_mul, ← Int.pow_mul]
  rfl
section
variable {P : Program} {w : World} {K : PySem.W.Frag} {mg : Str → Option Value} {base : Heap}
def sp_law_draws (K : PySem.W.Frag) : Sp := fun vs H Q _ => ∃ (a : Addr) (ns : List Int) (j many : Nat), vs = [.ref a, nV j, nV many] ∧ SqL K H a (ns.map V.int) ∧ ns.length ≤ 100 ∧ j ≤ 1000 ∧ many ≤ 1000 ∧
  ∀ (p : Addr) (ds : List Nat), H p = none → ds.length = many → (∀ d ∈ ds, d < 1000000000) → Q (.ref p) (upd H p (.lst (ds.map nV)))
theorem ok_law_draws {f : Addr} {fd : FuncData} (F : Fun K "_law_draws" "_law_draws" s_law_draws f fd) (m_len : mg "len" = none) (m_min : mg "min" = none) (m_range : mg "range" = none) : FnOk P w K mg base CX0 1 f fd ["_law_script", "_law_j", "_law_many"] (sp_law_draws K) := by
  refine F.ok sc_law_draws (fun vs H Q E h => ?_) (fun cdv A outer s H vs Q E hr h => ?_)
  · obtain ⟨_, _, _, _, rfl, _⟩ := h
    rfl
  · obtain ⟨a, ns, j, many, rfl, hS, h1, h2, h3, q⟩ := h
    have hz := szl
    refine ⟨_, (pss_cons (ps_set (i := 3) sc_law_draws.nd rfl (Or.inl rfl) pe_int)
      (C8.pss_cut (ps_if (pt_cmpR op_gt (pe_callB call_len_seq (by rfl) m_len PySem.boot_len (pa_cons (pv 0) pa_nil)) pe_int (nomark _))
        (pss_one (ps_set (i := 3) sc_law_draws.nd rfl (Or.inl rfl) (pe_ix ix_list (pv 0) (pe_op op_mod (pv 1) (pe_callB (call_min2 rfl) (by rfl) m_min (by decide +kernel) (pa_cons pe_int (pa_cons (pe_callB call_len_seq (by rfl) m_len PySem.boot_len (pa_cons (pv 0) pa_nil)) pa_nil)))) (fun _ _ => rfl))))
        pss_nil)
      (C8.pss_cut (ps_set (i := 4) sc_law_draws.nd rfl (Or.inl rfl) (pe_and (pe_cmpR op_lt (pv 1) (pe_callB call_len_seq (by rfl) m_len PySem.boot_len (pa_cons (pv 0) pa_nil)) (nomark _)) (pe_one (pe_cmpR op_ge (pv 3) (pe_op op_powB pe_int pe_int) (nomark _)))))
      (C8.pss_cut (ps_if (pt_val (pv 4))
        (pss_one (ps_set (i := 3) sc_law_draws.nd rfl (Or.inl rfl) (pe_op op_andM (pv 3) (pe_op op_sub (pe_op op_powB (pe_op op_powB (pe_op op_powB pe_int pe_int) pe_int) pe_int) pe_int))))
        pss_nil)
      (C8.pss_cut (ps_set (i := 5) sc_law_draws.nd rfl (Or.inl rfl) (pe_op op_add (pe_op op_mod (pv 3) pe_int) (pe_op op_mul pe_int (pv 1))))
      (pss_cons (ps_set (i := 6) sc_law_draws.nd rfl (Or.inl rfl) (pe_lst pa_nil))
      (C8.pss_cut (ps_for PassesOwn.never rfl (pi_range1 (by rfl) m_range (pa_cons (pv 2) pa_nil)) (pg_name (i := 7) sc_law_draws.nd rfl (Or.inl rfl))
        (pss_one (ps_if (pt_val (pv 4))
          (pss_cons (ps_expr (pe_bm PySem.F.plainAttrs_list PySem.F.slot_list_append PySem.F.type_list_append mt_append (pv 6) (pa_cons (pe_op op_mod (pv 3) (pe_op op_powB pe_int pe_int)) pa_nil)))
          (pss_one (ps_set (i := 3) sc_law_draws.nd rfl (Or.inl rfl) (pe_op op_fdiv (pv 3) (pe_op op_powB pe_int pe_int)))))
          (pss_cons (ps_set (i := 8) sc_law_draws.nd rfl (Or.inl rfl) (pe_op op_mod (pe_op op_add (pv 5) (pe_op op_mul pe_int (pe_op op_add (pv 7) pe_int))) pe_int))
          (pss_cons (ps_set (i := 8) sc_law_draws.nd rfl (Or.inl rfl) (pe_op op_mod (pe_op op_add (pe_op op_mul (pv 8) (pv 8)) (pv 7)) pe_int))
          (pss_one (ps_expr (pe_bm PySem.F.plainAttrs_list PySem.F.slot_list_append PySem.F.type_list_append mt_append (pv 6) (pa_cons (pe_op op_mod (pe_op op_mod (pe_op op_mul (pv 8) (pv 8)) pe_int) (pe_op op_powB pe_int pe_int)) pa_nil)))))))))
      (pss_one (ps_ret (pv 6)))))))))), ?_⟩
    -- if len(script) > 0
    refine ⟨fun σ H' => H' = H ∧ ∃ c : Int, σ = [some (.ref a), some (nV j), some (nV many), some (.int c), none, none, none, none, none], ?_, fun σ H' hm => ?_⟩
    · refine ⟨_, rfl, a, ns.map V.int, rfl, .inl hS, _, _, rfl, rfl, _, rfl, ite2 (fun e => ?_) (fun e => ⟨rfl, 0, rfl⟩)⟩
      have hpos : 0 < ns.length := by
        have := of_decide_eq_true e
        rw [List.length_map] at this
        omega
      have hmin : ∃ m : Nat, (if ((ns.map V.int).length : Int) < 63 then ((ns.map V.int).length : Int) else 63) = (m : Int) ∧ 0 < m ∧ m ≤ ns.length := by
        rw [List.length_map]
        by_cases h : (ns.length : Int) < 63
        · exact ⟨ns.length, if_pos h, hpos, Nat.le_refl _⟩
        · exact ⟨63, if_neg h, by omega, by omega⟩
      obtain ⟨m, em, m1, m2⟩ := hmin
      refine ⟨_, rfl, _, rfl, _, rfl, a, ns.map V.int, rfl, .inl hS, _, _, rfl, _, _, rfl, rfl, ?_, ?_⟩
      · show (0 : Int) < (if ((ns.map V.int).length : Int) < 63 then ((ns.map V.int).length : Int) else 63)
        omega
      · have hlt := Nat.mod_lt j m1
        have hget : (ns.map V.int)[j % m]? = some (.int ns[j % m]) := by
          rw [List.getElem?_map, List.getElem?_eq_getElem (by omega)]
          rfl
        refine ⟨a, ns.map V.int, ((j % m : Nat) : Int), .int ns[j % m], rfl, ?_, hS, atI_nat hget, rfl, _, rfl⟩
        show V.int ((j : Int) % (if ((ns.map V.int).length : Int) < 63 then ((ns.map V.int).length : Int) else 63)) = _
        rw [em]
        rfl
    obtain ⟨rfl, c, rfl⟩ := hm
    -- great = ..
    refine ⟨fun σ H2 => H2 = H' ∧ ∃ (g : Bool), σ = [some (.ref a), some (nV j), some (nV many), some (.int c), some (.bl g), none, none, none, none], ?_, fun σ H2 hm => ?_⟩
    · refine ⟨_, rfl, _, rfl, a, ns.map V.int, rfl, .inl hS, _, _, rfl, rfl, _, rfl, ite2 (fun e => ?_) (fun e => ⟨rfl, _, rfl⟩)⟩
      exact ⟨_, rfl, _, _, rfl, rfl, ⟨by decide, by decide +kernel⟩, _, _, rfl, rfl, rfl, _, rfl⟩
    obtain ⟨rfl, g, rfl⟩ := hm
    -- if great
    refine ⟨fun σ H3 => H3 = H2 ∧ ∃ c : Int, σ = [some (.ref a), some (nV j), some (nV many), some (.int c), some (.bl g), none, none, none, none], ?_, fun σ H3 hm => ?_⟩
    · refine ⟨_, rfl, _, rfl, ite2 (fun e => ?_) (fun e => ⟨rfl, _, rfl⟩)⟩
      refine ⟨_, rfl, _, _, rfl, rfl, ⟨by decide, by decide +kernel⟩, _, _, rfl, rfl, ⟨by decide, by decide +kernel⟩, _, _, rfl, rfl, ⟨by decide, by decide +kernel⟩, _, _, rfl, rfl, c, 21600, rfl, ?_, rfl, _, rfl⟩
      show V.int ((((2 : Int) ^ (60 : Int).toNat) ^ (60 : Int).toNat) ^ (6 : Int).toNat - 1) = _
      rw [mask_eq]
    obtain ⟨rfl, c, rfl⟩ := hm
    -- number = ..
    refine ⟨fun σ H4 => H4 = H3 ∧ ∃ m : Nat, σ = [some (.ref a), some (nV j), some (nV many), some (.int c), some (.bl g), some (nV m), none, none, none], ?_, fun σ H4 hm => ?_⟩
    · refine ⟨_, rfl, _, _, rfl, rfl, (by show (0 : Int) < _; decide), _, rfl, _, _, rfl, rfl, .inl ⟨by decide, by decide⟩, _, _, rfl, rfl, rfl, (c % 2147483629).toNat + 69621 * j, ?_⟩
      have := Int.emod_nonneg c (show (2147483629 : Int) ≠ 0 by decide)
      show [_, _, _, _, _, some (V.int (c % 2147483629 + 69621 * (j : Int))), _, _, _] = [_, _, _, _, _, some (V.int (((c % 2147483629).toNat + 69621 * j : Nat) : Int)), _, _, _]
      rw [show (((c % 2147483629).toNat + 69621 * j : Nat) : Int) = c % 2147483629 + 69621 * (j : Int) by omega]
    obtain ⟨rfl, m, rfl⟩ := hm
    -- found = []
    refine ⟨Nat.zero_le _, fun p np => ?_⟩
    -- the loop
    refine ⟨fun σ H5 => ∃ ds : List Nat, σ[6]? = some (some (.ref p)) ∧ H5 = upd H4 p (.lst (ds.map nV)) ∧ ds.length = many ∧ ∀ d ∈ ds, d < 1000000000, ?_, fun σ H5 hm => ?_⟩
    · refine ⟨_, rfl, (many : Int), rfl, by omega, by omega, ?_⟩
      refine for_range (fun i σ H5 => ∃ (c : Int) (y7 y8 : Option V) (ds : List Nat), σ = [some (.ref a), some (nV j), some (nV many), some (.int c), some (.bl g), some (nV m), some (.ref p), y7, y8] ∧ H5 = upd H4 p (.lst (ds.map nV)) ∧ ds.length = i ∧ ∀ d ∈ ds, d < 1000000000)
        ⟨c, none, none, [], rfl, rfl, rfl, fun d hd => nomatch hd⟩ (fun i σ H5 hi hP => ?_) (fun σ H5 hP => ?_)
      · obtain ⟨c, y7, y8, ds, rfl, rfl, hl, hd⟩ := hP
        have hp : (upd H4 p (.lst (ds.map nV))) p = some (.lst (ds.map nV)) := upd_same
        have hlen : (ds.map nV).length < sizeLine := by rw [List.length_map]; omega
        have app : ∀ (x : Int), 0 ≤ x → x < 1000000000 → upd (upd H4 p (.lst (ds.map nV))) p (.lst (ds.map nV ++ [V.int x])) = upd H4 p (.lst ((ds ++ [x.toNat]).map nV)) ∧ (ds ++ [x.toNat]).length = i + 1 ∧ ∀ d ∈ ds ++ [x.toNat], d < 1000000000 := fun x h0 h1 => by
          refine ⟨?_, by rw [List.length_append, hl]; rfl, fun d hd' => ?_⟩
          · rw [upd_upd, List.map_append]
            show _ = upd H4 p (.lst (ds.map nV ++ [V.int ((x.toNat : Nat) : Int)]))
            rw [Int.toNat_of_nonneg h0]
          · rcases List.mem_append.mp hd' with hd' | hd'
            · exact hd d hd'
            · rw [List.mem_singleton.mp hd']; omega
        refine ⟨_, rfl, _, rfl, ite2 (fun e => ?_) (fun e => ?_)⟩
        · have h0 := Int.emod_nonneg c (show (1000000000 : Int) ≠ 0 by decide)
          have h1 := Int.emod_lt_of_pos c (show (0 : Int) < 1000000000 by decide)
          obtain ⟨a1, a2, a3⟩ := app (c % 1000000000) h0 h1
          refine ⟨_, rfl, .inl ⟨rfl, _, SqL.of hp⟩, _, rfl, _, _, rfl, rfl, ⟨by decide, by decide +kernel⟩, _, _, rfl, rfl, (by show (0 : Int) < _; decide), p, _, _, rfl, rfl, hp, hlen, ?_⟩
          refine ⟨_, rfl, _, _, rfl, rfl, ⟨by decide, by decide +kernel⟩, _, _, rfl, rfl, ⟨by decide, by decide⟩, ?_⟩
          exact ⟨c / 1000000000, _, _, _, rfl, a1, a2, a3⟩
        · refine ⟨_, rfl, _, rfl, _, _, rfl, rfl, _, _, rfl, rfl, .inl ⟨by decide, by decide⟩, _, _, rfl, rfl, _, _, rfl, rfl, (by show (0 : Int) < _; decide), ?_⟩
          obtain ⟨x, ex, x0, x1⟩ : ∃ x : Int, ((m : Int) + 48271 * ((0 : Int) + (i : Int) + 1)) % 2147483629 = x ∧ 0 ≤ x ∧ x < 2147483629 := ⟨_, rfl, Int.emod_nonneg _ (by decide), Int.emod_lt_of_pos _ (by decide)⟩
          refine ⟨_, rfl, _, rfl, _, _, rfl, rfl, .inl ⟨?_, ?_⟩, _, rfl, _, _, rfl, rfl, _, _, rfl, rfl, (by show (0 : Int) < _; decide), ?_⟩
          · show -(2 ^ 64) < ((m : Int) + 48271 * ((0 : Int) + (i : Int) + 1)) % 2147483629
            omega
          · show ((m : Int) + 48271 * ((0 : Int) + (i : Int) + 1)) % 2147483629 < 2 ^ 64
            omega
          obtain ⟨y, ey, y0, y1⟩ : ∃ y : Int, ((((m : Int) + 48271 * ((0 : Int) + (i : Int) + 1)) % 2147483629) * (((m : Int) + 48271 * ((0 : Int) + (i : Int) + 1)) % 2147483629) + ((0 : Int) + (i : Int))) % 2147483629 = y ∧ 0 ≤ y ∧ y < 2147483629 := ⟨_, rfl, Int.emod_nonneg _ (by decide), Int.emod_lt_of_pos _ (by decide)⟩
          obtain ⟨z, ez, z0, z1⟩ : ∃ z : Int, y * y % 2147483587 % 1000000000 = z ∧ 0 ≤ z ∧ z < 1000000000 := ⟨_, rfl, Int.emod_nonneg _ (by decide), Int.emod_lt_of_pos _ (by decide)⟩
          obtain ⟨a1, a2, a3⟩ := app z z0 z1
          refine ⟨_, rfl, .inl ⟨rfl, _, SqL.of hp⟩, _, rfl, _, rfl, y, y, ?_, ?_, .inl ⟨by omega, by omega⟩, _, _, rfl, rfl, (by show (0 : Int) < _; decide), _, _, rfl, rfl, ⟨by decide, by decide +kernel⟩, _, _, rfl, rfl, (by show (0 : Int) < _; decide), p, _, _, rfl, rfl, hp, hlen, ?_⟩
          · exact congrArg V.int ey
          · exact congrArg V.int ey
          · refine ⟨c, _, _, _, rfl, ?_, a2, a3⟩
            rw [← a1, ← ez]
            rfl
      · obtain ⟨c, y7, y8, ds, rfl, rfl, hl, hd⟩ := hP
        exact ⟨ds, rfl, rfl, hl, hd⟩
    obtain ⟨ds, hs, rfl, hl, hd⟩ := hm
    exact ⟨_, hs, q p ds np hl hd⟩
end
end WK
namespace WK
open PySem PySem.Spec PyProof.Rows L2
theorem lc_yes {σ : L2.St} {H : Hp} {F : Bool → Hp → Prop} (h : F true H) : tYes σ H F := h
theorem join_ones (cs : List Nat) : Txt.join (tx []) (cs.map fun c => tx [c]) = tx cs := by
  have f : ∀ (r : List Nat) (acc : List Nat), (r.map fun c => tx [c]).foldl (fun acc p => acc ++ (tx []).cps ++ p.cps) acc.toArray = (acc ++ r).toArray := by
    intro r
    induction r with
    | nil => intro acc; simp
    | cons c r ih =>
      intro acc
      rw [List.map_cons, List.foldl_cons]
      have e : acc.toArray ++ (tx []).cps ++ (tx [c]).cps = (acc ++ [c]).toArray := by
        show acc.toArray ++ ([] : List Nat).toArray ++ [c].toArray = _
        simp
      rw [e, ih, List.append_assoc]
      rfl
  cases cs with
  | nil => rfl
  | cons c r =>
    show (⟨(r.map fun c => tx [c]).foldl (fun acc p => acc ++ (tx []).cps ++ p.cps) [c].toArray⟩ : Str) = _
    rw [f]
    rfl
theorem text_row {h a : List Nat} {n : Nat} (ha : 0 < a.length) : WK.Txt (row h a) n ((h ++ rep a (n / a.length + 1)).take n) := by
  have hk : n < (n / a.length + 1) * a.length := by
    have h2 := Nat.div_add_mod n a.length
    have h3 := Nat.mod_lt n ha
    rw [Nat.succ_mul, Nat.mul_comm]
    omega
  have hl := rep_len a (n / a.length + 1)
  refine ⟨by rw [List.length_take, List.length_append, hl]; omega, fun i hi => ?_⟩
  rw [getD_take hi, getD_app]
  by_cases h1 : i < h.length
  · rw [if_pos h1, row_head h1]
  · rw [if_neg h1, row_again (by omega)]
    exact rep_get ha _ _ (by omega)
theorem Same.upd {H H1 : Hp} {p : Addr} {o : HO} (s : Same H H1) (hn : H p = none) : Same H (upd H1 p o) := fun b x e => by
  rw [upd_ne (ne_of_none e hn)]
  exact s b x e
theorem getD_mem {x : List Nat} {i : Nat} (h : i < x.length) : x.getD i 0 ∈ x := by
  rw [List.getD_eq_getElem?_getD, List.getElem?_eq_getElem h]
  exact List.getElem_mem h
theorem nV_at {ds : List Nat} {i : Nat} (h : i < ds.length) : (ds.map nV)[i]? = some (nV (ds.getD i 0)) := by
  rw [List.getElem?_map, List.getElem?_eq_getElem h, List.getD_eq_getElem?_getD, List.getElem?_eq_getElem h]
  rfl
section
variable {P : Program} {w : World} {K : PySem.W.Frag} {mg : Str → Option Value} {base : Heap}
def sp_law_text (_ : PySem.W.Frag) : Sp := fun vs H Q _ => ∃ (b : Addr) (h a : List Nat) (many : Nat), vs = [.ref b, nV many] ∧ H b = some (.tup [.str (tx h), .str (tx a)]) ∧ 0 < a.length ∧ a.length ≤ 20000 ∧ h.length ≤ 20000 ∧ many ≤ 3000 ∧
  ∀ t, WK.Txt (row h a) many t → Q (.str (tx t)) H
theorem ok_law_text {f : Addr} {fd : FuncData} (F : Fun K "_law_text" "_law_text" s_law_text f fd) (m_len : mg "len" = none) : FnOk P w K mg base CX0 1 f fd ["_law_word_here", "_law_many"] (sp_law_text K) := by
  refine F.ok sc_law_text (fun vs H Q E h => ?_) (fun cdv A outer s H vs Q E hr h => ?_)
  · obtain ⟨_, _, _, _, rfl, _⟩ := h
    rfl
  · obtain ⟨b, h, a, many, rfl, hb, h1, h2, h3, h4, q⟩ := h
    have hz := szl
    have hl := tx_len a
    refine ⟨_, (pss_cons (ps_asg (pv 0) (pg_tup (by rfl) (pgs_cons (pg_name (i := 2) sc_law_text.nd rfl (Or.inl rfl)) (pgs_cons (pg_name (i := 3) sc_law_text.nd rfl (Or.inl rfl)) pgs_nil))))
      (pss_one (ps_ret (pe_slice sl_str (pe_op op_add_str (pv 2) (pe_op op_mul_str (pv 3) (pe_op op_add (pe_op op_fdiv (pv 1) (pe_callB call_len_str (by rfl) m_len PySem.boot_len (pa_cons (pv 3) pa_nil))) pe_int))) po_none (po_some (pv 1)))))), ?_⟩
    refine ⟨_, rfl, b, _, rfl, SqT.of hb, rfl, _, _, rfl, _, _, rfl, rfl, ?_⟩
    have hkl := rep_len a (many / a.length + 1)
    have hkb : many / a.length ≤ many := Nat.div_le_self _ _
    have hk3 : (many / a.length + 1) * a.length ≤ 24000 := by
      have h2 := Nat.div_add_mod many a.length
      have h3 := Nat.mod_lt many h1
      rw [Nat.succ_mul, Nat.mul_comm]
      omega
    refine ⟨_, rfl, _, rfl, _, rfl, _, rfl, tx a, rfl, by omega, _, _, rfl, rfl, ⟨?_, ?_⟩, _, _, rfl, rfl, a, many / a.length + 1, rfl, ?_, ?_, by omega, _, _, rfl, rfl, ?_, _, rfl, _, rfl, _, rfl, ?_, ?_⟩
    · show (0 : Int) < ((tx a).length : Int)
      omega
    · show ((tx a).length : Int) < 1073741824
      omega
    · show V.int ((many : Int) / ((tx a).length : Int) + 1) = _
      rw [hl, nat_div1]
    · rw [Nat.mul_comm]; omega
    · show (tx h).length + (tx (rep a (many / a.length + 1))).length ≤ sizeLine
      rw [tx_len, tx_len, hkl]
      omega
    · show (tx h ++ tx (rep a (many / a.length + 1))).length ≤ sizeLine
      rw [tx_add, tx_len, List.length_append, hkl]
      omega
    · show Q (.str (cutS (tx h ++ tx (rep a (many / a.length + 1))) none (some (many : Int)))) H
      rw [tx_add, cut_0n]
      exact q _ (text_row h1)
def sp_law_signs (_ : PySem.W.Frag) : Sp := fun vs H Q _ => ∃ (p : Addr) (ds : List Nat) (many : Nat), vs = [.ref p, nV many] ∧ H p = some (.lst (ds.map nV)) ∧ ds.length ≤ 1000 ∧ many ≤ 1000 ∧
  ∀ x H', Same H H' → Bin x → x.length = min many ds.length → Q (.str (tx x)) H'
theorem ok_law_signs {f : Addr} {fd : FuncData} (F : Fun K "_law_signs" "_law_signs" s_law_signs f fd) : FnOk P w K mg base CX0 1 f fd ["_law_digits", "_law_many"] (sp_law_signs K) := by
  refine F.ok sc_law_signs (fun vs H Q E h => ?_) (fun cdv A outer s H vs Q E hr h => ?_)
  · obtain ⟨_, _, _, rfl, _⟩ := h
    rfl
  · obtain ⟨p, ds, many, rfl, hp, h1, h2, q⟩ := h
    have hz := szl
    refine ⟨_, (pss_one (ps_ret (pe_join pe_str (pe_lc (own := [("_law_digit", 2)]) (g := gName 2) (by rfl) sc_law_signs.nd (pi_list (pe_slice sl_list (pv 0) po_none (po_some (pv 1)))) (blkOk_by (N := ["_law_digits", "_law_many", "_law_digit"]) (sc := defScope s_law_signs) (by decide +kernel)) (fun _ _ _ _ _ => pg_name (i := 2) sc_law_signs.nd rfl (Or.inl rfl)) (fun _ _ _ _ _ => pts_nil) (fun _ _ _ _ _ => (pe_ix ix_str pe_str (pe_op op_mod (pe_op op_fdiv (pv 2) pe_int) pe_int) (fun _ _ => rfl))))))), ?_⟩
    refine ⟨⟨_, rfl⟩, ?_⟩
    refine ⟨_, rfl, _, rfl, _, rfl, p, _, rfl, SqL.of hp, fun c nc => ?_⟩
    have ecut : cutV (ds.map nV) none (some (many : Int)) = (ds.take many).map nV := by
      show List.take _ (List.drop _ _) = _
      rw [HT.sIx_nat, HT.sIx_none, List.drop_zero, Nat.sub_zero, List.length_map, List.map_take]
      by_cases h : many ≤ ds.length
      · rw [Nat.min_eq_left h]
      · rw [Nat.min_eq_right (by omega), List.take_of_length_le (by rw [List.length_map]; omega), List.take_of_length_le (by rw [List.length_map]; omega)]
    rw [ecut]
    refine ⟨c, rfl, ⟨_, SqL.of upd_same⟩, fun D nD => ?_⟩
    have ncD : c ≠ D := ne_of_none (H := upd H c (.lst ((ds.take many).map nV))) upd_same nD
    have hlen : (ds.take many).length = min many ds.length := List.length_take
    refine lc_list (K := K) (a := c) (xs := (ds.take many).map nV) (fun i H' => ∃ cs : List Nat, H' = upd (upd H c (.lst ((ds.take many).map nV))) D (.lst (cs.map fun z => V.str (tx [z]))) ∧ cs.length = i ∧ Bin cs)
      ⟨[], rfl, rfl, fun z hz => nomatch hz⟩ (fun i H' _ hP => ?_) (fun i x H' hx hP => ?_) (fun H' hP => ?_)
    · obtain ⟨cs, rfl, _, _⟩ := hP
      refine SqL.of ?_
      rw [upd_ne ncD, upd_same]
    · obtain ⟨cs, rfl, hl, hb⟩ := hP
      have hi : i < (ds.take many).length := by
        have := (List.getElem?_eq_some_iff.mp hx).1
        rw [List.length_map] at this
        exact this
      rw [nV_at hi] at hx
      cases hx
      refine ⟨rfl, lc_yes ?_⟩
      rw [if_pos rfl]
      obtain ⟨g, eg, g1⟩ : ∃ g : Nat, (((ds.take many).getD i 0 : Nat) : Int) / 7 % 2 = (g : Int) ∧ g < 2 := ⟨(ds.take many).getD i 0 / 7 % 2, by omega, by omega⟩
      obtain ⟨e, he, e1⟩ : ∃ e : Nat, ([48, 49] : List Nat)[g]? = some e ∧ (e = 48 ∨ e = 49) := by
        rcases (show g = 0 ∨ g = 1 by omega) with rfl | rfl
        · exact ⟨48, rfl, .inl rfl⟩
        · exact ⟨49, rfl, .inr rfl⟩
      refine ⟨_, rfl, _, _, rfl, rfl, ⟨by decide, by decide⟩, _, _, rfl, rfl, (by show (0 : Int) < _; decide), "01", (g : Int), e, rfl, ?_, by show 2 ≤ sizeLine; decide, atI_nat he, ?_⟩
      · exact congrArg V.int eg
      · refine ⟨_, upd_same, ?_, cs ++ [e], ?_, by rw [List.length_append, hl]; rfl, fun z hz => ?_⟩
        · rw [List.length_map]; omega
        · rw [upd_upd, List.map_append]
          rfl
        · rcases List.mem_append.mp hz with hz | hz
          · exact hb z hz
          · rw [List.mem_singleton.mp hz]; exact e1
    · obtain ⟨cs, rfl, hl, hb⟩ := hP
      rw [List.length_map, hlen] at hl
      have hsum : ∀ l : List Nat, ((l.map fun z => tx [z]).map (·.length)).sum = l.length := by
        intro l
        induction l with
        | nil => rfl
        | cons z l ih => rw [List.map_cons, List.map_cons, List.sum_cons, ih, List.length_cons, tx_len]; simp; omega
      refine ⟨tx [], D, cs.map fun z => tx [z], rfl, rfl, .inl (SqL.of ?_), ?_, ?_⟩
      · rw [upd_same, List.map_map]
        rfl
      · rw [hsum, List.length_map, tx_len]
        simp
        omega
      · rw [join_ones]
        exact q cs _ (Same.upd (Same.upd (Same.refl H) nc) (by rw [upd_ne ncD.symm] at nD; exact nD)) hb hl
end
end WK
namespace WK
open PySem PySem.Spec PyProof.Rows L2
theorem same_at {H H' : Hp} {p : Addr} {o : HO} (s : Same H H') (h : H p = some o) : H' p = some o := s _ _ h
theorem bin_app {x y : List Nat} (hx : Bin x) (hy : Bin y) : Bin (x ++ y) := fun c hc => by
  rcases List.mem_append.mp hc with h | h
  · exact hx c h
  · exact hy c h
theorem bin_rep {x : List Nat} (hx : Bin x) (n : Nat) : Bin (rep x n) := fun c hc => by
  unfold rep at hc
  obtain ⟨l, hl, hc⟩ := List.mem_flatten.mp hc
  rw [List.mem_replicate] at hl
  rw [hl.2] at hc
  exact hx c hc
theorem bin0 : Bin [48] := fun c hc => .inl (List.mem_singleton.mp hc)
theorem bin1 : Bin [49] := fun c hc => .inr (List.mem_singleton.mp hc)
section
variable {P : Program} {w : World} {K : PySem.W.Frag} {mg : Str → Option Value} {base : Heap}
def sp_law_word (K : PySem.W.Frag) : Sp := fun vs H Q _ => ∃ (a : Addr) (ns : List Int) (j : Nat), vs = [.ref a, nV j] ∧ SqL K H a (ns.map V.int) ∧ ns.length ≤ 100 ∧ j ≤ 900 ∧
  ∀ (p : Addr) (x y : List Nat) (H' : Hp), Same H H' → H p = none → H' p = some (.tup [.str (tx x), .str (tx y)]) → Bin x → Bin y → x.length ≤ 12 → 1 ≤ y.length → y.length ≤ 26 → Q (.ref p) H'
theorem ok_law_word {f : Addr} {fd : FuncData} (F : Fun K "_law_word" "_law_word" s_law_word f fd) {f_law_draws : Addr} {fd_law_draws : FuncData} (c_law_draws : Cal P w K mg base CX0 1 f_law_draws fd_law_draws "_law_draws" ["_law_script", "_law_j", "_law_many"] (sp_law_draws K)) {f_law_signs : Addr} {fd_law_signs : FuncData} (c_law_signs : Cal P w K mg base CX0 1 f_law_signs fd_law_signs "_law_signs" ["_law_digits", "_law_many"] (sp_law_signs K)) : FnOk P w K mg base CX0 2 f fd ["_law_script", "_law_j"] (sp_law_word K) := by
  refine F.ok sc_law_word (fun vs H Q E h => ?_) (fun cdv A outer s H vs Q E hr h => ?_)
  · obtain ⟨_, _, _, rfl, _⟩ := h
    rfl
  · obtain ⟨a, ns, j, rfl, hS, h1, h2, q⟩ := h
    have hz := szl
    refine ⟨_, (pss_cons (ps_set (i := 2) sc_law_word.nd rfl (Or.inl rfl) (pe_call c_law_draws.G (hr.mono (by decide)) (by rfl) c_law_draws.g c_law_draws.kp c_law_draws.b .nil pass0 (pa_cons (pv 0) (pa_cons (pv 1) (pa_cons pe_int pa_nil)))))
      (C8.pss_cut (ps_set (i := 3) sc_law_word.nd rfl (Or.inl rfl) (pe_op op_mod (pe_ix ix_list (pv 2) pe_int (fun _ _ => rfl)) pe_int))
      (C8.pss_cut (ps_set (i := 4) sc_law_word.nd rfl (Or.inl rfl) (pe_op op_mod (pe_ix ix_list (pv 2) pe_int (fun _ _ => rfl)) (pe_ix ix_list (pe_lst (pa_cons pe_int (pa_cons pe_int pa_nil))) (pe_op op_mod (pv 3) pe_int) (fun _ _ => rfl))))
      (C8.pss_cut (ps_set (i := 5) sc_law_word.nd rfl (Or.inl rfl) (pe_op op_add pe_int (pe_op op_mod (pe_ix ix_list (pv 2) pe_int (fun _ _ => rfl)) (pe_ix ix_list (pe_lst (pa_cons pe_int (pa_cons pe_int pa_nil))) (pe_op op_mod (pe_op op_fdiv (pv 3) pe_int) pe_int) (fun _ _ => rfl)))))
      (pss_cons (ps_par (i := 6) (j := 7) (by rfl) sc_law_word.nd rfl rfl (by decide) rfl rfl (pa_cons (pe_call c_law_signs.G (hr.mono (by decide)) (by rfl) c_law_signs.g c_law_signs.kp c_law_signs.b .nil pass0 (pa_cons (pv 2) (pa_cons (pv 4) pa_nil))) (pa_cons (pe_call c_law_signs.G (hr.mono (by decide)) (by rfl) c_law_signs.g c_law_signs.kp c_law_signs.b .nil pass0 (pa_cons (pe_slice sl_list (pv 2) (po_some pe_int) po_none) (pa_cons (pv 5) pa_nil))) pa_nil)) (by rfl))
      (C8.pss_cut (ps_if (pt_cmpR op_eq (pv 3) pe_int (nomark _))
        (pss_one (ps_set (i := 7) sc_law_word.nd rfl (Or.inl rfl) (pe_op op_mul_str pe_str (pv 5))))
        pss_nil)
      (C8.pss_cut (ps_if (pt_cmpR op_eq (pv 3) pe_int (nomark _))
        (pss_one (ps_set (i := 7) sc_law_word.nd rfl (Or.inl rfl) (pe_op op_add_str (pv 7) (pv 7))))
        pss_nil)
      (pss_one (ps_ret (pe_tup (pa_cons (pv 6) (pa_cons (pv 7) pa_nil)))))))))))), ?_⟩
    refine ⟨_, rfl, _, rfl, a, ns, j, 30, rfl, hS, h1, by omega, by decide, fun p ds np hl hd => ?_⟩
    have s0 : Same H (upd H p (.lst (ds.map nV))) := same_upd np
    have hp0 : (upd H p (.lst (ds.map nV))) p = some (.lst (ds.map nV)) := upd_same
    -- way
    refine ⟨fun σ H' => H' = upd H p (.lst (ds.map nV)) ∧ ∃ way : Nat, way < 6 ∧ σ = [some (.ref a), some (nV j), some (.ref p), some (nV way), none, none, none, none], ?_, fun σ H' hm => ?_⟩
    · refine ⟨_, rfl, p, _, 29, _, rfl, rfl, SqL.of hp0, atI_nat (j := 29) (nV_at (by omega)), _, _, rfl, rfl, (by show (0 : Int) < _; decide), rfl, ds.getD 29 0 % 6, by omega, ?_⟩
      show [_, _, _, some (V.int (((ds.getD 29 0 : Nat) : Int) % 6)), _, _, _, _] = [_, _, _, some (V.int ((ds.getD 29 0 % 6 : Nat) : Int)), _, _, _, _]
      rfl
    obtain ⟨rfl, way, hw, rfl⟩ := hm
    have pick : ∀ (g : Nat), g < 2 → ∃ c : Nat, ([nV 4, nV 13] : List V)[g]? = some (nV c) ∧ 4 ≤ c ∧ c ≤ 13 := fun g hg => by
      rcases (show g = 0 ∨ g = 1 by omega) with rfl | rfl
      · exact ⟨4, rfl, by omega, by omega⟩
      · exact ⟨13, rfl, by omega, by omega⟩
    -- many
    refine ⟨fun σ H' => Same (upd H p (.lst (ds.map nV))) H' ∧ ∃ many : Nat, many ≤ 12 ∧ σ = [some (.ref a), some (nV j), some (.ref p), some (nV way), some (nV many), none, none, none], ?_, fun σ H1 hm => ?_⟩
    · refine ⟨_, rfl, p, _, 27, _, rfl, rfl, SqL.of hp0, atI_nat (j := 27) (nV_at (by omega)), ?_⟩
      refine ⟨by show 2 ≤ sizeLine; decide, fun l nl => ?_⟩
      obtain ⟨c, ec, c1, c2⟩ := pick (way % 2) (by omega)
      refine ⟨_, rfl, _, _, rfl, rfl, (by show (0 : Int) < _; decide), l, [nV 4, nV 13], ((way % 2 : Nat) : Int), nV c, rfl, rfl, SqL.of upd_same, atI_nat ec, _, _, rfl, rfl, ?_, same_upd nl, ds.getD 27 0 % c, ?_, ?_⟩
      · show (0 : Int) < (c : Int)
        omega
      · have := Nat.mod_lt (ds.getD 27 0) (show 0 < c by omega)
        omega
      · show [_, _, _, _, some (V.int (((ds.getD 27 0 : Nat) : Int) % (c : Int))), _, _, _] = [_, _, _, _, some (V.int ((ds.getD 27 0 % c : Nat) : Int)), _, _, _]
        rfl
    obtain ⟨s1, many, hmany, rfl⟩ := hm
    have hp1 := same_at s1 hp0
    -- size
    refine ⟨fun σ H' => Same H1 H' ∧ ∃ size : Nat, 1 ≤ size ∧ size ≤ 13 ∧ σ = [some (.ref a), some (nV j), some (.ref p), some (nV way), some (nV many), some (nV size), none, none], ?_, fun σ H2 hm => ?_⟩
    · refine ⟨_, rfl, p, _, 28, _, rfl, rfl, SqL.of hp1, atI_nat (j := 28) (nV_at (by omega)), ?_⟩
      refine ⟨by show 2 ≤ sizeLine; decide, fun l nl => ?_⟩
      obtain ⟨c, ec, c1, c2⟩ := pick (way / 2 % 2) (by omega)
      refine ⟨_, rfl, _, _, rfl, rfl, ⟨by decide, by decide⟩, _, _, rfl, rfl, (by show (0 : Int) < _; decide), l, [nV 4, nV 13], ((way / 2 % 2 : Nat) : Int), nV c, rfl, rfl, SqL.of upd_same, atI_nat ec, _, _, rfl, rfl, ?_, _, _, rfl, rfl, same_upd nl, 1 + ds.getD 28 0 % c, ?_, ?_, ?_⟩
      · show (0 : Int) < (c : Int)
        omega
      · omega
      · have := Nat.mod_lt (ds.getD 28 0) (show 0 < c by omega)
        omega
      · show [_, _, _, _, _, some (V.int (1 + ((ds.getD 28 0 : Nat) : Int) % (c : Int))), _, _] = [_, _, _, _, _, some (V.int ((1 + ds.getD 28 0 % c : Nat) : Int)), _, _]
        rfl
    obtain ⟨s2, size, hs1, hs2, rfl⟩ := hm
    have hp2 := same_at s2 hp1
    -- front, again = ..
    refine ⟨_, rfl, _, rfl, p, ds, many, rfl, hp2, by omega, by omega, fun x H3 s3 bx lx => ?_⟩
    have hp3 := same_at s3 hp2
    refine ⟨_, rfl, _, rfl, p, _, rfl, SqL.of hp3, fun c nc => ?_⟩
    have ecut : cutV (ds.map nV) (some (13 : Int)) none = (ds.drop 13).map nV := by
      show List.take _ (List.drop _ _) = _
      rw [show (HT.sIx (ds.map nV).length 0 (some (13 : Int))) = min 13 (ds.map nV).length from HT.sIx_nat _ _ 13, HT.sIx_none, List.length_map, hl, List.map_drop]
      exact List.take_of_length_le (by rw [List.length_drop, List.length_map]; omega)
    rw [ecut]
    refine ⟨_, rfl, c, ds.drop 13, size, rfl, upd_same, by rw [List.length_drop]; omega, by omega, fun y H4 s4 hby ly => ?_⟩
    rw [List.length_drop] at ly
    refine ⟨_, _, rfl, ?_⟩
    have sall : Same H H4 := s0.trans (s1.trans (s2.trans (s3.trans ((same_upd nc).trans s4))))
    -- if way == 4
    refine ⟨fun σ H' => H' = H4 ∧ ∃ y : List Nat, Bin y ∧ 1 ≤ y.length ∧ y.length ≤ 13 ∧ σ = [some (.ref a), some (nV j), some (.ref p), some (nV way), some (nV many), some (nV size), some (.str (tx x)), some (.str (tx y))], ?_, fun σ H5 hm => ?_⟩
    · refine ⟨_, rfl, rfl, _, rfl, ite2 (fun e => ?_) (fun e => ⟨rfl, y, hby, by omega, by omega, rfl⟩)⟩
      refine ⟨_, rfl, [48], size, rfl, rfl, by show 1 * size ≤ _; omega, by omega, rfl, rep [48] size, bin_rep bin0 _, ?_, ?_, rfl⟩
      · rw [rep_len]; show 1 ≤ size * 1; omega
      · rw [rep_len]; show size * 1 ≤ 13; omega
    obtain ⟨rfl, y, by', ly1, ly2, rfl⟩ := hm
    have hty := tx_len y
    -- if way == 5
    refine ⟨fun σ H' => H' = H5 ∧ ∃ y : List Nat, Bin y ∧ 1 ≤ y.length ∧ y.length ≤ 26 ∧ σ = [some (.ref a), some (nV j), some (.ref p), some (nV way), some (nV many), some (nV size), some (.str (tx x)), some (.str (tx y))], ?_, fun σ H6 hm => ?_⟩
    · refine ⟨_, rfl, rfl, _, rfl, ite2 (fun e => ?_) (fun e => ⟨rfl, y, by', by omega, by omega, rfl⟩)⟩
      refine ⟨_, rfl, _, rfl, _, _, rfl, rfl, by omega, rfl, y ++ y, bin_app by' by', ?_, ?_, ?_⟩
      · rw [List.length_append]; omega
      · rw [List.length_append]; omega
      · rw [← tx_add]; rfl
    obtain ⟨rfl, y, by', ly1, ly2, rfl⟩ := hm
    refine ⟨_, rfl, _, rfl, by show 2 ≤ sizeLine; decide, fun b nb => ?_⟩
    exact q b x y _ (sall.trans (same_upd nb)) (sall.free nb) upd_same bx by' (by omega) ly1 ly2
end
end WK
namespace WK
open PySem PySem.Spec PyProof.Rows L2
abbrev s_law_tells : Stmt := topS 18
theorem sc_law_tells : FnScope ["_law_signs_here", "_law_cut", "_law_size", "_law_again"] ["_law_signs_here", "_law_cut", "_law_size"] (defScope s_law_tells) := ⟨rfl, rfl, rfl, by decide +kernel, rfl, by decide +kernel, by decide +kernel⟩
abbrev s_law_least : Stmt := topS 19
theorem sc_law_least : FnScope ["_law_signs_here", "_law_cut", "_law_size"] ["_law_signs_here"] (defScope s_law_least) := ⟨rfl, rfl, rfl, by decide +kernel, rfl, by decide +kernel, by decide +kernel⟩
abbrev s_law_none : Stmt := topS 20
theorem sc_law_none : FnScope ["_law_word_here", "_law_number", "_law_some"] ["_law_word_here", "_law_number"] (defScope s_law_none) := ⟨rfl, rfl, rfl, by decide +kernel, rfl, by decide +kernel, by decide +kernel⟩
theorem cut_piece (l : List Nat) (lo hi : Nat) : cutL l (min lo l.length) (min hi l.length) = piece l lo hi := by
  unfold cutL piece
  by_cases h : lo ≤ l.length
  · rw [Nat.min_eq_left h]
    by_cases h2 : hi ≤ l.length
    · rw [Nat.min_eq_left h2]
    · rw [Nat.min_eq_right (by omega), List.take_of_length_le (by rw [List.length_drop]; omega), List.take_of_length_le (by rw [List.length_drop]; omega)]
  · rw [List.drop_of_length_le (by omega), List.drop_of_length_le (show l.length ≤ lo by omega)]
    simp
instance (t : List Nat) (c s : Nat) : Decidable (Win t c s) := inferInstanceAs (Decidable (_ = t))
section
variable {P : Program} {w : World} {K : PySem.W.Frag} {mg : Str → Option Value} {base : Heap}
def sp_law_tells (_ : PySem.W.Frag) : Sp := fun vs H Q _ => ∃ (t : List Nat) (cut size : Nat), vs = [.str (tx t), nV cut, nV size] ∧ t.length ≤ 3000 ∧ cut ≤ 100 ∧ 1 ≤ size ∧ size ≤ 100 ∧ Q (.bl (decide (Win t cut size))) H
theorem ok_law_tells {f : Addr} {fd : FuncData} (F : Fun K "_law_tells" "_law_tells" s_law_tells f fd) (m_len : mg "len" = none) : FnOk P w K mg base CX0 1 f fd ["_law_signs_here", "_law_cut", "_law_size"] (sp_law_tells K) := by
  refine F.ok sc_law_tells (fun vs H Q E h => ?_) (fun cdv A outer s H vs Q E hr h => ?_)
  · obtain ⟨_, _, _, rfl, _⟩ := h
    rfl
  · obtain ⟨t, cut, size, rfl, h1, h2, h3, h4, q⟩ := h
    have hz := szl
    have hl := tx_len t
    refine ⟨_, (pss_cons (ps_set (i := 3) sc_law_tells.nd rfl (Or.inl rfl) (pe_op op_mul_str (pe_slice sl_str (pv 0) (po_some (pv 1)) (po_some (pe_op op_add (pv 1) (pv 2)))) (pe_op op_add (pe_op op_fdiv (pe_callB call_len_str (by rfl) m_len PySem.boot_len (pa_cons (pv 0) pa_nil)) (pv 2)) pe_int)))
      (pss_one (ps_ret (pe_cmpR op_eq (pe_slice sl_str (pe_op op_add_str (pe_slice sl_str (pv 0) po_none (po_some (pv 1))) (pv 3)) po_none (po_some (pe_callB call_len_str (by rfl) m_len PySem.boot_len (pa_cons (pv 0) pa_nil)))) (pv 0) (nomark _))))), ?_⟩
    have hpl : (piece t cut (cut + size)).length ≤ 100 := by
      unfold piece
      rw [List.length_take]
      omega
    have hkb : t.length / size ≤ t.length := Nat.div_le_self _ _
    have hkm : (piece t cut (cut + size)).length * (t.length / size + 1) ≤ 100 * 3001 := Nat.mul_le_mul hpl (by omega)
    have hrl := rep_len (piece t cut (cut + size)) (t.length / size + 1)
    have hmc := Nat.mul_comm (t.length / size + 1) (piece t cut (cut + size)).length
    refine ⟨_, rfl, _, rfl, _, rfl, _, rfl, _, rfl, _, _, rfl, rfl, _, rfl, tx t, rfl, by omega, _, rfl, tx t, rfl, by omega, _, rfl, _, _, rfl, rfl, ⟨?_, ?_⟩, _, _, rfl, rfl, piece t cut (cut + size), t.length / size + 1, ?_, ?_, by omega, by omega, ?_⟩
    · show (0 : Int) < (size : Int)
      omega
    · show (size : Int) < 1073741824
      omega
    · show V.str (cutS (tx t) (some (cut : Int)) (some ((cut : Int) + (size : Int)))) = _
      rw [show ((cut : Int) + (size : Int)) = ((cut + size : Nat) : Int) by omega, cut_nn, cut_piece]
    · show V.int (((tx t).length : Int) / (size : Int) + 1) = _
      rw [hl, nat_div1]
    have hc1 := cutS_length (tx t) none (some (cut : Int))
    refine ⟨_, rfl, _, rfl, _, rfl, tx t, rfl, by omega, _, rfl, _, _, rfl, rfl, ?_, _, rfl, tx t, rfl, by omega, _, rfl, _, rfl, ?_, _, rfl, rfl, ?_⟩
    · show (cutS (tx t) none (some (cut : Int))).length + (tx (rep (piece t cut (cut + size)) (t.length / size + 1))).length ≤ sizeLine
      rw [tx_len, hrl]
      omega
    · show (cutS (tx t) none (some (cut : Int)) ++ tx (rep (piece t cut (cut + size)) (t.length / size + 1))).length ≤ sizeLine
      rw [cut_0n, tx_add, tx_len, List.length_append, hrl, List.length_take]
      omega
    · show Q (.bl (decide (V.str (cutS (cutS (tx t) none (some (cut : Int)) ++ tx (rep (piece t cut (cut + size)) (t.length / size + 1))) none (some ((tx t).length : Int))) = V.str (tx t)))) H
      rw [cut_0n, tx_add, hl, cut_0n, tx_eq]
      exact q
def sp_law_least (_ : PySem.W.Frag) : Sp := fun vs H Q _ => ∃ (t : List Nat) (R : Nat → Nat) (c p : Nat), vs = [.str (tx t)] ∧ WK.Txt R 200 t ∧ Per R c p ∧ c ≤ 12 ∧ p ≤ 26 ∧
  ∀ b x y, H b = none → Lst R x y → Q (.ref b) (upd H b (.tup [.str (tx x), .str (tx y)]))
theorem ok_law_least {f : Addr} {fd : FuncData} (F : Fun K "_law_least" "_law_least" s_law_least f fd) (m_range : mg "range" = none) {f_law_tells : Addr} {fd_law_tells : FuncData} (c_law_tells : Cal P w K mg base CX0 1 f_law_tells fd_law_tells "_law_tells" ["_law_signs_here", "_law_cut", "_law_size"] (sp_law_tells K)) : FnOk P w K mg base CX0 2 f fd ["_law_signs_here"] (sp_law_least K) := by
  refine F.ok sc_law_least (fun vs H Q E h => ?_) (fun cdv A outer s H vs Q E hr h => ?_)
  · obtain ⟨_, _, _, _, rfl, _⟩ := h
    rfl
  · obtain ⟨t, R, c, p, rfl, T, Pe, h1, h2, q⟩ := h
    have hz := szl
    have hl := tx_len t
    have hT := T.1
    refine ⟨_, (pss_cons (ps_for PassesOwn.never rfl (pi_range1 (by rfl) m_range (pa_cons pe_int pa_nil)) (pg_name (i := 1) sc_law_least.nd rfl (Or.inl rfl))
        (pss_one (ps_for PassesOwn.never rfl (pi_range2 (by rfl) m_range (pa_cons pe_int (pa_cons pe_int pa_nil))) (pg_name (i := 2) sc_law_least.nd rfl (Or.inl rfl))
          (pss_one (ps_if (pt_val (pe_call c_law_tells.G (hr.mono (by decide)) (by rfl) c_law_tells.g c_law_tells.kp c_law_tells.b .nil pass0 (pa_cons (pv 0) (pa_cons (pv 1) (pa_cons (pv 2) pa_nil)))))
            (pss_one (ps_ret (pe_tup (pa_cons (pe_slice sl_str (pv 0) po_none (po_some (pv 1))) (pa_cons (pe_slice sl_str (pv 0) (po_some (pv 1)) (po_some (pe_op op_add (pv 1) (pv 2)))) pa_nil)))))
            pss_nil)))))
      (pss_one (ps_ret pe_non))), ?_⟩
    refine ⟨13, rfl, by decide, by decide, ?_⟩
    refine for_range (n := 13) (fun i σ H' => H' = H ∧ (∃ y1 y2, σ = [some (.str (tx t)), y1, y2]) ∧ ∀ c' s, c' < i → 1 ≤ s → s ≤ 26 → ¬ Win t c' s) ⟨rfl, ⟨_, _, rfl⟩, fun _ _ g => by omega⟩ (fun i σ H' hi hP => ?_) (fun σ H' hP => ?_)
    · obtain ⟨rfl, ⟨y1, y2, rfl⟩, hn⟩ := hP
      refine ⟨1, 27, rfl, by decide, ?_⟩
      refine for_range (lo := 1) (n := 26) (fun k σ H2 => H2 = H' ∧ (∃ y2, σ = [some (.str (tx t)), some (nV i), y2]) ∧ ∀ s, 1 ≤ s → s < 1 + k → ¬ Win t i s) ⟨rfl, ⟨y2, ?_⟩, fun _ g1 g2 => by omega⟩ (fun k σ H2 hk hP => ?_) (fun σ H2 hP => ?_)
      · show [_, some (V.int ((0 : Int) + (i : Int))), y2] = [_, some (V.int (i : Int)), y2]
        rw [Int.zero_add]
      · obtain ⟨rfl, ⟨y2, rfl⟩, hs⟩ := hP
        refine ⟨_, rfl, _, rfl, _, rfl, t, i, 1 + k, ?_, by omega, by omega, by omega, by omega, _, rfl, ite2 (fun e => ?_) (fun e => ?_)⟩
        · show [_, _, V.int ((1 : Int) + (k : Int))] = [_, _, V.int ((1 + k : Nat) : Int)]
          rfl
        · have L := lst_found T Pe h2 (show 1 ≤ 1 + k by omega) (by omega) (by omega) (of_decide_eq_true e) hn hs
          refine ⟨_, rfl, _, rfl, _, rfl, tx t, rfl, by omega, _, rfl, _, rfl, _, rfl, _, rfl, _, rfl, _, _, rfl, rfl, _, rfl, tx t, rfl, by omega, by show 2 ≤ sizeLine; decide, fun b nb => ?_⟩
          show Q (.ref b) (upd H2 b (.tup [.str (cutS (tx t) none (some (i : Int))), .str (cutS (tx t) (some (i : Int)) (some ((i : Int) + ((1 : Int) + (k : Int)))))]))
          rw [show ((i : Int) + ((1 : Int) + (k : Int))) = ((i + (1 + k) : Nat) : Int) by omega, cut_0n, cut_nn, cut_piece]
          exact q b _ _ nb L
        · refine ⟨rfl, ⟨_, rfl⟩, fun s g1 g2 => ?_⟩
          by_cases hs2 : s = 1 + k
          · rw [hs2]
            exact fun z => e (decide_eq_true z)
          · exact hs s g1 (by omega)
      · obtain ⟨rfl, ⟨y2, rfl⟩, hs⟩ := hP
        refine ⟨rfl, ⟨_, _, rfl⟩, fun c' s g1 g2 g3 => ?_⟩
        by_cases hc : c' = i
        · rw [hc]
          exact hs s g2 (by omega)
        · exact hn c' s (by omega) g2 g3
    · obtain ⟨rfl, ⟨y1, y2, rfl⟩, hn⟩ := hP
      have hp := Pe.1
      exact absurd ((win_iff T Pe hp (by omega)).mpr Pe) (hn c p (by omega) hp h2)
end
end WK
namespace WK
open PySem PySem.Spec PyProof.Rows L2
theorem SignsIs.mono {H H' : Hp} {v : V} {b : Bool} (s : Same H H') (h : SignsIs H v b) : SignsIs H' v b := by
  rcases h with h | ⟨e, h | h | ⟨a, xs, e2, h⟩⟩
  · exact .inl h
  · exact .inr ⟨e, .inl h⟩
  · exact .inr ⟨e, .inr (.inl h)⟩
  · exact .inr ⟨e, .inr (.inr ⟨a, xs, e2, s _ _ h⟩)⟩
theorem WordIs.mono {H H' : Hp} {v : V} {b : Bool} (s : Same H H') (h : WordIs H v b) : WordIs H' v b := by
  rcases h with ⟨a, x, y, e, h, r⟩ | ⟨e, ⟨a, u, z, bu, bz, e2, h, h1, h2, r⟩ | ⟨a, xs, e2, h, r⟩ | h | h | h | h | ⟨a, xs, e2, h⟩⟩
  · exact .inl ⟨a, x, y, e, s _ _ h, r⟩
  · exact .inr ⟨e, .inl ⟨a, u, z, bu, bz, e2, s _ _ h, h1.mono s, h2.mono s, r⟩⟩
  · exact .inr ⟨e, .inr (.inl ⟨a, xs, e2, s _ _ h, r⟩)⟩
  · exact .inr ⟨e, .inr (.inr (.inl h))⟩
  · exact .inr ⟨e, .inr (.inr (.inr (.inl h)))⟩
  · exact .inr ⟨e, .inr (.inr (.inr (.inr (.inl h))))⟩
  · exact .inr ⟨e, .inr (.inr (.inr (.inr (.inr (.inl h)))))⟩
  · exact .inr ⟨e, .inr (.inr (.inr (.inr (.inr (.inr ⟨a, xs, e2, s _ _ h⟩)))))⟩
section
variable {H : Hp} {p : Addr} {x y : List Nat} {u z : V}
theorem no_tt (h : H p = some (.tup [.str (tx x), .str (tx y)])) (hx : x.length ≤ 100000) (hy : y.length ≤ 100000) (n : ¬ (Bin x ∧ Bin y ∧ x.length ≤ 20000 ∧ 1 ≤ y.length ∧ y.length ≤ 20000)) : WordIs H (.ref p) false :=
  .inl ⟨p, x, y, rfl, h, hx, hy, (decide_eq_false n).symm⟩
theorem no_part (h : H p = some (.tup [u, z])) {bu bz : Bool} (hu : SignsIs H u bu) (hz : SignsIs H z bz) (n : bu = false ∨ bz = false) : WordIs H (.ref p) false := .inr ⟨rfl, .inl ⟨p, u, z, bu, bz, rfl, h, hu, hz, n⟩⟩
theorem no_size {xs : List V} (h : H p = some (.tup xs)) (n : xs.length ≠ 2) (hl : xs.length ≤ 100) : WordIs H (.ref p) false := .inr ⟨rfl, .inr (.inl ⟨p, xs, rfl, h, n, hl⟩)⟩
theorem no_lst {xs : List V} (h : H p = some (.lst xs)) : WordIs H (.ref p) false := .inr ⟨rfl, .inr (.inr (.inr (.inr (.inr (.inr ⟨p, xs, rfl, h⟩)))))⟩
theorem no_non : WordIs H .non false := .inr ⟨rfl, .inr (.inr (.inl rfl))⟩
theorem no_int {i : Int} : WordIs H (.int i) false := .inr ⟨rfl, .inr (.inr (.inr (.inl ⟨i, rfl⟩)))⟩
theorem no_bl {b : Bool} : WordIs H (.bl b) false := .inr ⟨rfl, .inr (.inr (.inr (.inr (.inl ⟨b, rfl⟩))))⟩
theorem no_str {z : Str} : WordIs H (.str z) false := .inr ⟨rfl, .inr (.inr (.inr (.inr (.inr (.inl ⟨z, rfl⟩)))))⟩
theorem sg_str (hx : x.length ≤ 100000) : SignsIs H (.str (tx x)) (decide (Bin x)) := .inl ⟨x, rfl, hx, rfl⟩
theorem sg_int {i : Int} : SignsIs H (.int i) false := .inr ⟨rfl, .inr (.inl ⟨i, rfl⟩)⟩
theorem sg_non : SignsIs H .non false := .inr ⟨rfl, .inl rfl⟩
theorem sg_lst {xs : List V} (h : H p = some (.lst xs)) : SignsIs H (.ref p) false := .inr ⟨rfl, .inr (.inr ⟨p, xs, rfl, h⟩)⟩
theorem nb_end {c : Nat} (h1 : c ≠ 48) (h2 : c ≠ 49) : ¬ Bin (x ++ [c]) := fun b => by
  rcases b c (List.mem_append_right _ (List.mem_singleton.mpr rfl)) with e | e
  · exact h1 e
  · exact h2 e
theorem nb_one {c : Nat} {r : List Nat} (h1 : c ≠ 48) (h2 : c ≠ 49) : ¬ Bin (c :: r) := fun b => by
  rcases b c (List.mem_cons_self ..) with e | e
  · exact h1 e
  · exact h2 e
end
theorem all_none {H H' : Hp} {xs zs : List V} (s : Same H H') (h : ∀ v ∈ xs, WordIs H v false) (h2 : ∀ v ∈ zs, WordIs H' v false) : ∀ v ∈ xs ++ zs, WordIs H' v false := fun v hv => by
  rcases List.mem_append.mp hv with hv | hv
  · exact (h v hv).mono s
  · exact h2 v hv
section
variable {P : Program} {w : World} {K : PySem.W.Frag} {mg : Str → Option Value} {base : Heap}
def sp_law_none (_ : PySem.W.Frag) : Sp := fun vs H Q _ => ∃ (b : Addr) (x y : List Nat) (num : Nat), vs = [.ref b, nV num] ∧ H b = some (.tup [.str (tx x), .str (tx y)]) ∧ x.length ≤ 100 ∧ y.length ≤ 100 ∧
  ∀ v H', Same H H' → WordIs H' v false → Q v H'
theorem ok_law_none {f : Addr} {fd : FuncData} (F : Fun K "_law_none" "_law_none" s_law_none f fd) (m_len : mg "len" = none) (g_MOST_SIGNS : ∃ t, mg "MOST_SIGNS" = some (.int 20000 t)) : FnOk P w K mg base CX0 1 f fd ["_law_word_here", "_law_number"] (sp_law_none K) := by
  refine F.ok sc_law_none (fun vs H Q E h => ?_) (fun cdv A outer s H vs Q E hr h => ?_)
  · obtain ⟨_, _, _, _, rfl, _⟩ := h
    rfl
  · obtain ⟨b, x, y, num, rfl, hb, h1, h2, q⟩ := h
    have hz := szl
    have hlx := tx_len x
    have hly := tx_len y
    have i0 : ∀ {H' : Hp}, Same H H' → SqT K H' b [.str (tx x), .str (tx y)] := fun s => SqT.of (s _ _ hb)
    have a0 : atI [V.str (tx x), V.str (tx y)] ((0 : Nat) : Int) = some (.str (tx x)) := atI_nat rfl
    have a1 : atI [V.str (tx x), V.str (tx y)] ((1 : Nat) : Int) = some (.str (tx y)) := atI_nat rfl
    refine ⟨_, (C8.pss_cut (ps_set (i := 2) sc_law_none.nd rfl (Or.inl rfl) (pe_lst (pa_cons (pe_op op_add_str (pe_ix ix_tup (pv 0) pe_int (fun _ _ => rfl)) (pe_ix ix_tup (pv 0) pe_int (fun _ _ => rfl))) (pa_cons (pe_lst (pa_cons (pe_ix ix_tup (pv 0) pe_int (fun _ _ => rfl)) (pa_cons (pe_ix ix_tup (pv 0) pe_int (fun _ _ => rfl)) pa_nil))) (pa_cons (pe_tup (pa_cons (pe_ix ix_tup (pv 0) pe_int (fun _ _ => rfl)) pa_nil)) (pa_cons (pe_tup (pa_cons (pe_ix ix_tup (pv 0) pe_int (fun _ _ => rfl)) (pa_cons (pe_ix ix_tup (pv 0) pe_int (fun _ _ => rfl)) (pa_cons pe_str pa_nil)))) (pa_cons (pe_tup (pa_cons (pe_ix ix_tup (pv 0) pe_int (fun _ _ => rfl)) (pa_cons pe_str pa_nil))) (pa_cons pe_non (pa_cons pe_int (pa_cons pe_bl pa_nil))))))))))
      (C8.pss_cut (ps_set (i := 2) sc_law_none.nd rfl (Or.inl rfl) (pe_op op_cat (pv 2) (pe_lst (pa_cons (pe_tup (pa_cons (pe_op op_add_str (pe_ix ix_tup (pv 0) pe_int (fun _ _ => rfl)) pe_str) (pa_cons (pe_ix ix_tup (pv 0) pe_int (fun _ _ => rfl)) pa_nil))) (pa_cons (pe_tup (pa_cons (pe_ix ix_tup (pv 0) pe_int (fun _ _ => rfl)) (pa_cons (pe_op op_add_str (pe_ix ix_tup (pv 0) pe_int (fun _ _ => rfl)) pe_str) pa_nil))) (pa_cons (pe_tup (pa_cons (pe_ix ix_tup (pv 0) pe_int (fun _ _ => rfl)) (pa_cons pe_str pa_nil))) (pa_cons (pe_tup (pa_cons pe_int (pa_cons (pe_ix ix_tup (pv 0) pe_int (fun _ _ => rfl)) pa_nil))) (pa_cons (pe_tup (pa_cons (pe_ix ix_tup (pv 0) pe_int (fun _ _ => rfl)) (pa_cons pe_int pa_nil))) pa_nil))))))))
      (C8.pss_cut (ps_set (i := 2) sc_law_none.nd rfl (Or.inl rfl) (pe_op op_cat (pv 2) (pe_lst (pa_cons (pe_tup (pa_cons pe_non (pa_cons (pe_ix ix_tup (pv 0) pe_int (fun _ _ => rfl)) pa_nil))) (pa_cons (pe_tup (pa_cons (pe_ix ix_tup (pv 0) pe_int (fun _ _ => rfl)) (pa_cons pe_non pa_nil))) (pa_cons (pe_tup (pa_cons (pe_op op_mul_str pe_str (pe_op op_add (pe_glob (v := .int 20000) (by rfl) g_MOST_SIGNS.choose_spec ⟨_, rfl⟩) pe_int)) (pa_cons pe_str pa_nil))) (pa_cons (pe_tup (pa_cons pe_str (pa_cons (pe_op op_mul_str pe_str (pe_op op_add (pe_glob (v := .int 20000) (by rfl) g_MOST_SIGNS.choose_spec ⟨_, rfl⟩) pe_int)) pa_nil))) (pa_cons (pe_tup pa_nil) pa_nil))))))))
      (C8.pss_cut (ps_set (i := 2) sc_law_none.nd rfl (Or.inl rfl) (pe_op op_cat (pv 2) (pe_lst (pa_cons (pe_tup (pa_cons (pe_ix ix_tup (pv 0) pe_int (fun _ _ => rfl)) (pa_cons (pe_lst (pa_cons (pe_ix ix_tup (pv 0) pe_int (fun _ _ => rfl)) pa_nil)) pa_nil))) (pa_cons (pe_tup (pa_cons (pe_op op_add_str (pe_ix ix_tup (pv 0) pe_int (fun _ _ => rfl)) pe_str) (pa_cons (pe_ix ix_tup (pv 0) pe_int (fun _ _ => rfl)) pa_nil))) (pa_cons (pe_tup (pa_cons (pe_ix ix_tup (pv 0) pe_int (fun _ _ => rfl)) (pa_cons (pe_op op_add_str pe_str pe_str) pa_nil))) (pa_cons (pe_tup (pa_cons pe_str (pa_cons (pe_ix ix_tup (pv 0) pe_int (fun _ _ => rfl)) pa_nil))) pa_nil)))))))
      (pss_one (ps_ret (pe_ix ix_list (pv 2) (pe_op op_mod (pv 1) (pe_callB call_len_seq (by rfl) m_len PySem.boot_len (pa_cons (pv 2) pa_nil))) (fun _ _ => rfl)))))))), ?_⟩
    -- the first eight
    refine ⟨fun σ H' => Same H H' ∧ ∃ l xs, σ = [some (.ref b), some (nV num), some (.ref l)] ∧ H' l = some (.lst xs) ∧ xs.length = 8 ∧ ∀ v ∈ xs, WordIs H' v false, ?_, fun σ H1 hm => ?_⟩
    · refine ⟨_, rfl, b, _, 0, _, rfl, rfl, i0 (Same.refl _), a0, _, rfl, b, _, 1, _, rfl, rfl, i0 (Same.refl _), a1, _, _, rfl, rfl, by omega, ?_⟩
      refine ⟨_, rfl, b, _, 0, _, rfl, rfl, i0 (Same.refl _), a0, _, rfl, b, _, 1, _, rfl, rfl, i0 (Same.refl _), a1, by show 2 ≤ sizeLine; decide, fun p1 n1 => ?_⟩
      have s1 := same_upd (o := .lst [.str (tx x), .str (tx y)]) n1
      refine ⟨_, rfl, b, _, 0, _, rfl, rfl, i0 s1, a0, by show 1 ≤ sizeLine; decide, fun p2 n2 => ?_⟩
      have s2 := s1.trans (same_upd (o := .tup [.str (tx x)]) n2)
      refine ⟨_, rfl, b, _, 0, _, rfl, rfl, i0 s2, a0, _, rfl, b, _, 1, _, rfl, rfl, i0 s2, a1, by show 3 ≤ sizeLine; decide, fun p3 n3 => ?_⟩
      have s3 := s2.trans (same_upd (o := .tup [.str (tx x), .str (tx y), .str (tx [])]) n3)
      refine ⟨_, rfl, b, _, 0, _, rfl, rfl, i0 s3, a0, by show 2 ≤ sizeLine; decide, fun p4 n4 => ?_⟩
      have s4 := s3.trans (same_upd (o := .tup [.str (tx x), .str (tx [])]) n4)
      refine ⟨by show 8 ≤ sizeLine; decide, fun l nl => ?_⟩
      have s5 := same_upd (o := .lst [.str (tx x ++ tx y), .ref p1, .ref p2, .ref p3, .ref p4, .non, .int 7, .bl true]) nl
      refine ⟨s4.trans s5, l, _, rfl, upd_same, rfl, fun v hv => ?_⟩
      refine WordIs.mono s5 ?_
      simp only [List.mem_cons, List.not_mem_nil, or_false] at hv
      rcases hv with rfl | rfl | rfl | rfl | rfl | rfl | rfl | rfl
      · exact no_str
      · refine no_lst (xs := [.str (tx x), .str (tx y)]) ?_
        exact same_upd n4 _ _ (same_upd n3 _ _ (same_upd n2 _ _ upd_same))
      · refine no_size (xs := [.str (tx x)]) ?_ (by show 1 ≠ 2; decide) (by show 1 ≤ 100; decide)
        exact same_upd n4 _ _ (same_upd n3 _ _ upd_same)
      · refine no_size (xs := [.str (tx x), .str (tx y), .str (tx [])]) ?_ (by show 3 ≠ 2; decide) (by show 3 ≤ 100; decide)
        exact same_upd n4 _ _ upd_same
      · exact no_tt (y := []) upd_same (by omega) (by decide) (fun z => absurd z.2.2.2.1 (by decide))
      · exact no_non
      · exact no_int
      · exact no_bl
    obtain ⟨s1, l, xs, rfl, hl, hn, hx⟩ := hm
    -- five more
    refine ⟨fun σ H' => Same H H' ∧ ∃ l xs, σ = [some (.ref b), some (nV num), some (.ref l)] ∧ H' l = some (.lst xs) ∧ xs.length = 13 ∧ ∀ v ∈ xs, WordIs H' v false, ?_, fun σ H2 hm => ?_⟩
    · refine ⟨_, rfl, ?_⟩
      refine ⟨_, rfl, b, _, 0, _, rfl, rfl, i0 s1, a0, _, _, rfl, rfl, (by show (tx x).length + 1 ≤ sizeLine; omega), _, rfl, b, _, 1, _, rfl, rfl, i0 s1, a1, by show 2 ≤ sizeLine; decide, fun p1 n1 => ?_⟩
      have t1 := same_upd (o := .tup [.str (tx x ++ "2"), .str (tx y)]) n1
      refine ⟨_, rfl, b, _, 0, _, rfl, rfl, i0 (s1.trans t1), a0, _, rfl, b, _, 1, _, rfl, rfl, i0 (s1.trans t1), a1, _, _, rfl, rfl, (by show (tx y).length + 1 ≤ sizeLine; omega), by show 2 ≤ sizeLine; decide, fun p2 n2 => ?_⟩
      have t2 := t1.trans (same_upd (o := .tup [.str (tx x), .str (tx y ++ " ")]) n2)
      refine ⟨_, rfl, b, _, 0, _, rfl, rfl, i0 (s1.trans t2), a0, by show 2 ≤ sizeLine; decide, fun p3 n3 => ?_⟩
      have t3 := t2.trans (same_upd (o := .tup [.str (tx x), .str " "]) n3)
      refine ⟨_, rfl, b, _, 1, _, rfl, rfl, i0 (s1.trans t3), a1, by show 2 ≤ sizeLine; decide, fun p4 n4 => ?_⟩
      have t4 := t3.trans (same_upd (o := .tup [.int 1, .str (tx y)]) n4)
      refine ⟨_, rfl, b, _, 0, _, rfl, rfl, i0 (s1.trans t4), a0, by show 2 ≤ sizeLine; decide, fun p5 n5 => ?_⟩
      have t5 := t4.trans (same_upd (o := .tup [.str (tx x), .int 1]) n5)
      refine ⟨by show 5 ≤ sizeLine; decide, fun l2 nl2 => ?_⟩
      have t6 := same_upd (o := .lst [.ref p1, .ref p2, .ref p3, .ref p4, .ref p5]) nl2
      refine ⟨l, l2, xs, _, rfl, rfl, (t5.trans t6) _ _ hl, upd_same, by rw [hn]; show 8 + 5 ≤ sizeLine; decide, fun l3 nl3 => ?_⟩
      have t7 := same_upd (o := .lst (xs ++ [.ref p1, .ref p2, .ref p3, .ref p4, .ref p5])) nl3
      refine ⟨s1.trans (t5.trans (t6.trans t7)), l3, _, rfl, upd_same, by rw [List.length_append, hn]; rfl, all_none (t5.trans (t6.trans t7)) hx fun v hv => ?_⟩
      refine WordIs.mono (t6.trans t7) ?_
      simp only [List.mem_cons, List.not_mem_nil, or_false] at hv
      rcases hv with rfl | rfl | rfl | rfl | rfl
      · refine no_tt (x := x ++ [50]) (y := y) ?_ ?_ (by omega) (fun z => nb_end (by decide) (by decide) z.1)
        · rw [← tx_add]
          exact same_upd n5 _ _ (same_upd n4 _ _ (same_upd n3 _ _ (same_upd n2 _ _ upd_same)))
        · rw [List.length_append]; show x.length + 1 ≤ 100000; omega
      · refine no_tt (x := x) (y := y ++ [32]) ?_ (by omega) ?_ (fun z => nb_end (by decide) (by decide) z.2.1)
        · rw [← tx_add]
          exact same_upd n5 _ _ (same_upd n4 _ _ (same_upd n3 _ _ upd_same))
        · rw [List.length_append]; show y.length + 1 ≤ 100000; omega
      · exact no_tt (x := x) (y := [32]) (same_upd n5 _ _ (same_upd n4 _ _ upd_same)) (by omega) (by decide) (fun z => nb_one (by decide) (by decide) z.2.1)
      · exact no_part (same_upd n5 _ _ upd_same) sg_int (sg_str (by omega)) (.inl rfl)
      · exact no_part upd_same (sg_str (x := x) (by omega)) sg_int (.inr rfl)
    obtain ⟨s2, l, xs, rfl, hl, hn, hx⟩ := hm
    -- five more
    refine ⟨fun σ H' => Same H H' ∧ ∃ l xs, σ = [some (.ref b), some (nV num), some (.ref l)] ∧ H' l = some (.lst xs) ∧ xs.length = 18 ∧ ∀ v ∈ xs, WordIs H' v false, ?_, fun σ H3 hm => ?_⟩
    · refine ⟨_, rfl, ?_⟩
      refine ⟨_, rfl, b, _, 1, _, rfl, rfl, i0 s2, a1, by show 2 ≤ sizeLine; decide, fun p1 n1 => ?_⟩
      have t1 := same_upd (o := .tup [.non, .str (tx y)]) n1
      refine ⟨_, rfl, b, _, 0, _, rfl, rfl, i0 (s2.trans t1), a0, by show 2 ≤ sizeLine; decide, fun p2 n2 => ?_⟩
      have t2 := t1.trans (same_upd (o := .tup [.str (tx x), .non]) n2)
      refine ⟨_, _, rfl, rfl, [48], 20001, rfl, rfl, by decide, by decide, by show 2 ≤ sizeLine; decide, fun p3 n3 => ?_⟩
      have t3 := t2.trans (same_upd (o := .tup [.str (tx (rep [48] 20001)), .str (tx [49])]) n3)
      refine ⟨_, _, rfl, rfl, [49], 20001, rfl, rfl, by decide, by decide, by show 2 ≤ sizeLine; decide, fun p4 n4 => ?_⟩
      have t4 := t3.trans (same_upd (o := .tup [.str (tx []), .str (tx (rep [49] 20001))]) n4)
      refine ⟨by show 0 ≤ sizeLine; decide, fun p5 n5 => ?_⟩
      have t5 := t4.trans (same_upd (o := .tup []) n5)
      refine ⟨by show 5 ≤ sizeLine; decide, fun l2 nl2 => ?_⟩
      have t6 := same_upd (o := .lst [.ref p1, .ref p2, .ref p3, .ref p4, .ref p5]) nl2
      refine ⟨l, l2, xs, _, rfl, rfl, (t5.trans t6) _ _ hl, upd_same, by rw [hn]; show 13 + 5 ≤ sizeLine; decide, fun l3 nl3 => ?_⟩
      have t7 := same_upd (o := .lst (xs ++ [.ref p1, .ref p2, .ref p3, .ref p4, .ref p5])) nl3
      refine ⟨s2.trans (t5.trans (t6.trans t7)), l3, _, rfl, upd_same, by rw [List.length_append, hn]; rfl, all_none (t5.trans (t6.trans t7)) hx fun v hv => ?_⟩
      refine WordIs.mono (t6.trans t7) ?_
      simp only [List.mem_cons, List.not_mem_nil, or_false] at hv
      rcases hv with rfl | rfl | rfl | rfl | rfl
      · exact no_part (same_upd n5 _ _ (same_upd n4 _ _ (same_upd n3 _ _ (same_upd n2 _ _ upd_same)))) sg_non (sg_str (x := y) (by omega)) (.inl rfl)
      · exact no_part (same_upd n5 _ _ (same_upd n4 _ _ (same_upd n3 _ _ upd_same))) (sg_str (x := x) (by omega)) sg_non (.inr rfl)
      · refine no_tt (x := rep [48] 20001) (y := [49]) (same_upd n5 _ _ (same_upd n4 _ _ upd_same)) ?_ (by decide) (fun z => ?_)
        · rw [rep_len]; decide
        · have := z.2.2.1
          rw [rep_len] at this
          exact absurd this (by decide)
      · refine no_tt (x := []) (y := rep [49] 20001) (same_upd n5 _ _ upd_same) (by decide) ?_ (fun z => ?_)
        · rw [rep_len]; decide
        · have := z.2.2.2.2
          rw [rep_len] at this
          exact absurd this (by decide)
      · exact no_size upd_same (by decide) (by decide)
    obtain ⟨s3, l, xs, rfl, hl, hn, hx⟩ := hm
    -- four more
    refine ⟨fun σ H' => Same H H' ∧ ∃ l xs, σ = [some (.ref b), some (nV num), some (.ref l)] ∧ H' l = some (.lst xs) ∧ xs.length = 22 ∧ ∀ v ∈ xs, WordIs H' v false, ?_, fun σ H4 hm => ?_⟩
    · refine ⟨_, rfl, ?_⟩
      refine ⟨_, rfl, b, _, 0, _, rfl, rfl, i0 s3, a0, _, rfl, b, _, 1, _, rfl, rfl, i0 s3, a1, by show 1 ≤ sizeLine; decide, fun p0 n0 => ⟨by show 2 ≤ sizeLine; decide, fun p1 n1 => ?_⟩⟩
      have t0 := same_upd (o := .lst [.str (tx y)]) n0
      have t1 := t0.trans (same_upd (o := .tup [.str (tx x), .ref p0]) n1)
      refine ⟨_, rfl, b, _, 0, _, rfl, rfl, i0 (s3.trans t1), a0, _, _, rfl, rfl, (by show (tx x).length + 1 ≤ sizeLine; omega), _, rfl, b, _, 1, _, rfl, rfl, i0 (s3.trans t1), a1, by show 2 ≤ sizeLine; decide, fun p2 n2 => ?_⟩
      have t2 := t1.trans (same_upd (o := .tup [.str (tx x ++ "-"), .str (tx y)]) n2)
      refine ⟨_, rfl, b, _, 0, _, rfl, rfl, i0 (s3.trans t2), a0, _, _, rfl, rfl, (by show 1 + 1 ≤ sizeLine; decide), by show 2 ≤ sizeLine; decide, fun p3 n3 => ?_⟩
      have t3 := t2.trans (same_upd (o := .tup [.str (tx x), .str (tx [49] ++ tx [97])]) n3)
      refine ⟨_, rfl, b, _, 1, _, rfl, rfl, i0 (s3.trans t3), a1, by show 2 ≤ sizeLine; decide, fun p4 n4 => ?_⟩
      have t4 := t3.trans (same_upd (o := .tup [.str (tx [120]), .str (tx y)]) n4)
      refine ⟨by show 4 ≤ sizeLine; decide, fun l2 nl2 => ?_⟩
      have t6 := same_upd (o := .lst [.ref p1, .ref p2, .ref p3, .ref p4]) nl2
      refine ⟨l, l2, xs, _, rfl, rfl, (t4.trans t6) _ _ hl, upd_same, by rw [hn]; show 18 + 4 ≤ sizeLine; decide, fun l3 nl3 => ?_⟩
      have t7 := same_upd (o := .lst (xs ++ [.ref p1, .ref p2, .ref p3, .ref p4])) nl3
      refine ⟨s3.trans (t4.trans (t6.trans t7)), l3, _, rfl, upd_same, by rw [List.length_append, hn]; rfl, all_none (t4.trans (t6.trans t7)) hx fun v hv => ?_⟩
      refine WordIs.mono (t6.trans t7) ?_
      simp only [List.mem_cons, List.not_mem_nil, or_false] at hv
      rcases hv with rfl | rfl | rfl | rfl
      · have e0 : ∀ {H' : Hp}, Same (upd H3 p0 (.lst [.str (tx y)])) H' → H' p0 = some (.lst [.str (tx y)]) := fun s => s _ _ upd_same
        refine no_part (same_upd n4 _ _ (same_upd n3 _ _ (same_upd n2 _ _ upd_same))) (sg_str (x := x) (by omega)) (sg_lst (xs := [.str (tx y)]) ?_) (.inr rfl)
        exact same_upd n4 _ _ (same_upd n3 _ _ (same_upd n2 _ _ (same_upd n1 _ _ upd_same)))
      · refine no_tt (x := x ++ [45]) (y := y) ?_ ?_ (by omega) (fun z => nb_end (by decide) (by decide) z.1)
        · rw [← tx_add]
          exact same_upd n4 _ _ (same_upd n3 _ _ upd_same)
        · rw [List.length_append]; show x.length + 1 ≤ 100000; omega
      · refine no_tt (x := x) (y := [49] ++ [97]) ?_ (by omega) (by decide) (fun z => nb_end (by decide) (by decide) z.2.1)
        rw [← tx_add]
        exact same_upd n4 _ _ upd_same
      · exact no_tt (x := [120]) (y := y) upd_same (by decide) (by omega) (fun z => nb_one (by decide) (by decide) z.1)
    obtain ⟨s4, l, xs, rfl, hl, hn, hx⟩ := hm
    have hlt : num % 22 < xs.length := by omega
    refine ⟨_, rfl, _, rfl, _, rfl, l, xs, rfl, .inl (SqL.of hl), _, _, rfl, rfl, ?_, l, xs, ((num % 22 : Nat) : Int), xs[num % 22], rfl, ?_, SqL.of hl, atI_nat (List.getElem?_eq_getElem hlt), q _ _ s4 (hx _ (List.getElem_mem hlt))⟩
    · show (0 : Int) < (xs.length : Int)
      omega
    · show V.int ((num : Int) % (xs.length : Int)) = _
      rw [hn]
      rfl
end
end WK
namespace WK
open PySem PySem.Spec PyProof.Rows L2
abbrev s_law : Stmt := topS 21
theorem sc_law : FnScope ["_law_script", "_law_j", "_law_word_here", "_law_digits", "_law_due", "_law_cut", "_law_turned", "_law_moved", "_law_some", "_law_digit", "_law_great"] ["_law_script"] (defScope s_law) := ⟨rfl, rfl, rfl, by decide +kernel, rfl, by decide +kernel, by decide +kernel⟩
/-! ### words told in other ways -/
theorem row_bin {h a : List Nat} (hb : Bin h) (ab : Bin a) (ha : 0 < a.length) (i : Nat) : row h a i = 48 ∨ row h a i = 49 := by
  by_cases hi : i < h.length
  · rw [row_head hi]
    exact hb _ (getD_mem hi)
  · rw [row_again (by omega)]
    exact ab _ (getD_mem (Nat.mod_lt _ ha))
theorem bin_of {x : List Nat} (h : ∀ i, i < x.length → x.getD i 0 = 48 ∨ x.getD i 0 = 49) : Bin x := fun c hc => by
  obtain ⟨k, hk, rfl⟩ := List.getElem_of_mem hc
  have := h k hk
  rw [List.getD_eq_getElem?_getD, List.getElem?_eq_getElem hk] at this
  exact this
theorem Lst.bin {h a x y : List Nat} (L : Lst (row h a) x y) (hb : Bin h) (ab : Bin a) (ha : 0 < a.length) : Bin x ∧ Bin y := by
  constructor
  · refine bin_of fun i hi => ?_
    rw [← row_head (a := y) hi, L.tells.eq]
    exact row_bin hb ab ha i
  · refine bin_of fun i hi => ?_
    have h1 := row_again (h := x) (a := y) (i := x.length + i) (by omega)
    rw [Nat.add_sub_cancel_left, Nat.mod_eq_of_lt hi] at h1
    rw [← h1, L.tells.eq]
    exact row_bin hb ab ha _
theorem row_rep {h a : List Nat} (ha : 0 < a.length) {k : Nat} (hk : 1 ≤ k) : row h (rep a k) = row h a := funext fun i => by
  have hl := rep_len a k
  have hpos : 0 < k * a.length := Nat.mul_pos hk ha
  by_cases hi : i < h.length
  · rw [row_head hi, row_head hi]
  · rw [row_again (by omega), row_again (by omega), hl]
    have := rep_get ha k ((i - h.length) % (k * a.length)) (Nat.mod_lt _ hpos)
    rw [show rep a k = List.flatten (List.replicate k a) from rfl, this]
    congr 1
    exact Nat.mod_mod_of_dvd _ (Nat.dvd_mul_left _ _)
theorem row_moved {x y t t2 : List Nat} {cut n : Nat} (hy : 0 < y.length) (ht : WK.Txt (row [] y) cut t) (ht2 : WK.Txt (row [] y) n t2) (hn : 2 * y.length ≤ n) : row (x ++ t) ((t2.drop (cut % y.length)).take y.length) = row x y := funext fun i => by
  have hm := Nat.mod_lt cut hy
  have ha : ((t2.drop (cut % y.length)).take y.length).length = y.length := by
    rw [List.length_take, List.length_drop, ht2.1]
    omega
  have hh : (x ++ t).length = x.length + cut := by rw [List.length_append, ht.1]
  by_cases h1 : i < (x ++ t).length
  · rw [row_head h1, getD_app]
    by_cases h2 : i < x.length
    · rw [if_pos h2, row_head h2]
    · rw [if_neg h2, ht.2 _ (by omega), row_nil, row_again (by omega)]
  · rw [row_again (by omega), ha]
    have h3 := Nat.mod_lt (i - (x ++ t).length) hy
    rw [getD_take h3, getD_drop, ht2.2 _ (by omega), row_nil, row_again (by omega)]
    congr 1
    rw [Nat.mod_add_mod, Nat.add_mod_mod]
    congr 1
    omega
theorem lst_great (n : Nat) (hn : 0 < n) : Lst (row (rep [49] n) (rep [48] n)) (rep [49] n) [48] := by
  have l9 : (rep [49] n).length = n := by rw [rep_len]; show n * 1 = n; omega
  rw [row_rep (a := [48]) (by decide) hn]
  have at9 : ∀ i, i < n → row (rep [49] n) [48] i = 49 := fun i hi => by
    rw [row_head (by omega)]
    have := rep_get (a := [49]) (by decide) n i (by show i < n * 1; omega)
    rw [show rep [49] n = List.flatten (List.replicate n [49]) from rfl, this, show i % ([49] : List Nat).length = 0 from Nat.mod_one i]
    rfl
  have at8 : ∀ i, n ≤ i → row (rep [49] n) [48] i = 48 := fun i hi => by
    rw [row_again (by omega), show (i - (rep [49] n).length) % ([48] : List Nat).length = 0 from Nat.mod_one _]
    rfl
  refine Lst.of ⟨by decide, fun i => rfl⟩ (fun c p P => ?_) (fun p P => P.1)
  rw [l9]
  by_cases h : n ≤ c
  · exact h
  · have h1 := P.1
    have := P.2 (n - 1) (by omega)
    rw [at9 (n - 1) (by omega), at8 _ (by omega)] at this
    cases this
theorem bin_nil : Bin [] := by
  intro c hc
  cases hc
theorem ok_bin {x : List Nat} (h : Bin x) : PyData.strOk (tx x) = true := by
  show (x.toArray.all fun c => decide (c < 0x110000)) = true
  rw [List.all_toArray, List.all_eq_true]
  intro c hc
  rcases h c hc with e | e <;> rw [e] <;> decide
theorem shaped_word {x y : List Nat} (hx : Bin x) (hy : Bin y) : SeqAt.shaped (.tuple [.str (tx x), .str (tx y)]) = true := by
  unfold SeqAt.shaped
  have e1 : (PyData.tuple [.str (tx x), .str (tx y)]).canLay0 = true := by
    simp [PyData.canLay0, PyData.canLayAll0, ok_bin hx, ok_bin hy]
  rw [e1]
  simp [PyData.depth, PyData.depthAll]
theorem dp_word {K : PySem.W.Frag} {H : Hp} {a : Addr} {x y : List Nat} (h : H a = some (.tup [.str (tx x), .str (tx y)])) : Dp K H (.ref a) (.tuple [.str (tx x), .str (tx y)]) := .tup (SqT.of h) (.cons (.str _) (.cons (.str _) .nil))
theorem eqv_word {x y : List Nat} : PyData.eqv (.tuple [.str (tx x), .str (tx y)]) (.tuple [.str (tx x), .str (tx y)]) = true := by
  simp [PyData.eqv, PyData.eqvAll]
section
variable {P : Program} {w : World} {K : PySem.W.Frag} {mg : Str → Option Value} {base : Heap}
def sp_law (K : PySem.W.Frag) : Sp := fun vs H Q _ => ∃ (a : Addr) (ns : List Int), vs = [.ref a] ∧ SqL K H a (ns.map V.int) ∧ ns.length ≤ 63 ∧ ∀ H', Q (.bl true) H'
theorem ok_law {f : Addr} {fd : FuncData} (F : Fun K "law" "law" s_law f fd) (m_len : mg "len" = none) (m_range : mg "range" = none) (g_MOST_SIGNS : ∃ t, mg "MOST_SIGNS" = some (.int 20000 t)) {f_law_word : Addr} {fd_law_word : FuncData} (c_law_word : Cal P w K mg base CX0 2 f_law_word fd_law_word "_law_word" ["_law_script", "_law_j"] (sp_law_word K)) {f_law_draws : Addr} {fd_law_draws : FuncData} (c_law_draws : Cal P w K mg base CX0 1 f_law_draws fd_law_draws "_law_draws" ["_law_script", "_law_j", "_law_many"] (sp_law_draws K)) {f_law_least : Addr} {fd_law_least : FuncData} (c_law_least : Cal P w K mg base CX0 2 f_law_least fd_law_least "_law_least" ["_law_signs_here"] (sp_law_least K)) {f_law_text : Addr} {fd_law_text : FuncData} (c_law_text : Cal P w K mg base CX0 1 f_law_text fd_law_text "_law_text" ["_law_word_here", "_law_many"] (sp_law_text K)) {f_is_word : Addr} {fd_is_word : FuncData} (c_is_word : Cal P w K mg base CX0 2 f_is_word fd_is_word "is_word" ["thing"] (sp_is_word K)) {f_least_word : Addr} {fd_least_word : FuncData} (c_least_word : Cal P w K mg base CX0 4 f_least_word fd_least_word "least_word" ["word"] (sp_least_word K)) {f_law_none : Addr} {fd_law_none : FuncData} (c_law_none : Cal P w K mg base CX0 1 f_law_none fd_law_none "_law_none" ["_law_word_here", "_law_number"] (sp_law_none K)) : FnOk P w K mg base CX0 5 f fd ["_law_script"] (sp_law K) := by
  refine F.ok sc_law (fun vs H Q E h => ?_) (fun cdv A outer s H vs Q E hr h => ?_)
  · obtain ⟨_, _, rfl, _⟩ := h
    rfl
  · obtain ⟨a, ns, rfl, hS, h1, q⟩ := h
    have hz := szl
    refine ⟨_, (C8.pss_cut (ps_for PassesOwn.never rfl (pi_range1 (by rfl) m_range (pa_cons pe_int pa_nil)) (pg_name (i := 1) sc_law.nd rfl (Or.inl rfl))
        (pss_cons (ps_set (i := 2) sc_law.nd rfl (Or.inl rfl) (pe_call c_law_word.G (hr.mono (by decide)) (by rfl) c_law_word.g c_law_word.kp c_law_word.b .nil pass0 (pa_cons (pv 0) (pa_cons (pv 1) pa_nil))))
        (pss_cons (ps_set (i := 3) sc_law.nd rfl (Or.inl rfl) (pe_call c_law_draws.G (hr.mono (by decide)) (by rfl) c_law_draws.g c_law_draws.kp c_law_draws.b .nil pass0 (pa_cons (pv 0) (pa_cons (pe_op op_add (pv 1) pe_int) (pa_cons pe_int pa_nil)))))
        (pss_cons (ps_set (i := 4) sc_law.nd rfl (Or.inl rfl) (pe_call c_law_least.G (hr.mono (by decide)) (by rfl) c_law_least.g c_law_least.kp c_law_least.b .nil pass0 (pa_cons (pe_call c_law_text.G (hr.mono (by decide)) (by rfl) c_law_text.g c_law_text.kp c_law_text.b .nil pass0 (pa_cons (pv 2) (pa_cons pe_int pa_nil))) pa_nil)))
        (C8.pss_cut (ps_set (i := 5) sc_law.nd rfl (Or.inl rfl) (pe_op op_mod (pe_ix ix_list (pv 3) pe_int (fun _ _ => rfl)) pe_int))
        (C8.pss_cut (ps_set (i := 6) sc_law.nd rfl (Or.inl rfl) (pe_slice sl_str (pe_call c_law_text.G (hr.mono (by decide)) (by rfl) c_law_text.g c_law_text.kp c_law_text.b .nil pass0 (pa_cons (pe_tup (pa_cons pe_str (pa_cons (pe_ix ix_tup (pv 2) pe_int (fun _ _ => rfl)) pa_nil))) (pa_cons pe_int pa_nil))) (po_some (pe_op op_mod (pv 5) (pe_callB call_len_str (by rfl) m_len PySem.boot_len (pa_cons (pe_ix ix_tup (pv 2) pe_int (fun _ _ => rfl)) pa_nil)))) po_none))
        (C8.pss_cut (ps_set (i := 7) sc_law.nd rfl (Or.inl rfl) (pe_tup (pa_cons (pe_op op_add_str (pe_ix ix_tup (pv 2) pe_int (fun _ _ => rfl)) (pe_call c_law_text.G (hr.mono (by decide)) (by rfl) c_law_text.g c_law_text.kp c_law_text.b .nil pass0 (pa_cons (pe_tup (pa_cons pe_str (pa_cons (pe_ix ix_tup (pv 2) pe_int (fun _ _ => rfl)) pa_nil))) (pa_cons (pv 5) pa_nil)))) (pa_cons (pe_slice sl_str (pv 6) po_none (po_some (pe_callB call_len_str (by rfl) m_len PySem.boot_len (pa_cons (pe_ix ix_tup (pv 2) pe_int (fun _ _ => rfl)) pa_nil)))) pa_nil))))
        (C8.pss_cut (ps_for PassesOwn.never rfl (pi_list (pe_lst (pa_cons (pv 2) (pa_cons (pv 4) (pa_cons (pv 7) (pa_cons (pe_tup (pa_cons (pe_ix ix_tup (pv 2) pe_int (fun _ _ => rfl)) (pa_cons (pe_op op_mul_str (pe_ix ix_tup (pv 2) pe_int (fun _ _ => rfl)) (pe_op op_add pe_int (pe_op op_mod (pe_ix ix_list (pv 3) pe_int (fun _ _ => rfl)) pe_int))) pa_nil))) pa_nil)))))) (pg_name (i := 8) sc_law.nd rfl (Or.inl rfl))
          (pss_one (ps_if (PW.pt (pw_or (pt_cmpR op_notBl (pe_call c_is_word.G (hr.mono (by decide)) (by rfl) c_is_word.g c_is_word.kp c_is_word.b .nil pass0 (pa_cons (pv 8) pa_nil)) pe_bl (nomark _)) (pw_or1 (pt_cmpR (op_neD hr.units) (pe_call c_least_word.G (hr.mono (by decide)) (by rfl) c_least_word.g c_least_word.kp c_least_word.b .nil pass0 (pa_cons (pv 8) pa_nil)) (pv 4) (nomark _)))))
            (pss_one (ps_ret pe_bl))
            pss_nil)))
        (pss_one (ps_for PassesOwn.never rfl (pi_list (pe_slice sl_list (pv 3) (po_some pe_int) po_none)) (pg_name (i := 9) sc_law.nd rfl (Or.inl rfl))
          (pss_one (ps_if (pt_cmpR op_notBl (pe_call c_is_word.G (hr.mono (by decide)) (by rfl) c_is_word.g c_is_word.kp c_is_word.b .nil pass0 (pa_cons (pe_call c_law_none.G (hr.mono (by decide)) (by rfl) c_law_none.g c_law_none.kp c_law_none.b .nil pass0 (pa_cons (pv 2) (pa_cons (pv 9) pa_nil))) pa_nil)) pe_bl (nomark _))
            (pss_one (ps_ret pe_bl))
            pss_nil))))))))))))
      (pss_cons (ps_set (i := 10) sc_law.nd rfl (Or.inl rfl) (pe_tup (pa_cons (pe_op op_mul_str pe_str (pe_glob (v := .int 20000) (by rfl) g_MOST_SIGNS.choose_spec ⟨_, rfl⟩)) (pa_cons (pe_op op_mul_str pe_str (pe_glob (v := .int 20000) (by rfl) g_MOST_SIGNS.choose_spec ⟨_, rfl⟩)) pa_nil))))
      (pss_one (ps_ret (pe_and (pe_cmpR op_isBl (pe_call c_is_word.G (hr.mono (by decide)) (by rfl) c_is_word.g c_is_word.kp c_is_word.b .nil pass0 (pa_cons (pv 10) pa_nil)) pe_bl (nomark _)) (pe_one (pe_cmpR (op_eqD hr.units) (pe_call c_least_word.G (hr.mono (by decide)) (by rfl) c_least_word.g c_least_word.kp c_least_word.b .nil pass0 (pa_cons (pv 10) pa_nil)) (pe_tup (pa_cons (pe_ix ix_tup (pv 10) pe_int (fun _ _ => rfl)) (pa_cons pe_str pa_nil))) (nomark _)))))))), ?_⟩
    -- the four words
    refine ⟨fun σ H' => ∃ y1 y2 y3 y4 y5 y6 y7 y8 y9 y10, σ = [some (.ref a), y1, y2, y3, y4, y5, y6, y7, y8, y9, y10], ?_, fun σ H' hm => ?_⟩
    · refine ⟨4, rfl, by decide, by decide, ?_⟩
      refine for_range (n := 4) (fun i σ H' => Same H H' ∧ ∃ y1 y2 y3 y4 y5 y6 y7 y8 y9 y10, σ = [some (.ref a), y1, y2, y3, y4, y5, y6, y7, y8, y9, y10]) ⟨Same.refl _, _, _, _, _, _, _, _, _, _, _, rfl⟩ (fun i σ H0 hi hP => ?_) (fun σ H' hP => ?_)
      · obtain ⟨s0, y1, y2, y3, y4, y5, y6, y7, y8, y9, y10, rfl⟩ := hP
        -- word
        refine ⟨_, rfl, _, rfl, a, ns, i, ?_, s0.seq hS, by omega, by omega, fun b x y H1 s1 nb hb bx byy lx ly1 ly2 => ?_⟩
        · show [V.ref a, V.int ((0 : Int) + (i : Int))] = [V.ref a, V.int (i : Int)]
          rw [Int.zero_add]
        have hS1 : SqL K H1 a (ns.map V.int) := (s0.trans s1).seq hS
        -- digits
        refine ⟨_, rfl, _, rfl, _, _, rfl, rfl, a, ns, i + 10, 6, ?_, hS1, by omega, by omega, by decide, fun p ds np hl hd => ?_⟩
        · show [V.ref a, V.int ((0 : Int) + (i : Int) + 10), V.int 6] = [V.ref a, V.int ((i + 10 : Nat) : Int), V.int ((6 : Nat) : Int)]
          rw [Int.zero_add]
          rfl
        have s2 : Same H1 (upd H1 p (.lst (ds.map nV))) := same_upd np
        have hp2 : (upd H1 p (.lst (ds.map nV))) p = some (.lst (ds.map nV)) := upd_same
        have hb2 := same_at s2 hb
        -- due
        refine ⟨_, rfl, b, x, y, 200, rfl, hb2, by omega, by omega, by omega, by decide, fun t T => ?_⟩
        have Pe := row_per (h := x) (a := y) (by omega)
        refine ⟨t, row x y, x.length, y.length, rfl, T, Pe, lx, ly2, fun d dx dy nd L => ?_⟩
        have s3 := same_upd (o := .tup [.str (tx dx), .str (tx dy)]) nd
        have hp3 := same_at s3 hp2
        have hb3 := same_at s3 hb2
        have hd3 : (upd (upd H1 p (.lst (ds.map nV))) d (.tup [.str (tx dx), .str (tx dy)])) d = some (.tup [.str (tx dx), .str (tx dy)]) := upd_same
        obtain ⟨bdx, bdy⟩ := L.bin bx byy (by omega)
        have ldx := L.head _ _ Pe
        have ldy := L.again _ _ Pe
        have ldy1 := L.tells.pos
        have sH3 : Same H (upd (upd H1 p (.lst (ds.map nV))) d (.tup [.str (tx dx), .str (tx dy)])) := s0.trans (s1.trans (s2.trans s3))
        generalize (upd (upd H1 p (.lst (ds.map nV))) d (.tup [.str (tx dx), .str (tx dy)])) = H3 at *
        -- cut
        refine ⟨fun σ H' => H' = H3 ∧ ∃ (cut : Nat) (y1 : Option V), σ = [some (.ref a), y1, some (.ref b), some (.ref p), some (.ref d), some (nV cut), y6, y7, y8, y9, y10] ∧ cut < 20, ?_, fun σ H' hm => ?_⟩
        · exact ⟨_, rfl, p, _, 0, _, rfl, rfl, SqL.of hp3, atI_nat (j := 0) (nV_at (by omega)), _, _, rfl, rfl, (by show (0 : Int) < _; decide), rfl, ds.getD 0 0 % 20, _, rfl, Nat.mod_lt _ (by decide)⟩
        obtain ⟨rfl, cut, y1, rfl, hcut⟩ := hm
        have hly := tx_len y
        have hlx := tx_len x
        -- turned
        refine ⟨fun σ H4 => Same H' H4 ∧ ∃ t60, WK.Txt (row [] y) 60 t60 ∧ σ = [some (.ref a), y1, some (.ref b), some (.ref p), some (.ref d), some (nV cut), some (.str (tx (t60.drop (cut % y.length)))), y7, y8, y9, y10], ?_, fun σ H4 hm => ?_⟩
        · refine ⟨_, rfl, b, _, 1, _, rfl, rfl, SqT.of hb3, atI_nat (j := 1) rfl, by show 2 ≤ sizeLine; decide, fun c nc => ?_⟩
          have sc := same_upd (o := .tup [.str (tx []), .str (tx y)]) nc
          refine ⟨c, [], y, 60, rfl, upd_same, by omega, by omega, by decide, by decide, fun t60 T60 => ?_⟩
          have hl60 := T60.1
          have hlt := tx_len t60
          refine ⟨_, rfl, _, rfl, b, _, 1, _, rfl, rfl, SqT.of (sc _ _ hb3), atI_nat (j := 1) rfl, tx y, rfl, by omega, _, _, rfl, rfl, ?_, _, rfl, tx t60, rfl, by omega, sc, t60, T60, ?_⟩
          · show (0 : Int) < ((tx y).length : Int)
            omega
          · show [_, _, _, _, _, _, some (V.str (cutS (tx t60) (some ((cut : Int) % ((tx y).length : Int))) none)), _, _, _, _] = _
            rw [hly, show ((cut : Int) % (y.length : Int)) = ((cut % y.length : Nat) : Int) from rfl, cut_n0]
        obtain ⟨s4, t60, T60, rfl⟩ := hm
        have hb4 := same_at s4 hb3
        have hp4 := same_at s4 hp3
        have hd4 := same_at s4 hd3
        have hl60 := T60.1
        -- moved
        refine ⟨fun σ H5 => Same H4 H5 ∧ ∃ m mx my, WordAt H5 m mx my ∧ row mx my = row x y ∧ σ = [some (.ref a), y1, some (.ref b), some (.ref p), some (.ref d), some (nV cut), some (.str (tx (t60.drop (cut % y.length)))), some (.ref m), y8, y9, y10], ?_, fun σ H5 hm => ?_⟩
        · refine ⟨_, rfl, b, _, 0, _, rfl, rfl, SqT.of hb4, atI_nat (j := 0) rfl, ?_⟩
          refine ⟨_, rfl, b, _, 1, _, rfl, rfl, SqT.of hb4, atI_nat (j := 1) rfl, by show 2 ≤ sizeLine; decide, fun c nc => ?_⟩
          have sc := same_upd (o := .tup [.str (tx []), .str (tx y)]) nc
          refine ⟨_, rfl, c, [], y, cut, rfl, upd_same, by omega, by omega, by decide, by omega, fun tc Tc => ?_⟩
          have hlc := Tc.1
          have hltc := tx_len tc
          have hdl : (t60.drop (cut % y.length)).length ≤ 60 := by rw [List.length_drop]; omega
          have hdt := tx_len (t60.drop (cut % y.length))
          refine ⟨_, _, rfl, rfl, by omega, _, rfl, _, rfl, b, _, 1, _, rfl, rfl, SqT.of (sc _ _ hb4), atI_nat (j := 1) rfl, tx y, rfl, by omega, _, rfl, tx (t60.drop (cut % y.length)), rfl, by omega, by show 2 ≤ sizeLine; decide, fun m nm => ?_⟩
          refine ⟨sc.trans (same_upd nm), m, x ++ tc, (t60.drop (cut % y.length)).take y.length, ⟨?_, ?_, ?_, ?_, ?_, ?_⟩, ?_, rfl⟩
          · rw [upd_same, ← tx_add, ← cut_0n, ← hly]
          · refine bin_app bx (bin_of fun i hi => ?_)
            rw [Tc.2 i (by omega)]
            exact row_bin bin_nil byy (by omega) i
          · refine bin_of fun i hi => ?_
            rw [List.length_take, List.length_drop] at hi
            rw [getD_take (by omega), getD_drop, T60.2 _ (by omega)]
            exact row_bin bin_nil byy (by omega) _
          · rw [List.length_append]; omega
          · rw [List.length_take, List.length_drop]
            have := Nat.mod_lt cut (show 0 < y.length by omega)
            omega
          · rw [List.length_take]; omega
          · exact row_moved (by omega) Tc T60 (by omega)
        obtain ⟨s5, m, mx, my, hm5, hmr, rfl⟩ := hm
        have hb5 := same_at s5 hb4
        have hp5 := same_at s5 hp4
        have hd5 := same_at s5 hd4
        -- for some in ..
        refine ⟨fun σ H6 => Same H5 H6 ∧ ∃ y8, σ = [some (.ref a), y1, some (.ref b), some (.ref p), some (.ref d), some (nV cut), some (.str (tx (t60.drop (cut % y.length)))), some (.ref m), y8, y9, y10], ?_, fun σ H6 hm => ?_⟩
        · refine ⟨_, rfl, _, rfl, _, rfl, ?_⟩
          refine ⟨_, rfl, b, _, 0, _, rfl, rfl, SqT.of hb5, atI_nat (j := 0) rfl, _, rfl, b, _, 1, _, rfl, rfl, SqT.of hb5, atI_nat (j := 1) rfl, ?_⟩
          have hk := Nat.mod_lt (ds.getD 1 0) (show 0 < 5 by decide)
          have hyk : y.length * (1 + ds.getD 1 0 % 5) ≤ 26 * 5 := Nat.mul_le_mul ly2 (by omega)
          refine ⟨_, rfl, p, _, 1, _, rfl, rfl, SqL.of hp5, atI_nat (j := 1) (nV_at (by omega)), _, _, rfl, rfl, (by show (0 : Int) < _; decide), _, _, rfl, rfl, y, 1 + ds.getD 1 0 % 5, rfl, rfl, by omega, by omega, by show 2 ≤ sizeLine; decide, fun e ne => ?_⟩
          have se := same_upd (o := .tup [.str (tx x), .str (tx (rep y (1 + ds.getD 1 0 % 5)))]) ne
          refine ⟨by show 4 ≤ sizeLine; decide, fun l nl => ?_⟩
          have sl := same_upd (o := .lst [.ref b, .ref d, .ref m, .ref e]) nl
          refine ⟨l, rfl, ⟨_, SqL.of upd_same⟩, ?_⟩
          have s56 : Same H5 (upd (upd H5 e (.tup [.str (tx x), .str (tx (rep y (1 + ds.getD 1 0 % 5)))])) l (.lst [.ref b, .ref d, .ref m, .ref e])) := se.trans sl
          have good : ∀ v ∈ [V.ref b, V.ref d, V.ref m, V.ref e], ∀ H', Same (upd (upd H5 e (.tup [.str (tx x), .str (tx (rep y (1 + ds.getD 1 0 % 5)))])) l (.lst [.ref b, .ref d, .ref m, .ref e])) H' → ∃ g gx gy, v = .ref g ∧ WordAt H' g gx gy ∧ row gx gy = row x y := by
            intro v hv H' sm
            simp only [List.mem_cons, List.not_mem_nil, or_false] at hv
            rcases hv with rfl | rfl | rfl | rfl
            · exact ⟨b, x, y, rfl, ⟨sm _ _ (s56 _ _ hb5), bx, byy, by omega, by omega, by omega⟩, rfl⟩
            · exact ⟨d, dx, dy, rfl, ⟨sm _ _ (s56 _ _ hd5), bdx, bdy, by omega, by omega, by omega⟩, funext L.tells.eq⟩
            · exact ⟨m, mx, my, rfl, ⟨sm _ _ (s56 _ _ hm5.1), hm5.2⟩, hmr⟩
            · refine ⟨e, x, rep y (1 + ds.getD 1 0 % 5), rfl, ⟨sm _ _ (sl _ _ upd_same), bx, bin_rep byy _, by omega, ?_, ?_⟩, row_rep (by omega) (by omega)⟩
              · rw [rep_len, Nat.mul_comm]
                exact Nat.mul_pos (show 0 < y.length by omega) (by omega)
              · rw [rep_len, Nat.mul_comm]; omega
          have hlL : (upd (upd H5 e (.tup [.str (tx x), .str (tx (rep y (1 + ds.getD 1 0 % 5)))])) l (.lst [.ref b, .ref d, .ref m, .ref e])) l = some (.lst [.ref b, .ref d, .ref m, .ref e]) := upd_same
          generalize (upd (upd H5 e (.tup [.str (tx x), .str (tx (rep y (1 + ds.getD 1 0 % 5)))])) l (.lst [.ref b, .ref d, .ref m, .ref e])) = HL at *
          refine for_list (K := K) (a := l) (xs := [V.ref b, V.ref d, V.ref m, V.ref e]) (fun i σ H' => Same HL H' ∧ ∃ y8, σ = [some (.ref a), y1, some (.ref b), some (.ref p), some (.ref d), some (nV cut), some (.str (tx (t60.drop (cut % y.length)))), some (.ref m), y8, y9, y10])
            ⟨Same.refl _, _, rfl⟩ (fun i σ H' _ hP => ?_) (fun i v σ H' hv hP => ?_) (fun σ H' hP => ?_)
          · exact SqL.of (hP.1 _ _ hlL)
          · obtain ⟨sm, y8, rfl⟩ := hP
            obtain ⟨g, gx, gy, rfl, hw, hrow⟩ := good v (List.mem_of_getElem? hv) H' sm
            refine ⟨_, rfl, _, true, rfl, hw.is, true, true, rfl, rfl, false, rfl, iteF ?_⟩
            refine ⟨_, rfl, g, gx, gy, rfl, hw, fun u x' y' nu L' _ _ => ?_⟩
            rw [hrow] at L'
            obtain ⟨rfl, rfl⟩ := L'.uniq L
            have su := same_upd (o := .tup [.str (tx x'), .str (tx y')]) nu
            refine ⟨_, rfl, _, _, dp_word upd_same, dp_word (su _ _ (sm _ _ (s56 _ _ hd5))), shaped_word bdx bdy, shaped_word bdx bdy, ?_⟩
            rw [eqv_word]
            refine ⟨false, rfl, iteF ⟨sm.trans su, _, rfl⟩⟩
          · exact ⟨s56.trans hP.1, hP.2⟩
        obtain ⟨s6, y8, rfl⟩ := hm
        have hb6 := same_at s6 hb5
        have hp6 := same_at s6 hp5
        have sH6 : Same H H6 := sH3.trans (s4.trans (s5.trans s6))
        -- for digit in ..
        refine ⟨_, rfl, _, rfl, p, _, rfl, SqL.of hp6, fun c nc => ?_⟩
        have sc := same_upd (o := .lst (cutV (ds.map nV) (some (2 : Int)) none)) nc
        have ecut : cutV (ds.map nV) (some (2 : Int)) none = (ds.drop 2).map nV := by
          show List.take _ (List.drop _ _) = _
          rw [show (HT.sIx (ds.map nV).length 0 (some (2 : Int))) = min 2 (ds.map nV).length from HT.sIx_nat _ _ 2, HT.sIx_none, List.length_map, hl, List.map_drop]
          exact List.take_of_length_le (by rw [List.length_drop, List.length_map]; omega)
        refine ⟨c, rfl, ⟨_, SqL.of upd_same⟩, ?_⟩
        have hcl : (upd H6 c (.lst (cutV (ds.map nV) (some (2 : Int)) none))) c = some (.lst ((ds.drop 2).map nV)) := by
          rw [upd_same, ecut]
        generalize (upd H6 c (.lst (cutV (ds.map nV) (some (2 : Int)) none))) = HC at *
        refine for_list (K := K) (a := c) (xs := (ds.drop 2).map nV) (fun i σ H' => Same HC H' ∧ ∃ y9, σ = [some (.ref a), y1, some (.ref b), some (.ref p), some (.ref d), some (nV cut), some (.str (tx (t60.drop (cut % y.length)))), some (.ref m), y8, y9, y10])
          ⟨Same.refl _, _, rfl⟩ (fun i σ H' _ hP => ?_) (fun i v σ H' hv hP => ?_) (fun σ H' hP => ?_)
        · exact SqL.of (hP.1 _ _ hcl)
        · obtain ⟨sm, y9, rfl⟩ := hP
          have hmem := List.mem_of_getElem? hv
          obtain ⟨num, _, rfl⟩ := List.mem_map.mp hmem
          refine ⟨_, rfl, _, rfl, b, x, y, num, rfl, sm _ _ (sc _ _ hb6), by omega, by omega, fun v' H7 s7 hw => ?_⟩
          refine ⟨_, false, rfl, hw, false, false, rfl, rfl, false, rfl, iteF ⟨sm.trans s7, _, rfl⟩⟩
        · obtain ⟨sm, y9, rfl⟩ := hP
          exact ⟨sH6.trans (sc.trans sm), _, _, _, _, _, _, _, _, _, _, rfl⟩
      · obtain ⟨s0, y1, y2, y3, y4, y5, y6, y7, y8, y9, y10, rfl⟩ := hP
        exact ⟨_, _, _, _, _, _, _, _, _, _, rfl⟩
    obtain ⟨y1, y2, y3, y4, y5, y6, y7, y8, y9, y10, rfl⟩ := hm
    -- the great word
    have e9 : (rep [49] 20000).length = 20000 := by rw [rep_len]; rfl
    have e8 : (rep [48] 20000).length = 20000 := by rw [rep_len]; rfl
    refine ⟨[49], 20000, rfl, rfl, by decide, by decide, [48], 20000, rfl, rfl, by decide, by decide, by show 2 ≤ sizeLine; decide, fun g ng => ?_⟩
    have hw : WordAt (upd H' g (.tup [.str (tx (rep [49] 20000)), .str (tx (rep [48] 20000))])) g (rep [49] 20000) (rep [48] 20000) := ⟨upd_same, bin_rep bin1 _, bin_rep bin0 _, by omega, by omega, by omega⟩
    refine ⟨_, rfl, _, true, rfl, hw.is, true, true, rfl, rfl, true, rfl, iteT ?_⟩
    refine ⟨_, rfl, g, _, _, rfl, hw, fun u x' y' nu L' _ _ => ?_⟩
    obtain ⟨rfl, rfl⟩ := L'.uniq (lst_great 20000 (by decide))
    have su := same_upd (o := .tup [.str (tx (rep [49] 20000)), .str (tx [48])]) nu
    refine ⟨_, rfl, g, _, 0, _, rfl, rfl, SqT.of (su _ _ hw.1), atI_nat (j := 0) rfl, by show 2 ≤ sizeLine; decide, fun z nz => ?_⟩
    have szz := same_upd (o := .tup [.str (tx (rep [49] 20000)), .str (tx [48])]) nz
    refine ⟨_, _, dp_word (szz _ _ upd_same), dp_word (x := rep [49] 20000) (y := [48]) upd_same, shaped_word (bin_rep bin1 _) bin0, shaped_word (bin_rep bin1 _) bin0, ?_⟩
    rw [eqv_word]
    exact q _
end
end WK
namespace WK
open PySem PySem.Spec PyProof.Rows L2
theorem all_mk {l : PySem.W.OpenLaw} {w : World} {K : PySem.W.Frag} {h : Heap} {mg : Str → Option Value} {fa : Addr} (X : K.In h) (G : h.Ns mainGlobals mg) (hfa : mg "law" = some (.ref fa))
    {f0 : Addr} {od0 an0 : Option Addr} {sl0 : Array (Option Value)} {oc0 kV0 dc0 pm0 cd0 ct0 : Value}
    (a0 : PySem.W.nsIn K mainGlobals "is_signs" = some (some (.ref f0))) (l0 : K.lookup f0 = some ⟨oc0, od0, .func (PySem.W.fnOf "is_signs" "is_signs" (defArgs s_is_signs) (defBody s_is_signs) (defScope s_is_signs) .none kV0 dc0 pm0 an0 cd0 ct0), sl0⟩) (e0 : PySem.W.codeIn K cd0 "is_signs" = true) (k0 : PySem.W.keepIn K (.ref f0) = true)
    {f1 : Addr} {od1 an1 : Option Addr} {sl1 : Array (Option Value)} {oc1 kV1 dc1 pm1 cd1 ct1 : Value}
    (a1 : PySem.W.nsIn K mainGlobals "is_word" = some (some (.ref f1))) (l1 : K.lookup f1 = some ⟨oc1, od1, .func (PySem.W.fnOf "is_word" "is_word" (defArgs s_is_word) (defBody s_is_word) (defScope s_is_word) .none kV1 dc1 pm1 an1 cd1 ct1), sl1⟩) (e1 : PySem.W.codeIn K cd1 "is_word" = true) (k1 : PySem.W.keepIn K (.ref f1) = true)
    {f2 : Addr} {od2 an2 : Option Addr} {sl2 : Array (Option Value)} {oc2 kV2 dc2 pm2 cd2 ct2 : Value}
    (a2 : PySem.W.nsIn K mainGlobals "_check_word" = some (some (.ref f2))) (l2 : K.lookup f2 = some ⟨oc2, od2, .func (PySem.W.fnOf "_check_word" "_check_word" (defArgs s_check_word) (defBody s_check_word) (defScope s_check_word) .none kV2 dc2 pm2 an2 cd2 ct2), sl2⟩) (e2 : PySem.W.codeIn K cd2 "_check_word" = true) (k2 : PySem.W.keepIn K (.ref f2) = true)
    {f3 : Addr} {od3 an3 : Option Addr} {sl3 : Array (Option Value)} {oc3 kV3 dc3 pm3 cd3 ct3 : Value}
    (a3 : PySem.W.nsIn K mainGlobals "_shortest_again" = some (some (.ref f3))) (l3 : K.lookup f3 = some ⟨oc3, od3, .func (PySem.W.fnOf "_shortest_again" "_shortest_again" (defArgs s_shortest_again) (defBody s_shortest_again) (defScope s_shortest_again) .none kV3 dc3 pm3 an3 cd3 ct3), sl3⟩) (e3 : PySem.W.codeIn K cd3 "_shortest_again" = true) (k3 : PySem.W.keepIn K (.ref f3) = true)
    {f4 : Addr} {od4 an4 : Option Addr} {sl4 : Array (Option Value)} {oc4 kV4 dc4 pm4 cd4 ct4 : Value}
    (a4 : PySem.W.nsIn K mainGlobals "_taken_in" = some (some (.ref f4))) (l4 : K.lookup f4 = some ⟨oc4, od4, .func (PySem.W.fnOf "_taken_in" "_taken_in" (defArgs s_taken_in) (defBody s_taken_in) (defScope s_taken_in) .none kV4 dc4 pm4 an4 cd4 ct4), sl4⟩) (e4 : PySem.W.codeIn K cd4 "_taken_in" = true) (k4 : PySem.W.keepIn K (.ref f4) = true)
    {f5 : Addr} {od5 an5 : Option Addr} {sl5 : Array (Option Value)} {oc5 kV5 dc5 pm5 cd5 ct5 : Value}
    (a5 : PySem.W.nsIn K mainGlobals "_least" = some (some (.ref f5))) (l5 : K.lookup f5 = some ⟨oc5, od5, .func (PySem.W.fnOf "_least" "_least" (defArgs s_least) (defBody s_least) (defScope s_least) .none kV5 dc5 pm5 an5 cd5 ct5), sl5⟩) (e5 : PySem.W.codeIn K cd5 "_least" = true) (k5 : PySem.W.keepIn K (.ref f5) = true)
    {f6 : Addr} {od6 an6 : Option Addr} {sl6 : Array (Option Value)} {oc6 kV6 dc6 pm6 cd6 ct6 : Value}
    (a6 : PySem.W.nsIn K mainGlobals "least_word" = some (some (.ref f6))) (l6 : K.lookup f6 = some ⟨oc6, od6, .func (PySem.W.fnOf "least_word" "least_word" (defArgs s_least_word) (defBody s_least_word) (defScope s_least_word) .none kV6 dc6 pm6 an6 cd6 ct6), sl6⟩) (e6 : PySem.W.codeIn K cd6 "least_word" = true) (k6 : PySem.W.keepIn K (.ref f6) = true)
    {f7 : Addr} {od7 an7 : Option Addr} {sl7 : Array (Option Value)} {oc7 kV7 dc7 pm7 cd7 ct7 : Value}
    (a7 : PySem.W.nsIn K mainGlobals "_law_draws" = some (some (.ref f7))) (l7 : K.lookup f7 = some ⟨oc7, od7, .func (PySem.W.fnOf "_law_draws" "_law_draws" (defArgs s_law_draws) (defBody s_law_draws) (defScope s_law_draws) .none kV7 dc7 pm7 an7 cd7 ct7), sl7⟩) (e7 : PySem.W.codeIn K cd7 "_law_draws" = true) (k7 : PySem.W.keepIn K (.ref f7) = true)
    {f8 : Addr} {od8 an8 : Option Addr} {sl8 : Array (Option Value)} {oc8 kV8 dc8 pm8 cd8 ct8 : Value}
    (a8 : PySem.W.nsIn K mainGlobals "_law_signs" = some (some (.ref f8))) (l8 : K.lookup f8 = some ⟨oc8, od8, .func (PySem.W.fnOf "_law_signs" "_law_signs" (defArgs s_law_signs) (defBody s_law_signs) (defScope s_law_signs) .none kV8 dc8 pm8 an8 cd8 ct8), sl8⟩) (e8 : PySem.W.codeIn K cd8 "_law_signs" = true) (k8 : PySem.W.keepIn K (.ref f8) = true)
    {f9 : Addr} {od9 an9 : Option Addr} {sl9 : Array (Option Value)} {oc9 kV9 dc9 pm9 cd9 ct9 : Value}
    (a9 : PySem.W.nsIn K mainGlobals "_law_word" = some (some (.ref f9))) (l9 : K.lookup f9 = some ⟨oc9, od9, .func (PySem.W.fnOf "_law_word" "_law_word" (defArgs s_law_word) (defBody s_law_word) (defScope s_law_word) .none kV9 dc9 pm9 an9 cd9 ct9), sl9⟩) (e9 : PySem.W.codeIn K cd9 "_law_word" = true) (k9 : PySem.W.keepIn K (.ref f9) = true)
    {f10 : Addr} {od10 an10 : Option Addr} {sl10 : Array (Option Value)} {oc10 kV10 dc10 pm10 cd10 ct10 : Value}
    (a10 : PySem.W.nsIn K mainGlobals "_law_text" = some (some (.ref f10))) (l10 : K.lookup f10 = some ⟨oc10, od10, .func (PySem.W.fnOf "_law_text" "_law_text" (defArgs s_law_text) (defBody s_law_text) (defScope s_law_text) .none kV10 dc10 pm10 an10 cd10 ct10), sl10⟩) (e10 : PySem.W.codeIn K cd10 "_law_text" = true) (k10 : PySem.W.keepIn K (.ref f10) = true)
    {f11 : Addr} {od11 an11 : Option Addr} {sl11 : Array (Option Value)} {oc11 kV11 dc11 pm11 cd11 ct11 : Value}
    (a11 : PySem.W.nsIn K mainGlobals "_law_tells" = some (some (.ref f11))) (l11 : K.lookup f11 = some ⟨oc11, od11, .func (PySem.W.fnOf "_law_tells" "_law_tells" (defArgs s_law_tells) (defBody s_law_tells) (defScope s_law_tells) .none kV11 dc11 pm11 an11 cd11 ct11), sl11⟩) (e11 : PySem.W.codeIn K cd11 "_law_tells" = true) (k11 : PySem.W.keepIn K (.ref f11) = true)
    {f12 : Addr} {od12 an12 : Option Addr} {sl12 : Array (Option Value)} {oc12 kV12 dc12 pm12 cd12 ct12 : Value}
    (a12 : PySem.W.nsIn K mainGlobals "_law_least" = some (some (.ref f12))) (l12 : K.lookup f12 = some ⟨oc12, od12, .func (PySem.W.fnOf "_law_least" "_law_least" (defArgs s_law_least) (defBody s_law_least) (defScope s_law_least) .none kV12 dc12 pm12 an12 cd12 ct12), sl12⟩) (e12 : PySem.W.codeIn K cd12 "_law_least" = true) (k12 : PySem.W.keepIn K (.ref f12) = true)
    {f13 : Addr} {od13 an13 : Option Addr} {sl13 : Array (Option Value)} {oc13 kV13 dc13 pm13 cd13 ct13 : Value}
    (a13 : PySem.W.nsIn K mainGlobals "_law_none" = some (some (.ref f13))) (l13 : K.lookup f13 = some ⟨oc13, od13, .func (PySem.W.fnOf "_law_none" "_law_none" (defArgs s_law_none) (defBody s_law_none) (defScope s_law_none) .none kV13 dc13 pm13 an13 cd13 ct13), sl13⟩) (e13 : PySem.W.codeIn K cd13 "_law_none" = true) (k13 : PySem.W.keepIn K (.ref f13) = true)
    {f14 : Addr} {od14 an14 : Option Addr} {sl14 : Array (Option Value)} {oc14 kV14 dc14 pm14 cd14 ct14 : Value}
    (a14 : PySem.W.nsIn K mainGlobals "law" = some (some (.ref f14))) (l14 : K.lookup f14 = some ⟨oc14, od14, .func (PySem.W.fnOf "law" "law" (defArgs s_law) (defBody s_law) (defScope s_law) .none kV14 dc14 pm14 an14 cd14 ct14), sl14⟩) (e14 : PySem.W.codeIn K cd14 "law" = true) (k14 : PySem.W.keepIn K (.ref f14) = true)
    (z_m_isinstance : PySem.W.nsIn K mainGlobals "isinstance" = some none)
    (z_m_len : PySem.W.nsIn K mainGlobals "len" = some none)
    (z_m_min : PySem.W.nsIn K mainGlobals "min" = some none)
    (z_m_range : PySem.W.nsIn K mainGlobals "range" = some none)
    (z_m_str : PySem.W.nsIn K mainGlobals "str" = some none)
    (z_m_tuple : PySem.W.nsIn K mainGlobals "tuple" = some none)
    {t_MOST_SIGNS : Tok} (v_MOST_SIGNS : PySem.W.nsIn K mainGlobals "MOST_SIGNS" = some (some (.int 20000 t_MOST_SIGNS))) :
    ∃ fd : FuncData, (∀ (s : Shared) (v : Value), BindsTo s fd ⟨[v], []⟩ [("_law_script", v)]) ∧ ∀ base : Heap, K.In base → base.Ns mainGlobals mg → FnOk l.prog w K mg base CX0 5 fa fd ["_law_script"] (sp_law K) := by
  have e := hfa.symm.trans (PySem.W.mg_of X G a14)
  cases e
  refine ⟨PySem.W.fnOf "law" "law" (defArgs s_law) (defBody s_law) (defScope s_law) .none kV14 dc14 pm14 an14 cd14 ct14, fun s v => .of_eq rfl, fun base _ _ => ?_⟩
  have m_isinstance := PySem.W.mg_none_of X G z_m_isinstance
  have m_len := PySem.W.mg_none_of X G z_m_len
  have m_min := PySem.W.mg_none_of X G z_m_min
  have m_range := PySem.W.mg_none_of X G z_m_range
  have m_str := PySem.W.mg_none_of X G z_m_str
  have m_tuple := PySem.W.mg_none_of X G z_m_tuple
  have g_MOST_SIGNS : ∃ t, mg "MOST_SIGNS" = some (.int 20000 t) := ⟨_, PySem.W.mg_of X G v_MOST_SIGNS⟩
  have F0 := fun_mk (st := s_is_signs) l0 e0 k0
  have b0 := F0.binds (ps := ["thing"]) fun _ _ _ _ _ _ us hl => match us, hl with | [_], _ => rfl
  have c_is_signs : Cal l.prog w K mg base CX0 1 f0 _ "is_signs" ["thing"] (sp_is_signs K) := ⟨ok_is_signs F0 m_isinstance m_str, PySem.W.mg_of X G a0, k0, b0⟩
  have F3 := fun_mk (st := s_shortest_again) l3 e3 k3
  have b3 := F3.binds (ps := ["again"]) fun _ _ _ _ _ _ us hl => match us, hl with | [_], _ => rfl
  have c_shortest_again : Cal l.prog w K mg base CX0 1 f3 _ "_shortest_again" ["again"] (sp_shortest_again K) := ⟨ok_shortest_again F3 , PySem.W.mg_of X G a3, k3, b3⟩
  have F4 := fun_mk (st := s_taken_in) l4 e4 k4
  have b4 := F4.binds (ps := ["head", "again"]) fun _ _ _ _ _ _ us hl => match us, hl with | [_, _], _ => rfl
  have c_taken_in : Cal l.prog w K mg base CX0 1 f4 _ "_taken_in" ["head", "again"] (sp_taken_in K) := ⟨ok_taken_in F4 m_len, PySem.W.mg_of X G a4, k4, b4⟩
  have F7 := fun_mk (st := s_law_draws) l7 e7 k7
  have b7 := F7.binds (ps := ["_law_script", "_law_j", "_law_many"]) fun _ _ _ _ _ _ us hl => match us, hl with | [_, _, _], _ => rfl
  have c_law_draws : Cal l.prog w K mg base CX0 1 f7 _ "_law_draws" ["_law_script", "_law_j", "_law_many"] (sp_law_draws K) := ⟨ok_law_draws F7 m_len m_min m_range, PySem.W.mg_of X G a7, k7, b7⟩
  have F8 := fun_mk (st := s_law_signs) l8 e8 k8
  have b8 := F8.binds (ps := ["_law_digits", "_law_many"]) fun _ _ _ _ _ _ us hl => match us, hl with | [_, _], _ => rfl
  have c_law_signs : Cal l.prog w K mg base CX0 1 f8 _ "_law_signs" ["_law_digits", "_law_many"] (sp_law_signs K) := ⟨ok_law_signs F8 , PySem.W.mg_of X G a8, k8, b8⟩
  have F10 := fun_mk (st := s_law_text) l10 e10 k10
  have b10 := F10.binds (ps := ["_law_word_here", "_law_many"]) fun _ _ _ _ _ _ us hl => match us, hl with | [_, _], _ => rfl
  have c_law_text : Cal l.prog w K mg base CX0 1 f10 _ "_law_text" ["_law_word_here", "_law_many"] (sp_law_text K) := ⟨ok_law_text F10 m_len, PySem.W.mg_of X G a10, k10, b10⟩
  have F11 := fun_mk (st := s_law_tells) l11 e11 k11
  have b11 := F11.binds (ps := ["_law_signs_here", "_law_cut", "_law_size"]) fun _ _ _ _ _ _ us hl => match us, hl with | [_, _, _], _ => rfl
  have c_law_tells : Cal l.prog w K mg base CX0 1 f11 _ "_law_tells" ["_law_signs_here", "_law_cut", "_law_size"] (sp_law_tells K) := ⟨ok_law_tells F11 m_len, PySem.W.mg_of X G a11, k11, b11⟩
  have F13 := fun_mk (st := s_law_none) l13 e13 k13
  have b13 := F13.binds (ps := ["_law_word_here", "_law_number"]) fun _ _ _ _ _ _ us hl => match us, hl with | [_, _], _ => rfl
  have c_law_none : Cal l.prog w K mg base CX0 1 f13 _ "_law_none" ["_law_word_here", "_law_number"] (sp_law_none K) := ⟨ok_law_none F13 m_len g_MOST_SIGNS, PySem.W.mg_of X G a13, k13, b13⟩
  have F1 := fun_mk (st := s_is_word) l1 e1 k1
  have b1 := F1.binds (ps := ["thing"]) fun _ _ _ _ _ _ us hl => match us, hl with | [_], _ => rfl
  have c_is_word : Cal l.prog w K mg base CX0 2 f1 _ "is_word" ["thing"] (sp_is_word K) := ⟨ok_is_word F1 m_isinstance m_len m_tuple g_MOST_SIGNS c_is_signs, PySem.W.mg_of X G a1, k1, b1⟩
  have F5 := fun_mk (st := s_least) l5 e5 k5
  have b5 := F5.binds (ps := ["head", "again"]) fun _ _ _ _ _ _ us hl => match us, hl with | [_, _], _ => rfl
  have c_least : Cal l.prog w K mg base CX0 2 f5 _ "_least" ["head", "again"] (sp_least K) := ⟨ok_least F5 m_len c_shortest_again c_taken_in, PySem.W.mg_of X G a5, k5, b5⟩
  have F9 := fun_mk (st := s_law_word) l9 e9 k9
  have b9 := F9.binds (ps := ["_law_script", "_law_j"]) fun _ _ _ _ _ _ us hl => match us, hl with | [_, _], _ => rfl
  have c_law_word : Cal l.prog w K mg base CX0 2 f9 _ "_law_word" ["_law_script", "_law_j"] (sp_law_word K) := ⟨ok_law_word F9 c_law_draws c_law_signs, PySem.W.mg_of X G a9, k9, b9⟩
  have F12 := fun_mk (st := s_law_least) l12 e12 k12
  have b12 := F12.binds (ps := ["_law_signs_here"]) fun _ _ _ _ _ _ us hl => match us, hl with | [_], _ => rfl
  have c_law_least : Cal l.prog w K mg base CX0 2 f12 _ "_law_least" ["_law_signs_here"] (sp_law_least K) := ⟨ok_law_least F12 m_range c_law_tells, PySem.W.mg_of X G a12, k12, b12⟩
  have F2 := fun_mk (st := s_check_word) l2 e2 k2
  have b2 := F2.binds (ps := ["word"]) fun _ _ _ _ _ _ us hl => match us, hl with | [_], _ => rfl
  have c_check_word : Cal l.prog w K mg base CX0 3 f2 _ "_check_word" ["word"] (sp_check_word K) := ⟨ok_check_word F2 c_is_word, PySem.W.mg_of X G a2, k2, b2⟩
  have F6 := fun_mk (st := s_least_word) l6 e6 k6
  have b6 := F6.binds (ps := ["word"]) fun _ _ _ _ _ _ us hl => match us, hl with | [_], _ => rfl
  have c_least_word : Cal l.prog w K mg base CX0 4 f6 _ "least_word" ["word"] (sp_least_word K) := ⟨ok_least_word F6 c_check_word c_least, PySem.W.mg_of X G a6, k6, b6⟩
  have F14 := fun_mk (st := s_law) l14 e14 k14
  exact ok_law F14 m_len m_range g_MOST_SIGNS c_law_word c_law_draws c_law_least c_law_text c_is_word c_least_word c_law_none
end WK
open PySem PySem.W PyProof.Rows
set_option maxRecDepth 100000 in
set_option maxHeartbeats 0 in
theorem PySem.Challenge.cw_clockloom_k01_words_looked_at_holds : PySem.Challenge.rw_clockloom_k01_words_looked_at.Holds := by
  w_on; o_law; k_head; (case hw => w_witness2)
  k_fill
  refine L2.walk_of (l := PySem.Challenge.rw_clockloom_k01_words_looked_at) (n := 63) (k := 5) (x := "_law_script") (CX := fun _ => L2.CX0) (sp := fun w => WK.sp_law _) rfl (by decide) rfl ⟨rfl, by decide, by decide⟩ (fun w h Y => PySem.W.kIn_of Y) ?F (fun _ _ a ns hl _ hS => ⟨a, ns, rfl, hS, hl, fun _ => rfl⟩) (fun _ _ _ _ _ h => h)
  case F =>
    intro w mg fa h KX G hmg
    refine' WK.all_mk KX G hmg ?a0 ?l0 ?e0 ?k0 ?a1 ?l1 ?e1 ?k1 ?a2 ?l2 ?e2 ?k2 ?a3 ?l3 ?e3 ?k3 ?a4 ?l4 ?e4 ?k4 ?a5 ?l5 ?e5 ?k5 ?a6 ?l6 ?e6 ?k6 ?a7 ?l7 ?e7 ?k7 ?a8 ?l8 ?e8 ?k8 ?a9 ?l9 ?e9 ?k9 ?a10 ?l10 ?e10 ?k10 ?a11 ?l11 ?e11 ?k11 ?a12 ?l12 ?e12 ?k12 ?a13 ?l13 ?e13 ?k13 ?a14 ?l14 ?e14 ?k14 ?z_m_isinstance ?z_m_len ?z_m_min ?z_m_range ?z_m_str ?z_m_tuple ?v_MOST_SIGNS
    (case a0 => k_is); (case l0 => k_is); (case e0 => k_is); (case k0 => k_is); (case a1 => k_is); (case l1 => k_is); (case e1 => k_is); (case k1 => k_is); (case a2 => k_is); (case l2 => k_is); (case e2 => k_is); (case k2 => k_is); (case a3 => k_is); (case l3 => k_is); (case e3 => k_is); (case k3 => k_is); (case a4 => k_is); (case l4 => k_is); (case e4 => k_is); (case k4 => k_is); (case a5 => k_is); (case l5 => k_is); (case e5 => k_is); (case k5 => k_is); (case a6 => k_is); (case l6 => k_is); (case e6 => k_is); (case k6 => k_is); (case a7 => k_is); (case l7 => k_is); (case e7 => k_is); (case k7 => k_is); (case a8 => k_is); (case l8 => k_is); (case e8 => k_is); (case k8 => k_is); (case a9 => k_is); (case l9 => k_is); (case e9 => k_is); (case k9 => k_is); (case a10 => k_is); (case l10 => k_is); (case e10 => k_is); (case k10 => k_is); (case a11 => k_is); (case l11 => k_is); (case e11 => k_is); (case k11 => k_is); (case a12 => k_is); (case l12 => k_is); (case e12 => k_is); (case k12 => k_is); (case a13 => k_is); (case l13 => k_is); (case e13 => k_is); (case k13 => k_is); (case a14 => k_is); (case l14 => k_is); (case e14 => k_is); (case k14 => k_is); (case z_m_isinstance => k_is); (case z_m_len => k_is); (case z_m_min => k_is); (case z_m_range => k_is); (case z_m_str => k_is); (case z_m_tuple => k_is); (case v_MOST_SIGNS => k_is)
