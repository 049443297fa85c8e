import PyProof.Rows.All
import Wide.All
import OpenK.AllK
import Wide.FinOn
import KE.KStateDown
import HandS.Head0
import HandS.Head1
import HandS.Head2
import HandS.Head3
import HandS.HeadEnd
import HandS.HeadHook1
import HandS.HeadHook2
import HandS.HeadHook3
import HandS.HeadHook4
import HandS.Base
import HandS.Call
import HandS.List
import HandS.Comp
import HandS.Ends
import HandS.Iter
import HandS.Text
import HandS.Words
import HandS.StrMore
import HandS.ForMost
import HandS.Exc
import HandS.ExcOwn
import HandS.ExcInit
import HandS.ExcField
import HandS.IsInst
import HandS.TryOnly
import HandS.WordsExc
import KE.KExcIs
import HandS.Walk
import KE.GoesZip
import KE.GoesMore
import KE.GoesEnum
import HandS.Defaults
import HandS.Gcd
import HandS.Dict
import HandS.Translate
import PyProof.ReprRoads
import HandS.ExcIs
import HandS.Small
import HandS.MakeKw
import HandS.Style
import HandS.Flow
import HandS.WideBits
import HandS.Wide
import HandS.MakeKwOnly
import PyProof.FitsInt
import HandS.FStrTup
import HandS.Codes
import HandS.Evl
import PySem.Challenge.RW_clockloom_k20_refusals_made
set_option Elab.async false
set_option linter.all false
set_option maxRecDepth 100000
set_option maxHeartbeats 2000000
namespace WK
/-- the sign at place i of the row that head and again tell -/
def row (h a : List Nat) (i : Nat) : Nat := if i < h.length then h.getD i 0 else a.getD ((i - h.length) % a.length) 0
def Per (R : Nat → Nat) (c p : Nat) : Prop := 0 < p ∧ ∀ i, c ≤ i → R (i + p) = R i
structure Tells (R : Nat → Nat) (x y : List Nat) : Prop where
  pos : 0 < y.length
  eq : ∀ i, row x y i = R i
structure Lst (R : Nat → Nat) (x y : List Nat) : Prop where
  tells : Tells R x y
  head : ∀ c p, Per R c p → x.length ≤ c
  again : ∀ c p, Per R c p → y.length ≤ p
theorem row_head {h a : List Nat} {i : Nat} (hi : i < h.length) : row h a i = h.getD i 0 := if_pos hi
theorem row_again {h a : List Nat} {i : Nat} (hi : h.length ≤ i) : row h a i = a.getD ((i - h.length) % a.length) 0 := if_neg (by omega)
theorem row_per {h a : List Nat} (ha : 0 < a.length) : Per (row h a) h.length a.length := by
  refine ⟨ha, fun i hi => ?_⟩
  rw [row_again (by omega), row_again hi, show i + a.length - h.length = (i - h.length) + a.length by omega, Nat.add_mod_right]
theorem Per.mul {R : Nat → Nat} {c p : Nat} (P : Per R c p) : ∀ (k i : Nat), c ≤ i → R (i + k * p) = R i
  | 0, i, _ => by rw [Nat.zero_mul, Nat.add_zero]
  | k + 1, i, hi => by
    rw [Nat.succ_mul, ← Nat.add_assoc, P.2 (i + k * p) (by omega), Per.mul P k i hi]
theorem Per.mod {R : Nat → Nat} {c p : Nat} (P : Per R c p) {i j : Nat} (hi : c ≤ i) (hj : c ≤ j) (e : (i - c) % p = (j - c) % p) : R i = R j := by
  have h1 := Nat.div_add_mod (i - c) p
  have h2 := Nat.div_add_mod (j - c) p
  have k1 : R i = R (c + (i - c) % p) := by
    have := P.mul ((i - c) / p) (c + (i - c) % p) (by omega)
    rw [← this, Nat.mul_comm]
    congr 1
    omega
  have k2 : R j = R (c + (j - c) % p) := by
    have := P.mul ((j - c) / p) (c + (j - c) % p) (by omega)
    rw [← this, Nat.mul_comm]
    congr 1
    omega
  rw [k1, k2, e]
/-- a period behind one place is one behind each place from which on there is one -/
theorem Per.down {R : Nat → Nat} {c p c' p' : Nat} (P : Per R c p) (P' : Per R c' p') : Per R c p' := by
  refine ⟨P'.1, fun i hi => ?_⟩
  have h1 := P.1
  have k : c' ≤ i + c' * p := by
    have : c' * 1 ≤ c' * p := Nat.mul_le_mul_left _ h1
    omega
  have e1 := P.mul c' (i + p') (by omega)
  have e2 := P.mul c' i hi
  have e3 := P'.2 (i + c' * p) k
  rw [← e1, ← e2, ← e3]
  congr 1
  omega
theorem Tells.per {R : Nat → Nat} {x y : List Nat} (T : Tells R x y) : Per R x.length y.length := by
  have h := row_per (h := x) T.pos
  exact ⟨h.1, fun i hi => by rw [← T.eq, ← T.eq]; exact h.2 i hi⟩
theorem getD_ext {x y : List Nat} (hl : x.length = y.length) (h : ∀ i, i < x.length → x.getD i 0 = y.getD i 0) : x = y := by
  apply List.ext_getElem hl
  intro i h1 h2
  have := h i h1
  rw [List.getD_eq_getElem?_getD, List.getD_eq_getElem?_getD, List.getElem?_eq_getElem h1, List.getElem?_eq_getElem h2] at this
  exact this
theorem Lst.uniq {R : Nat → Nat} {x y x' y' : List Nat} (L : Lst R x y) (L' : Lst R x' y') : x = x' ∧ y = y' := by
  have e1 : x.length = x'.length := Nat.le_antisymm (L.head _ _ L'.tells.per) (L'.head _ _ L.tells.per)
  have e2 : y.length = y'.length := Nat.le_antisymm (L.again _ _ L'.tells.per) (L'.again _ _ L.tells.per)
  refine ⟨getD_ext e1 fun i hi => ?_, getD_ext e2 fun i hi => ?_⟩
  · rw [← row_head (a := y) hi, ← row_head (h := x') (a := y') (by omega), L.tells.eq, L'.tells.eq]
  · have h1 := row_again (h := x) (a := y) (i := x.length + i) (by omega)
    have h2 := row_again (h := x') (a := y') (i := x'.length + i) (by omega)
    rw [show x.length + i - x.length = i by omega, Nat.mod_eq_of_lt hi] at h1
    rw [show x'.length + i - x'.length = i by omega, Nat.mod_eq_of_lt (by omega)] at h2
    rw [← h1, ← h2, L.tells.eq, L'.tells.eq, e1]
/-- a row with least places and a least period -/
theorem Lst.of {R : Nat → Nat} {x y : List Nat} (T : Tells R x y) (hc : ∀ c p, Per R c p → x.length ≤ c) (hp : ∀ p, Per R x.length p → y.length ≤ p) : Lst R x y :=
  ⟨T, hc, fun _ _ P => hp _ (T.per.down P)⟩
theorem row_ext {h a h' a' : List Nat} (e : ∀ i, row h a i = row h' a' i) : row h a = row h' a' := funext e
end WK
namespace WK
theorem Per.mono {R : Nat → Nat} {c c' p : Nat} (P : Per R c p) (h : c ≤ c') : Per R c' p := ⟨P.1, fun i hi => P.2 i (by omega)⟩
theorem least_one {P : Nat → Prop} : ∀ n, 1 ≤ n → P n → ∃ d, 1 ≤ d ∧ d ≤ n ∧ P d ∧ ∀ i, 1 ≤ i → i < d → ¬ P i := by
  intro n
  induction n using Nat.strongRecOn with
  | ind n ih =>
    intro h1 hp
    by_cases h : ∃ i, 1 ≤ i ∧ i < n ∧ P i
    · obtain ⟨i, a, b, c⟩ := h
      obtain ⟨d, e1, e2, e3, e4⟩ := ih i b a c
      exact ⟨d, e1, by omega, e3, e4⟩
    · exact ⟨n, h1, Nat.le_refl _, hp, fun i a b c => h ⟨i, a, b, c⟩⟩
theorem row_nil {a : List Nat} (i : Nat) : row [] a i = a.getD (i % a.length) 0 := by
  rw [row_again (Nat.zero_le _)]
  rfl
theorem row_shift {h a : List Nat} (i : Nat) : row h a (h.length + i) = row [] a i := by
  rw [row_again (by omega), row_nil, Nat.add_sub_cancel_left]
theorem getD_app {a b : List Nat} {i : Nat} : (a ++ b).getD i 0 = if i < a.length then a.getD i 0 else b.getD (i - a.length) 0 := by
  rw [List.getD_eq_getElem?_getD]
  by_cases h : i < a.length
  · rw [if_pos h, List.getElem?_append_left h, List.getD_eq_getElem?_getD]
  · rw [if_neg h, List.getElem?_append_right (by omega), List.getD_eq_getElem?_getD]
theorem getD_drop {a : List Nat} {d i : Nat} : (a.drop d).getD i 0 = a.getD (d + i) 0 := by
  rw [List.getD_eq_getElem?_getD, List.getElem?_drop, List.getD_eq_getElem?_getD]
theorem getD_take {a : List Nat} {d i : Nat} (h : i < d) : (a.take d).getD i 0 = a.getD i 0 := by
  rw [List.getD_eq_getElem?_getD, List.getElem?_take, if_pos h, List.getD_eq_getElem?_getD]
/-- the again stands at the d-th place of itself told twice -/
def Again (a : List Nat) (d : Nat) : Prop := ((a ++ a).drop d).take a.length = a
theorem again_row {a : List Nat} {i : Nat} (hi : i < 2 * a.length) : (a ++ a).getD i 0 = row [] a i := by
  rw [getD_app, row_nil]
  by_cases h : i < a.length
  · rw [if_pos h, Nat.mod_eq_of_lt h]
  · rw [if_neg h, Nat.mod_eq_sub_mod (by omega), Nat.mod_eq_of_lt (by omega)]
theorem again_iff {a : List Nat} {d : Nat} (h1 : 1 ≤ d) (hd : d ≤ a.length) : Again a d ↔ Per (row [] a) 0 d := by
  have hl : ((a ++ a).drop d).length = 2 * a.length - d := by rw [List.length_drop, List.length_append]; omega
  constructor
  · intro h
    refine ⟨h1, fun i _ => ?_⟩
    have ha : 0 < a.length := by omega
    have P := row_per (h := []) ha
    have e : ∀ j, j < a.length → row [] a (d + j) = row [] a j := fun j hj => by
      have q := congrArg (fun l : List Nat => l.getD j 0) h
      rw [getD_take hj, getD_drop, again_row (by omega)] at q
      rw [q, row_nil, Nat.mod_eq_of_lt hj]
    have hm := Nat.mod_lt i ha
    have k1 := P.mod (i := i + d) (j := d + i % a.length) (Nat.zero_le _) (Nat.zero_le _) (by
      show (i + d - 0) % a.length = (d + i % a.length - 0) % a.length
      rw [Nat.sub_zero, Nat.sub_zero, Nat.add_comm i d, Nat.add_mod_mod])
    have k2 := P.mod (i := i) (j := i % a.length) (Nat.zero_le _) (Nat.zero_le _) (by
      show (i - 0) % a.length = (i % a.length - 0) % a.length
      rw [Nat.sub_zero, Nat.sub_zero, Nat.mod_mod])
    rw [k1, e _ hm, k2]
  · intro h
    refine getD_ext (by rw [List.length_take, hl]; omega) fun j hj => ?_
    rw [List.length_take, hl] at hj
    have hj' : j < a.length := by omega
    rw [getD_take hj', getD_drop, again_row (by omega), Nat.add_comm, h.2 j (Nat.zero_le _), row_nil, Nat.mod_eq_of_lt hj']
/-- the least period of an again -/
structure Sho (a : List Nat) (d : Nat) : Prop where
  one : 1 ≤ d
  le : d ≤ a.length
  per : Per (row [] a) 0 d
  least : ∀ p, Per (row [] a) 0 p → d ≤ p
theorem sho_of {a : List Nat} {d : Nat} (h1 : 1 ≤ d) (hd : d ≤ a.length) (hm : Again a d) (hl : ∀ i, 1 ≤ i → i < d → ¬ Again a i) : Sho a d := by
  refine ⟨h1, hd, (again_iff h1 hd).mp hm, fun p hp => ?_⟩
  by_cases h : d ≤ p
  · exact h
  · exact absurd ((again_iff hp.1 (by omega)).mpr hp) (hl p hp.1 (by omega))
theorem again_self (a : List Nat) : Again a a.length := by
  unfold Again
  rw [List.drop_left, List.take_length]
theorem sho_ex {a : List Nat} (h : 0 < a.length) : ∃ d, 1 ≤ d ∧ d ≤ a.length ∧ Again a d ∧ ∀ i, 1 ≤ i → i < d → ¬ Again a i :=
  least_one a.length h (again_self a)
theorem Sho.row {a : List Nat} {d : Nat} (S : Sho a d) (i : Nat) : row [] (a.take d) i = row [] a i := by
  have hl : (a.take d).length = d := by rw [List.length_take]; exact Nat.min_eq_left S.le
  have hm := Nat.mod_lt i S.one
  rw [row_nil, hl, getD_take hm]
  have k := S.per.mod (i := i) (j := i % d) (Nat.zero_le _) (Nat.zero_le _) (by rw [Nat.sub_zero, Nat.sub_zero, Nat.mod_mod])
  have hle := S.le
  rw [k, row_nil, Nat.mod_eq_of_lt (Nat.lt_of_lt_of_le hm S.le)]
theorem Sho.row_head {a : List Nat} {d : Nat} (S : Sho a d) (h : List Nat) (i : Nat) : WK.row h (a.take d) i = WK.row h a i := by
  by_cases hi : i < h.length
  · rw [WK.row_head hi, WK.row_head hi]
  · obtain ⟨j, rfl⟩ : ∃ j, i = h.length + j := ⟨i - h.length, by omega⟩
    rw [row_shift, row_shift, S.row]
/-- the row of agains as a list -/
theorem rep_get {a : List Nat} (ha : 0 < a.length) : ∀ (k i : Nat), i < k * a.length → (List.flatten (List.replicate k a)).getD i 0 = a.getD (i % a.length) 0
  | 0, i, h => by omega
  | k + 1, i, h => by
    rw [List.replicate_succ, List.flatten_cons, getD_app]
    rw [Nat.succ_mul] at h
    by_cases hi : i < a.length
    · rw [if_pos hi, Nat.mod_eq_of_lt hi]
    · rw [if_neg hi, rep_get ha k (i - a.length) (by omega), ← Nat.mod_eq_sub_mod (by omega)]
theorem rep_length (a : List Nat) : ∀ k, (List.flatten (List.replicate k a)).length = k * a.length
  | 0 => by rw [Nat.zero_mul]; rfl
  | k + 1 => by rw [List.replicate_succ, List.flatten_cons, List.length_append, rep_length a k, Nat.succ_mul, Nat.add_comm]
/-- the head's last m signs are as in the row of agains -/
def Suf (h a : List Nat) (k m : Nat) : Prop := h.drop (h.length - m) = (List.flatten (List.replicate k a)).drop (k * a.length - m)
theorem suf_iff {h a : List Nat} {k m : Nat} (ha : 0 < a.length) (hk : h.length < k * a.length) (hm : m ≤ h.length) : Suf h a k m ↔ Per (row h a) (h.length - m) a.length := by
  have hL : (List.flatten (List.replicate k a)).length = k * a.length := rep_length a k
  have R := row_per (h := h) ha
  have key : ∀ j, j < m → (h.drop (h.length - m)).getD j 0 = row h a (h.length - m + j) ∧ ((List.flatten (List.replicate k a)).drop (k * a.length - m)).getD j 0 = row h a (h.length - m + j + k * a.length) := fun j hj => by
    constructor
    · rw [getD_drop, row_head (by omega)]
    · rw [getD_drop, rep_get ha k _ (by omega), row_again (by omega)]
      congr 2
      omega
  constructor
  · intro hs
    have e : ∀ i, h.length - m ≤ i → i < h.length → row h a (i + k * a.length) = row h a i := fun i h1 h2 => by
      have q := key (i - (h.length - m)) (by omega)
      rw [hs, show h.length - m + (i - (h.length - m)) = i by omega] at q
      rw [← q.2, ← q.1]
    have e2 : ∀ i, h.length - m ≤ i → row h a (i + k * a.length) = row h a i := fun i h1 => by
      by_cases h2 : i < h.length
      · exact e i h1 h2
      · exact R.mul k i (by omega)
    refine ⟨ha, fun i hi => ?_⟩
    rw [← e2 (i + a.length) (by omega), ← e2 i hi]
    have := R.2 (i + k * a.length) (by omega)
    rw [← this]
    congr 1
    omega
  · intro P
    refine getD_ext (by rw [List.length_drop, List.length_drop, hL]; omega) fun j hj => ?_
    rw [List.length_drop] at hj
    obtain ⟨k1, k2⟩ := key j (by omega)
    rw [k1, k2, P.mul k _ (by omega)]
theorem suf_zero {h a : List Nat} {k : Nat} : Suf h a k 0 := by
  unfold Suf
  rw [Nat.sub_zero, Nat.sub_zero, List.drop_length]
  have := rep_length a k
  rw [← this, List.drop_length]
theorem suf_le {h a : List Nat} {k m m' : Nat} (ha : 0 < a.length) (hk : h.length < k * a.length) (hm : m ≤ h.length) (hs : Suf h a k m) (h' : m' ≤ m) : Suf h a k m' :=
  (suf_iff ha hk (by omega)).mpr (((suf_iff ha hk hm).mp hs).mono (by omega))
/-- how many signs of the head are taken in -/
structure Tak (h a : List Nat) (m : Nat) : Prop where
  le : m ≤ h.length
  per : Per (row h a) (h.length - m) a.length
  least : ∀ c p, Per (row h a) c p → h.length - m ≤ c
theorem tak_of {h a : List Nat} {k m : Nat} (ha : 0 < a.length) (hk : h.length < k * a.length) (hm : m ≤ h.length) (hs : Suf h a k m) (hl : ∀ i, m < i → i ≤ h.length → ¬ Suf h a k i) : Tak h a m := by
  refine ⟨hm, (suf_iff ha hk hm).mp hs, fun c p P => ?_⟩
  by_cases h1 : h.length - m ≤ c
  · exact h1
  · have P2 := P.down (row_per (h := h) ha)
    refine absurd ((suf_iff ha hk (Nat.sub_le h.length c)).mpr ?_) (hl (h.length - c) (by omega) (by omega))
    rw [show h.length - (h.length - c) = c by omega]
    exact P2
/-- the again begun at another place -/
theorem turn_get {a : List Nat} {cut j : Nat} (hc : cut ≤ a.length) (hj : j < a.length) : (a.drop cut ++ a.take cut).getD j 0 = a.getD ((cut + j) % a.length) 0 := by
  rw [getD_app, List.length_drop]
  by_cases h : j < a.length - cut
  · rw [if_pos h, getD_drop, Nat.mod_eq_of_lt (by omega)]
  · rw [if_neg h, getD_take (by omega), Nat.mod_eq_sub_mod (by omega), Nat.mod_eq_of_lt (by omega)]
    congr 1
    omega
theorem turn_len {a : List Nat} {cut : Nat} (hc : cut ≤ a.length) : (a.drop cut ++ a.take cut).length = a.length := by
  rw [List.length_append, List.length_drop, List.length_take]
  omega
theorem lst_of {h a : List Nat} {d m : Nat} (ha : 0 < a.length) (S : Sho a d) (T : Tak h (a.take d) m) :
    Lst (row h a) (h.take (h.length - m)) ((a.take d).drop (d - m % d) ++ (a.take d).take (d - m % d)) := by
  have hl : (a.take d).length = d := by rw [List.length_take]; exact Nat.min_eq_left S.le
  have hR : row h (a.take d) = row h a := funext fun i => S.row_head h i
  have h1 := S.one
  have hmd := Nat.mod_lt m h1
  have hc : d - m % d ≤ (a.take d).length := by omega
  have hx : (h.take (h.length - m)).length = h.length - m := by rw [List.length_take]; omega
  have hm := T.le
  have T2 := T.per
  rw [hR, hl] at T2
  refine Lst.of ⟨by rw [turn_len hc]; omega, fun i => ?_⟩ ?_ ?_
  · by_cases hi : i < h.length - m
    · rw [row_head (by omega), getD_take hi, row_head (by omega)]
    · have e1 := row_again (h := h.take (h.length - m)) (a := (a.take d).drop (d - m % d) ++ (a.take d).take (d - m % d)) (i := i) (by omega)
      rw [e1, hx, turn_len hc, turn_get hc (Nat.mod_lt _ (by omega))]
      have e2 := T2.mul h.length i (by omega)
      have hb : h.length ≤ h.length * d := Nat.le_mul_of_pos_right _ h1
      rw [← e2, ← hR, row_again (by omega), hl]
      congr 1
      rw [Nat.add_mod_mod]
      have hdm := Nat.div_add_mod m d
      have e3 : d - m % d + m = d * (m / d + 1) := by
        rw [Nat.mul_add, Nat.mul_one]
        omega
      have e4 : i + h.length * d - h.length + (d - m % d + m) = (d - m % d + (i - (h.length - m))) + h.length * d := by omega
      have e5 : (i + h.length * d - h.length) % d = (i + h.length * d - h.length + (d - m % d + m)) % d := by rw [e3, Nat.add_mul_mod_self_left]
      rw [e5, e4, Nat.add_mul_mod_self_right]
  · intro c p P
    rw [hx]
    rw [← hR] at P
    exact T.least c p P
  · intro p P
    rw [turn_len hc, hl]
    rw [hx] at P
    refine S.least p ⟨P.1, fun i _ => ?_⟩
    have := P.2 (h.length + i) (by omega)
    rw [Nat.add_assoc, row_shift, row_shift] at this
    exact this
end WK
namespace WK
/-- the first n signs of a row -/
def Txt (R : Nat → Nat) (n : Nat) (t : List Nat) : Prop := t.length = n ∧ ∀ i, i < n → t.getD i 0 = R i
theorem Txt.uniq {R : Nat → Nat} {n : Nat} {t t' : List Nat} (h : Txt R n t) (h' : Txt R n t') : t = t' :=
  getD_ext (by rw [h.1, h'.1]) fun i hi => by
    rw [h.1] at hi
    rw [h.2 i hi, h'.2 i hi]
theorem Txt.take {R : Nat → Nat} {n m : Nat} {t : List Nat} (h : Txt R n t) (hm : m ≤ n) : Txt R m (t.take m) :=
  ⟨by rw [List.length_take, h.1]; omega, fun i hi => by rw [getD_take hi, h.2 i (by omega)]⟩
/-- the piece of a text -/
def piece (t : List Nat) (lo hi : Nat) : List Nat := (t.drop lo).take (hi - lo)
theorem piece_len {t : List Nat} {lo hi : Nat} (h : hi ≤ t.length) : (piece t lo hi).length = hi - lo := by
  unfold piece
  rw [List.length_take, List.length_drop]
  omega
theorem piece_get {t : List Nat} {lo hi i : Nat} (h : lo + i < hi) : (piece t lo hi).getD i 0 = t.getD (lo + i) 0 := by
  unfold piece
  rw [getD_take (by omega), getD_drop]
/-- what the law's look asks -/
def Win (t : List Nat) (cut size : Nat) : Prop :=
  (t.take cut ++ List.flatten (List.replicate (t.length / size + 1) (piece t cut (cut + size)))).take t.length = t
theorem win_iff {R : Nat → Nat} {n : Nat} {t : List Nat} (T : Txt R n t) {cut size c p : Nat} (P : Per R c p) (h1 : 1 ≤ size) (hn : max c cut + p + size ≤ n) : Win t cut size ↔ Per R cut size := by
  have hlen := T.1
  have hx : (t.take cut).length = cut := by rw [List.length_take]; omega
  have hw : (piece t cut (cut + size)).length = size := by rw [piece_len (by omega)]; omega
  have hk : n - cut ≤ (n / size + 1) * size := by
    have h2 := Nat.div_add_mod n size
    have h3 := Nat.mod_lt n h1
    rw [Nat.succ_mul, Nat.mul_comm]
    omega
  have hp := P.1
  have get : ∀ i, cut ≤ i → i < n → ((t.take cut ++ List.flatten (List.replicate (t.length / size + 1) (piece t cut (cut + size)))).take t.length).getD i 0 = R (cut + (i - cut) % size) := fun i h2 h3 => by
    have hm := Nat.mod_lt (i - cut) h1
    rw [getD_take (by omega), getD_app, hx, if_neg (by omega), hlen, rep_get (by omega) _ _ (by rw [hw]; omega), hw, piece_get (by omega), T.2 _ (by omega)]
  have low : ∀ i, i < cut → ((t.take cut ++ List.flatten (List.replicate (t.length / size + 1) (piece t cut (cut + size)))).take t.length).getD i 0 = R i := fun i h2 => by
    rw [getD_take (by omega), getD_app, hx, if_pos h2, getD_take h2, T.2 _ (by omega)]
  have hl : ((t.take cut ++ List.flatten (List.replicate (t.length / size + 1) (piece t cut (cut + size)))).take t.length).length = n := by
    rw [List.length_take, List.length_append, hx, rep_length, hw, hlen]
    omega
  constructor
  · intro h
    have e : ∀ i, cut ≤ i → i < n → R i = R (cut + (i - cut) % size) := fun i h2 h3 => by
      have q := get i h2 h3
      rw [h, T.2 i h3] at q
      exact q
    have s1 : ∀ i, cut ≤ i → i + size < n → R (i + size) = R i := fun i h2 h3 => by
      rw [e (i + size) (by omega) h3, e i h2 (by omega), show i + size - cut = i - cut + size by omega, Nat.add_mod_right]
    refine ⟨h1, fun i hi => ?_⟩
    by_cases h3 : i + size < n
    · exact s1 i hi h3
    · have P' : Per R (max c cut) p := P.mono (Nat.le_max_left _ _)
      have hc2 : cut ≤ max c cut := Nat.le_max_right _ _
      have hmm := Nat.mod_lt (i - max c cut) hp
      have g1 := P'.mod (i := i) (j := max c cut + (i - max c cut) % p) (by omega) (by omega) (by rw [Nat.add_sub_cancel_left, Nat.mod_mod])
      have g2 := P'.mod (i := i + size) (j := max c cut + (i - max c cut) % p + size) (by omega) (by omega) (by
        rw [show i + size - max c cut = (i - max c cut) + size by omega, show max c cut + (i - max c cut) % p + size - max c cut = (i - max c cut) % p + size by omega, Nat.mod_add_mod])
      rw [g1, g2]
      exact s1 _ (by omega) (by omega)
  · intro W
    refine getD_ext (by rw [hl, hlen]) fun i hi => ?_
    rw [hl] at hi
    rw [T.2 i hi]
    by_cases h2 : i < cut
    · exact low i h2
    · rw [get i (by omega) hi]
      exact W.mod (by omega) (by omega) (by rw [Nat.add_sub_cancel_left, Nat.mod_mod])
theorem lst_found {R : Nat → Nat} {n : Nat} {t : List Nat} (T : Txt R n t) {cut size c p B : Nat} (P : Per R c p) (hpB : p ≤ B) (h1 : 1 ≤ size) (hsB : size ≤ B) (hn : max c cut + B + B ≤ n) (hw : Win t cut size)
    (hc : ∀ c' s, c' < cut → 1 ≤ s → s ≤ B → ¬ Win t c' s) (hs : ∀ s, 1 ≤ s → s < size → ¬ Win t cut s) : Lst R (t.take cut) (piece t cut (cut + size)) := by
  have W := (win_iff T P h1 (by omega)).mp hw
  have hlen := T.1
  have hp := P.1
  have hx : (t.take cut).length = cut := by rw [List.length_take]; omega
  have hy : (piece t cut (cut + size)).length = size := by rw [piece_len (by omega)]; omega
  refine Lst.of ⟨by omega, fun i => ?_⟩ ?_ ?_
  · by_cases hi : i < cut
    · rw [row_head (by omega), getD_take hi, T.2 _ (by omega)]
    · have hm := Nat.mod_lt (i - cut) h1
      rw [row_again (by omega), hx, hy, piece_get (by omega), T.2 _ (by omega)]
      exact W.mod (by omega) (by omega) (by rw [Nat.add_sub_cancel_left, Nat.mod_mod])
  · intro c' p' P'
    rw [hx]
    by_cases h : cut ≤ c'
    · exact h
    · exact absurd ((win_iff T P hp (by omega)).mpr (P'.down P)) (hc c' p (by omega) hp hpB)
  · intro p' P'
    rw [hx] at P'
    rw [hy]
    by_cases h : size ≤ p'
    · exact h
    · exact absurd ((win_iff T P P'.1 (by omega)).mpr P') (hs p' P'.1 (by omega))
end WK
namespace WK
/-- how many ones stand at the first n places -/
def cnt (R : Nat → Nat) : Nat → Nat
  | 0 => 0
  | n + 1 => cnt R n + (if R n = 49 then 1 else 0)
theorem cnt_le {R : Nat → Nat} : ∀ {n m : Nat}, n ≤ m → cnt R n ≤ cnt R m
  | n, 0, h => by
    have : n = 0 := by omega
    subst this
    exact Nat.le_refl _
  | n, m + 1, h => by
    by_cases e : n = m + 1
    · subst e
      exact Nat.le_refl _
    · have := cnt_le (R := R) (show n ≤ m by omega)
      show _ ≤ cnt R m + _
      omega
theorem cnt_lt {R : Nat → Nat} {n m : Nat} (h : n < m) (hn : R n = 49) : cnt R n < cnt R m := by
  have h1 := cnt_le (R := R) (show n + 1 ≤ m from h)
  have h2 : cnt R (n + 1) = cnt R n + 1 := by
    show cnt R n + (if R n = 49 then 1 else 0) = _
    rw [if_pos hn]
  omega
theorem place_uniq {R : Nat → Nat} {p q : Nat} (hp : R p = 49) (hq : R q = 49) (e : cnt R p = cnt R q) : p = q := by
  rcases Nat.lt_trichotomy p q with h | h | h
  · have := cnt_lt h hp
    omega
  · exact h
  · have := cnt_lt h hq
    omega
theorem cnt_le_self {R : Nat → Nat} : ∀ n, cnt R n ≤ n
  | 0 => Nat.le_refl _
  | n + 1 => by
    have := cnt_le_self (R := R) n
    show cnt R n + _ ≤ _
    split <;> omega
theorem cnt_congr {R R' : Nat → Nat} : ∀ {n : Nat}, (∀ i, i < n → R i = R' i) → cnt R n = cnt R' n
  | 0, _ => rfl
  | n + 1, h => by
    show cnt R n + _ = cnt R' n + _
    rw [cnt_congr (fun i hi => h i (by omega)), h n (by omega)]
theorem cnt_add {R : Nat → Nat} (n : Nat) : ∀ m, cnt R (n + m) = cnt R n + cnt (fun i => R (n + i)) m
  | 0 => rfl
  | m + 1 => by
    show cnt R (n + m) + (if R (n + m) = 49 then 1 else 0) = cnt R n + (cnt (fun i => R (n + i)) m + (if R (n + m) = 49 then 1 else 0))
    rw [cnt_add n m]
    omega
/-- ones of a list -/
theorem count_take {l : List Nat} : ∀ {k : Nat}, k ≤ l.length → (l.take k).count 49 = cnt (fun i => l.getD i 0) k
  | 0, _ => rfl
  | k + 1, h => by
    rw [List.take_add_one, List.count_append, count_take (show k ≤ l.length by omega), List.getElem?_eq_getElem (show k < l.length by omega)]
    show _ = cnt (fun i => l.getD i 0) k + (if l.getD k 0 = 49 then 1 else 0)
    congr 1
    rw [List.getD_eq_getElem?_getD, List.getElem?_eq_getElem (show k < l.length by omega)]
    show List.count 49 [l[k]] = if l[k] = 49 then 1 else 0
    by_cases e : l[k] = 49
    · rw [e]; rfl
    · rw [if_neg e, List.count_eq_zero]
      intro hm
      exact e (List.mem_singleton.mp hm).symm
theorem count_cnt (l : List Nat) : l.count 49 = cnt (fun i => l.getD i 0) l.length := by
  rw [← count_take (Nat.le_refl _), List.take_length]
theorem cnt_head {h a : List Nat} {k : Nat} (hk : k ≤ h.length) : cnt (row h a) k = (h.take k).count 49 := by
  rw [count_take hk]
  exact cnt_congr fun i hi => row_head (by omega)
theorem cnt_rounds {a : List Nat} : ∀ (q : Nat), cnt (row [] a) (q * a.length) = q * a.count 49
  | 0 => by rw [Nat.zero_mul, Nat.zero_mul]; rfl
  | q + 1 => by
    rw [Nat.succ_mul, Nat.succ_mul, cnt_add, cnt_rounds q]
    congr 1
    rw [count_cnt]
    refine cnt_congr fun i hi => ?_
    show row [] a (q * a.length + i) = a.getD i 0
    rw [row_nil, Nat.add_comm, Nat.add_mul_mod_self_right, Nat.mod_eq_of_lt hi]
theorem cnt_again {a : List Nat} (q : Nat) {r : Nat} (hr : r ≤ a.length) : cnt (row [] a) (q * a.length + r) = q * a.count 49 + (a.take r).count 49 := by
  rw [cnt_add, cnt_rounds, count_take hr]
  congr 1
  refine cnt_congr fun i hi => ?_
  show row [] a (q * a.length + i) = a.getD i 0
  rw [row_nil, Nat.add_comm, Nat.add_mul_mod_self_right, Nat.mod_eq_of_lt (by omega)]
theorem cnt_row {h a : List Nat} (m : Nat) : cnt (row h a) (h.length + m) = h.count 49 + cnt (row [] a) m := by
  rw [cnt_add, cnt_head (Nat.le_refl _), List.take_length]
  congr 1
  exact cnt_congr fun i _ => row_shift i
theorem cnt_far {h a : List Nat} {k : Nat} (ha : 0 < a.length) (hk : h.length ≤ k) : cnt (row h a) k = h.count 49 + (k - h.length) / a.length * a.count 49 + (a.take ((k - h.length) % a.length)).count 49 := by
  have h1 := Nat.div_add_mod (k - h.length) a.length
  have h2 := Nat.mod_lt (k - h.length) ha
  have e : k = h.length + ((k - h.length) / a.length * a.length + (k - h.length) % a.length) := by
    rw [Nat.mul_comm]
    omega
  have := cnt_row (h := h) (a := a) ((k - h.length) / a.length * a.length + (k - h.length) % a.length)
  rw [← e] at this
  rw [this, cnt_again _ (by omega)]
  omega
/-- the place of a one in a list -/
def At1 (l : List Nat) (k p : Nat) : Prop := p < l.length ∧ l.getD p 0 = 49 ∧ (l.take p).count 49 = k
theorem at1_next {l : List Nat} {lo k : Nat} (hlo : lo ≤ l.length) (hk : (l.take lo).count 49 = k) (h : k < l.count 49) : ∃ p, lo ≤ p ∧ At1 l k p ∧ ∀ i, lo ≤ i → i < p → l.getD i 0 ≠ 49 := by
  have main : ∀ n lo, lo + n = l.length → (l.take lo).count 49 = k → ∃ p, lo ≤ p ∧ At1 l k p ∧ ∀ i, lo ≤ i → i < p → l.getD i 0 ≠ 49 := by
    intro n
    induction n with
    | zero =>
      intro lo e hk
      rw [show lo = l.length by omega, List.take_length] at hk
      omega
    | succ n ih =>
      intro lo e hk
      by_cases h1 : l.getD lo 0 = 49
      · exact ⟨lo, Nat.le_refl _, ⟨by omega, h1, hk⟩, fun i a b => by omega⟩
      · have hk2 : (l.take (lo + 1)).count 49 = k := by
          rw [count_take (by omega)]
          rw [count_take (by omega)] at hk
          show cnt (fun i => l.getD i 0) lo + (if l.getD lo 0 = 49 then 1 else 0) = k
          rw [if_neg h1]
          exact hk
        obtain ⟨p, p1, p2, p3⟩ := ih (lo + 1) (by omega) hk2
        exact ⟨p, by omega, p2, fun i a b => by
          by_cases e : i = lo
          · rw [e]; exact h1
          · exact p3 i (by omega) b⟩
  exact main (l.length - lo) lo (by omega) hk
theorem at1_succ {l : List Nat} {k p : Nat} (h : At1 l k p) : (l.take (p + 1)).count 49 = k + 1 := by
  obtain ⟨h1, h2, h3⟩ := h
  rw [count_take (by omega)]
  rw [count_take (by omega)] at h3
  show cnt (fun i => l.getD i 0) p + (if l.getD p 0 = 49 then 1 else 0) = k + 1
  rw [if_pos h2, h3]
/-- the place of the 1 ahead of which k 1s stand -/
def Place (R : Nat → Nat) (k p : Nat) : Prop := R p = 49 ∧ cnt R p = k
theorem place_head {h a : List Nat} {k p : Nat} (A : At1 h k p) : Place (row h a) k p := by
  obtain ⟨h1, h2, h3⟩ := A
  exact ⟨by rw [row_head h1]; exact h2, by rw [cnt_head (by omega)]; exact h3⟩
theorem place_again {h a : List Nat} {k p q : Nat} (ha : 0 < a.length) (A : At1 a k p) : Place (row h a) (h.count 49 + q * a.count 49 + k) (h.length + q * a.length + p) := by
  obtain ⟨h1, h2, h3⟩ := A
  constructor
  · rw [Nat.add_assoc, row_shift, row_nil, Nat.add_comm, Nat.add_mul_mod_self_right, Nat.mod_eq_of_lt h1]
    exact h2
  · rw [Nat.add_assoc, cnt_row, cnt_again q (by omega), h3]
    omega
/-- with no 1 in the again there are as many 1s as the head has -/
theorem no_place {h a : List Nat} {k p : Nat} (ha : 0 < a.length) (h0 : a.count 49 = 0) (hk : h.count 49 ≤ k) : ¬ Place (row h a) k p := fun ⟨h1, h2⟩ => by
  by_cases hp : p < h.length
  · have := cnt_lt hp h1
    rw [h2, cnt_head (Nat.le_refl _), List.take_length] at this
    omega
  · rw [row_again (by omega)] at h1
    have hm := Nat.mod_lt (p - h.length) ha
    have : 49 ∈ a := by
      rw [← h1, List.getD_eq_getElem?_getD, List.getElem?_eq_getElem hm]
      exact List.getElem_mem hm
    exact absurd this (List.count_eq_zero.mp h0)
end WK
namespace WK
/-- the signs of one row put on another one -/
def onr (R S : Nat → Nat) (k : Nat) : Nat := if R k = 49 then S (cnt R k) else 48
structure OnLen (x1 y1 x2 y2 : List Nat) (L A : Nat) : Prop where
  ge : x1.length ≤ L
  none : y1.count 49 = 0 → L = x1.length ∧ A = y1.length
  has : 0 < y1.count 49 → x2.length ≤ cnt (row x1 y1) L
  least : 0 < y1.count 49 → ∀ m, x1.length ≤ m → x2.length ≤ cnt (row x1 y1) m → L ≤ m
  again : 0 < y1.count 49 → A = y2.length / Nat.gcd y2.length (y1.count 49) * y1.length
theorem OnLen.uniq {x1 y1 x2 y2 : List Nat} {L A L' A' : Nat} (h : OnLen x1 y1 x2 y2 L A) (h' : OnLen x1 y1 x2 y2 L' A') : L = L' ∧ A = A' := by
  by_cases c : y1.count 49 = 0
  · obtain ⟨a1, a2⟩ := h.none c
    obtain ⟨b1, b2⟩ := h'.none c
    exact ⟨by rw [a1, b1], by rw [a2, b2]⟩
  · have c : 0 < y1.count 49 := by omega
    exact ⟨Nat.le_antisymm (h.least c _ h'.ge (h'.has c)) (h'.least c _ h.ge (h.has c)), by rw [h.again c, h'.again c]⟩
theorem times_dvd {n e t : Nat} (hn : 0 < n) : t * e % n = 0 ↔ n / Nat.gcd n e ∣ t := by
  have g := Nat.gcd_pos_of_pos_left e hn
  obtain ⟨n', hn'⟩ := Nat.gcd_dvd_left n e
  obtain ⟨e', he'⟩ := Nat.gcd_dvd_right n e
  have hd : n / Nat.gcd n e = n' := Nat.div_eq_of_eq_mul_right g hn'
  have co : Nat.Coprime n' e' := by
    have := Nat.coprime_div_gcd_div_gcd (m := n) (n := e) g
    rw [hd, Nat.div_eq_of_eq_mul_right g he'] at this
    exact this
  rw [hd, ← Nat.dvd_iff_mod_eq_zero]
  constructor
  · intro h
    have h : Nat.gcd n e * n' ∣ Nat.gcd n e * (t * e') := by
      rw [← hn', ← Nat.mul_assoc, Nat.mul_comm _ t, Nat.mul_assoc, ← he']
      exact h
    exact co.dvd_of_dvd_mul_right (Nat.dvd_of_mul_dvd_mul_left g h)
  · intro h
    obtain ⟨q, rfl⟩ := h
    refine ⟨q * e', ?_⟩
    calc n' * q * e = n' * q * (Nat.gcd n e * e') := by rw [← he']
      _ = (Nat.gcd n e * n') * (q * e') := by rw [Nat.mul_comm (Nat.gcd n e) n', Nat.mul_assoc, Nat.mul_assoc, Nat.mul_left_comm q]
      _ = n * (q * e') := by rw [← hn']
theorem times_pos {n e : Nat} (hn : 0 < n) : 1 ≤ n / Nat.gcd n e := Nat.div_pos (Nat.le_of_dvd hn (Nat.gcd_dvd_left n e)) (Nat.gcd_pos_of_pos_left e hn)
theorem cnt_more {x y : List Nat} (hy : 0 < y.length) {k : Nat} (hk : x.length ≤ k) (r : Nat) : cnt (row x y) (k + r * y.length) = cnt (row x y) k + r * y.count 49 := by
  rw [cnt_far hy (by omega), cnt_far hy hk, show k + r * y.length - x.length = k - x.length + r * y.length by omega, Nat.add_mul_mod_self_right, Nat.add_mul_div_right _ _ hy, Nat.add_mul]
  omega
theorem none_on {x y : List Nat} (hy : 0 < y.length) (h : y.count 49 = 0) {k : Nat} (hk : x.length ≤ k) : row x y k ≠ 49 := fun e => by
  refine no_place hy h (k := cnt (row x y) k) ?_ ⟨e, rfl⟩
  rw [cnt_far hy hk]
  omega
theorem on_per {x1 y1 x2 y2 : List Nat} {L A : Nat} (h : OnLen x1 y1 x2 y2 L A) (h1 : 0 < y1.length) (h2 : 0 < y2.length) : Per (onr (row x1 y1) (row x2 y2)) L A := by
  by_cases c : y1.count 49 = 0
  · obtain ⟨a1, a2⟩ := h.none c
    refine ⟨by omega, fun i hi => ?_⟩
    unfold onr
    rw [if_neg (none_on h1 c (by omega)), if_neg (none_on h1 c (by omega))]
  · have c : 0 < y1.count 49 := by omega
    have hA := h.again c
    have tp := times_pos (e := y1.count 49) h2
    refine ⟨by rw [hA]; exact Nat.mul_pos tp h1, fun i hi => ?_⟩
    have hg := h.ge
    have e1 : row x1 y1 (i + A) = row x1 y1 i := by rw [hA]; exact (row_per h1).mul _ i (by omega)
    have e2 : cnt (row x1 y1) (i + A) = cnt (row x1 y1) i + y2.length / Nat.gcd y2.length (y1.count 49) * y1.count 49 := by rw [hA]; exact cnt_more h1 (by omega) _
    obtain ⟨q, hq⟩ := Nat.dvd_iff_mod_eq_zero.mpr ((times_dvd (e := y1.count 49) (t := y2.length / Nat.gcd y2.length (y1.count 49)) h2).mpr (Nat.dvd_refl _))
    have e3 : row x2 y2 (cnt (row x1 y1) (i + A)) = row x2 y2 (cnt (row x1 y1) i) := by
      rw [e2, hq, Nat.mul_comm]
      have := cnt_le (R := row x1 y1) hi
      exact (row_per h2).mul q _ (by have := h.has c; omega)
    unfold onr
    rw [e1, e3]
theorem row_of_txt {R : Nat → Nat} {L A : Nat} {t : List Nat} (T : Txt R (L + A) t) (P : Per R L A) : row (t.take L) (t.drop L) = R := by
  have hl := T.1
  have hp := P.1
  have l1 : (t.take L).length = L := by rw [List.length_take]; omega
  have l2 : (t.drop L).length = A := by rw [List.length_drop]; omega
  funext i
  by_cases hi : i < L
  · rw [row_head (by omega), getD_take hi, T.2 i (by omega)]
  · have hm := Nat.mod_lt (i - L) hp
    rw [row_again (by omega), l1, l2, getD_drop, T.2 _ (by omega)]
    refine P.mod (by omega) (by omega) ?_
    rw [Nat.add_sub_cancel_left, Nat.mod_mod]
/-! ### signs in the stead of the 1s -/
def lay : List Nat → List Nat → List Nat
  | [], _ => []
  | c :: r, s => if c = 49 then s.headD 0 :: lay r (s.drop 1) else c :: lay r s
theorem lay_len : ∀ (t s : List Nat), (lay t s).length = t.length
  | [], _ => rfl
  | c :: r, s => by
    unfold lay
    by_cases h : c = 49
    · rw [if_pos h, List.length_cons, List.length_cons, lay_len]
    · rw [if_neg h, List.length_cons, List.length_cons, lay_len]
theorem lay_get : ∀ (t s : List Nat) (i : Nat), i < t.length → (lay t s).getD i 0 = if t.getD i 0 = 49 then s.getD ((t.take i).count 49) 0 else t.getD i 0
  | [], _, i, h => by simp at h
  | c :: r, s, 0, _ => by
    unfold lay
    by_cases h : c = 49
    · rw [if_pos h, List.getD_cons_zero, List.getD_cons_zero, if_pos h]
      cases s <;> rfl
    · rw [if_neg h, List.getD_cons_zero, List.getD_cons_zero, if_neg h]
  | c :: r, s, i + 1, hi => by
    have hi : i < r.length := by simpa using hi
    unfold lay
    by_cases h : c = 49
    · rw [if_pos h, List.getD_cons_succ, List.getD_cons_succ, lay_get r _ i hi, List.take_succ_cons, List.count_cons, h]
      simp only [beq_self_eq_true, if_true]
      rw [getD_drop, Nat.add_comm]
    · rw [if_neg h, List.getD_cons_succ, List.getD_cons_succ, lay_get r _ i hi, List.take_succ_cons, List.count_cons, show (c == 49) = false by simpa using h]
      rfl
def spl : List Nat → List (List Nat)
  | [] => [[]]
  | c :: r => if c = 49 then [] :: spl r else match spl r with
    | g :: gs => (c :: g) :: gs
    | [] => [[c]]
def wv : List (List Nat) → List Nat → List Nat
  | [], _ => []
  | [g], _ => g
  | g :: gs, s => g ++ s.headD 0 :: wv gs (s.drop 1)
theorem spl_ne : ∀ t, spl t ≠ []
  | [] => by unfold spl; exact fun h => nomatch h
  | c :: r => by
    unfold spl
    split
    · exact fun h => nomatch h
    · split
      · exact fun h => nomatch h
      · exact fun h => nomatch h
theorem spl_len : ∀ t, (spl t).length = t.count 49 + 1
  | [] => rfl
  | c :: r => by
    have ih := spl_len r
    unfold spl
    by_cases h : c = 49
    · rw [if_pos h, List.length_cons, ih, List.count_cons, if_pos (by simpa using h)]
    · rw [if_neg h, List.count_cons, if_neg (by simpa using h)]
      cases e : spl r with
      | nil => exact absurd e (spl_ne r)
      | cons g gs =>
        rw [e] at ih
        exact ih
theorem wv_spl : ∀ (t s : List Nat), wv (spl t) s = lay t s
  | [], _ => rfl
  | c :: r, s => by
    have ih := fun s => wv_spl r s
    unfold spl lay
    by_cases h : c = 49
    · rw [if_pos h, if_pos h]
      cases e : spl r with
      | nil => exact absurd e (spl_ne r)
      | cons g gs =>
        rw [← ih, e]
        rfl
    · rw [if_neg h, if_neg h]
      cases e : spl r with
      | nil => exact absurd e (spl_ne r)
      | cons g gs =>
        rw [← ih, e]
        cases gs with
        | nil => rfl
        | cons g2 gs => rfl
theorem wv_flat : ∀ (gs : List (List Nat)) (s : List Nat) (h : gs ≠ []), gs.length = s.length + 1 → (List.zipWith (fun g c => g ++ [c]) gs s).flatten ++ gs.getLast h = wv gs s
  | [], _, h, _ => absurd rfl h
  | [g], [], _, _ => by simp [wv]
  | [g], c :: s, _, e => by simp at e
  | g :: g2 :: gs, [], _, e => by simp at e
  | g :: g2 :: gs, c :: s, _, e => by
    have ih := wv_flat (g2 :: gs) s (List.cons_ne_nil _ _) (by simpa using e)
    rw [List.zipWith_cons_cons, List.flatten_cons, List.getLast_cons (List.cons_ne_nil _ _), List.append_assoc, ih]
    show _ = g ++ c :: wv (g2 :: gs) s
    rw [List.append_assoc]
    rfl
theorem lay_on {R S : Nat → Nat} {n : Nat} {t s : List Nat} (T : Txt R n t) (b : ∀ i, R i = 48 ∨ R i = 49) (Z : Txt S (t.count 49) s) : Txt (onr R S) n (lay t s) := by
  refine ⟨by rw [lay_len, T.1], fun i hi => ?_⟩
  have hl := T.1
  rw [lay_get _ _ _ (by omega), T.2 i hi]
  have hc : (t.take i).count 49 = cnt R i := by
    rw [count_take (by omega)]
    exact cnt_congr fun j hj => T.2 j (by omega)
  unfold onr
  by_cases h : R i = 49
  · rw [if_pos h, if_pos h, hc]
    refine Z.2 _ ?_
    have : t.count 49 = cnt R n := by
      rw [count_cnt, hl]
      exact cnt_congr fun j hj => T.2 j hj
    rw [this]
    exact cnt_lt hi h
  · rw [if_neg h, if_neg h]
    rcases b i with z | z
    · exact z
    · exact absurd z h
theorem onr_bin {R S : Nat → Nat} (b : ∀ i, S i = 48 ∨ S i = 49) (k : Nat) : onr R S k = 48 ∨ onr R S k = 49 := by
  unfold onr
  split
  · exact b _
  · exact .inl rfl
end WK
namespace WK
open PySem PySem.Spec PyProof.Rows L2

/-! ### texts as lists of codes -/
def tx (l : List Nat) : Str := ⟨l.toArray⟩
theorem tx_toList (l : List Nat) : (tx l).cps.toList = l := rfl
theorem tx_len (l : List Nat) : (tx l).length = l.length := by
  show l.toArray.size = l.length
  exact List.size_toArray
theorem tx_inj {a b : List Nat} (h : tx a = tx b) : a = b := by
  have := congrArg (fun z : Str => z.cps.toList) h
  exact this
theorem tx_eq (a b : List Nat) : decide (V.str (tx a) = V.str (tx b)) = decide (a = b) := by
  by_cases e : a = b
  · subst e; simp
  · rw [decide_eq_false e, decide_eq_false]
    intro z
    exact e (tx_inj (V.str.inj z))
theorem tx_add (a b : List Nat) : tx a ++ tx b = tx (a ++ b) := by
  show (⟨a.toArray ++ b.toArray⟩ : Str) = ⟨(a ++ b).toArray⟩
  congr 1
  simp
def cutL (l : List Nat) (lo hi : Nat) : List Nat := (l.drop lo).take (hi - lo)
theorem cut_nn (l : List Nat) (lo hi : Nat) : cutS (tx l) (some (lo : Int)) (some (hi : Int)) = tx (cutL l (min lo l.length) (min hi l.length)) := by
  have e : ∀ n, n = l.length → (⟨(List.take (HT.sIx n n (some (hi : Int)) - HT.sIx n 0 (some (lo : Int))) (List.drop (HT.sIx n 0 (some (lo : Int))) l)).toArray⟩ : Str) = tx (cutL l (min lo l.length) (min hi l.length)) := fun n en => by
    subst en
    rw [HT.sIx_nat, HT.sIx_nat]
    rfl
  exact e _ (tx_len l)
theorem cut_n0 (l : List Nat) (lo : Nat) : cutS (tx l) (some (lo : Int)) none = tx (l.drop lo) := by
  show (⟨_⟩ : Str) = ⟨_⟩
  congr 1
  rw [tx_len]
  show (List.take _ (List.drop _ l)).toArray = _
  rw [HT.sIx_nat, HT.sIx_none]
  by_cases h : lo ≤ l.length
  · rw [Nat.min_eq_left h, List.take_of_length_le (by rw [List.length_drop]; omega)]
  · rw [Nat.min_eq_right (by omega), List.drop_of_length_le (by omega), List.drop_of_length_le (show l.length ≤ lo by omega)]
    simp
theorem cut_0n (l : List Nat) (hi : Nat) : cutS (tx l) none (some (hi : Int)) = tx (l.take hi) := by
  show (⟨_⟩ : Str) = ⟨_⟩
  congr 1
  rw [tx_len]
  show (List.take _ (List.drop _ l)).toArray = _
  rw [HT.sIx_nat, HT.sIx_none, List.drop_zero, Nat.sub_zero]
  by_cases h : hi ≤ l.length
  · rw [Nat.min_eq_left h]
  · rw [Nat.min_eq_right (by omega), List.take_of_length_le (by omega), List.take_of_length_le (by omega)]
/-- the list n times -/
def rep (a : List Nat) (n : Nat) : List Nat := (List.replicate n a).flatten
theorem rep_zero (a : List Nat) : rep a 0 = [] := rfl
theorem rep_succ (a : List Nat) (n : Nat) : rep a (n + 1) = a ++ rep a n := by
  unfold rep
  rw [List.replicate_succ, List.flatten_cons]
theorem rep_len (a : List Nat) : ∀ n, (rep a n).length = n * a.length
  | 0 => by rw [rep_zero, Nat.zero_mul]; rfl
  | n + 1 => by rw [rep_succ, List.length_append, rep_len a n, Nat.succ_mul, Nat.add_comm]
theorem foldl_app (a : List Nat) : ∀ (n : Nat) (acc : List Nat), List.foldl (fun x1 x2 => x1 ++ x2) acc.toArray (List.replicate n a.toArray) = (acc ++ rep a n).toArray
  | 0, acc => by rw [rep_zero, List.append_nil]; rfl
  | n + 1, acc => by
    rw [List.replicate_succ, List.foldl_cons, rep_succ]
    have e : acc.toArray ++ a.toArray = (acc ++ a).toArray := by simp
    rw [e, foldl_app a n (acc ++ a), List.append_assoc]
theorem tx_mul (a : List Nat) (n : Nat) : Txt.mul (tx a) (n : Int) = tx (rep a n) := by
  unfold Txt.mul
  by_cases h0 : n = 0
  · subst h0
    rfl
  · rw [if_neg (by omega)]
    by_cases h1 : ((n : Int) == 1 || (tx a).length == 0) = true
    · rw [if_pos h1]
      rw [Bool.or_eq_true, beq_iff_eq, beq_iff_eq, tx_len] at h1
      rcases h1 with h1 | h1
      · have : n = 1 := by omega
        subst this
        rw [rep_succ, rep_zero, List.append_nil]
      · have : a = [] := List.length_eq_zero_iff.mp h1
        subst this
        have : rep [] n = [] := List.length_eq_zero_iff.mp (by rw [rep_len]; simp)
        rw [this]
    · rw [if_neg h1, Int.toNat_natCast]
      show (⟨_⟩ : Str) = ⟨_⟩
      congr 1
      have := foldl_app a n []
      rw [List.nil_append] at this
      exact this
theorem mulOk (a : List Nat) (n : Nat) (h : a.length * n ≤ 1000000) (h2 : n ≤ 1000000) : PySem.MulOk (tx a) (n : Int) := by
  refine ⟨?_, fun h1 _ => ?_, fun h1 _ => ?_⟩
  · rw [Bool.or_eq_false_iff, decide_eq_false_iff_not, decide_eq_false_iff_not]
    constructor <;> omega
  · rw [tx_len]
    have h3 : (a.length : Int) * n ≤ 1000000 := by
      have := Int.ofNat_le.mpr h
      rw [Int.natCast_mul] at this
      exact this
    intro z
    have h4 : (2 ^ 63 - 1 : Int) < n * ((2 ^ 63 - 1) / n + 1) := by
      have := Int.lt_mul_ediv_self_add (x := (2 ^ 63 - 1 : Int)) (k := (n : Int)) (by omega)
      rw [Int.mul_add, Int.mul_one]
      exact this
    have h5 : (n : Int) * ((2 ^ 63 - 1) / n + 1) ≤ n * a.length := Int.mul_le_mul_of_nonneg_left (by omega) (by omega)
    rw [Int.mul_comm] at h3
    omega
  · rw [tx_len, Int.toNat_natCast]
    show decide _ = false
    rw [decide_eq_false_iff_not]
    have : (sizeLine : Nat) = 16777216 := by decide
    omega
section
variable {X : Cx}
theorem op_mul_str : OpR X (binaryOp .Mult) (fun x y H Q => ∃ (a : List Nat) (n : Nat), x = .str (tx a) ∧ y = .int (n : Int) ∧ a.length * n ≤ 1000000 ∧ n ≤ 1000000 ∧ Q (.str (tx (rep a n))) H) := by
  intro pins s σ H x y v u Q I rx ry h
  obtain ⟨a, n, rfl, rfl, h1, h2, q⟩ := h
  obtain ⟨t, rfl⟩ := rx
  obtain ⟨t', rfl⟩ := ry
  refine PySem.SB.mul (mulOk a n h1 h2) (fun t' tk => ⟨.str (Txt.mul (tx a) n), H, I.tok _, ⟨_, rfl⟩, ?_⟩)
  rw [tx_mul]
  exact q
def CPowB (i j : Int) : Prop := 0 ≤ j ∧ (Builtin.Int.intBits i : Int) * j ≤ 2 ^ 27
theorem op_powB : OpR X (binaryOp .Pow) (rI CPowB fun i j => .int (i ^ j.toNat)) := opI fun _ _ _ _ _ _ _ hc q => PyProof.Rows.pow_int hc.1 hc.2 q
end
end WK
/-! An exception that a name keeps behind its try: the object is tracked from the end of the suite on. -/
namespace WX
open PySem PySem.Spec PyProof.Rows L2
/-- an exception of the class cls, its own dict at d, stands at a -/
def ExT (a : Addr) (cls : Value) (d : Option Addr) : HO := .ext fun h => ∃ oe, h.get? a = some oe ∧ Zc cls d oe ∧ ∃ vs, oe.data = .fields vs
theorem exT_ok {P : Program} {w : World} {H : Hp} {h : Heap} {a : Addr} {cls : Value} {d : Option Addr} {oe : Obj} (e : h.get? a = some oe) (z : Zc cls d oe) (f : ∃ vs, oe.data = .fields vs) : ObjOk P w H h a (ExT a cls d) :=
  ⟨⟨oe, e, z, f⟩, ⟨oe, e⟩, fun _ _ ⟨o, q, r⟩ k => ⟨o, k o q, r⟩⟩
section
variable {X : Cx} {pins : List (Addr × Obj)} {σ : L2.St} {H : Hp} {s : Shared}
/-- a pinned object that is new to the frame is tracked -/
theorem track {a : Addr} {oe : Obj} {o : HO} (I : Inv X ((a, oe) :: pins) σ H s) (h0 : X.s_0.heap.get? a = none) (hp : ∀ p ∈ X.pn ++ pins, p.1 ≠ a) (new : ObjOk X.prog X.w (upd H a o) s.heap a o) : Inv X pins σ (upd H a o) s := by
  have mem : (a, oe) ∈ X.pn ++ (a, oe) :: pins := List.mem_append_right _ List.mem_cons_self
  obtain ⟨g1, g2, g3, g4, g5⟩ := I.pin _ mem
  have n0 : ∀ b u, X.s_0.heap.get? b = some u → b ≠ a := fun b u e z => by
    rw [z, h0] at e
    cases e
  have nt : ∀ b u, H b = some u → b ≠ a := fun b u e z => by
    rw [z] at e
    exact absurd (e.symm.trans g2) (by intro y; cases y)
  refine ⟨I.ok, I.os, I.bare, ⟨I.base.keep, I.base.slot, fun b u e n x => ?_, I.base.there, fun b xs e => ?_, fun b u v e => ?_, fun b ps e => ?_⟩, I.loc, I.cell, ?_, fun x c e => ?_, fun p hm => ?_, fun b u e => ?_, I.len⟩
  · rw [upd_ne (n0 b u e)]
    exact I.base.free b u e n x
  · have q := I.base.tups b xs e
    rw [upd_ne (nt _ _ q)]
    exact q
  · have q := I.base.frzs b u v e
    rw [upd_ne (nt _ _ q)]
    exact q
  · obtain ⟨m, q⟩ := I.base.tbls b ps e
    exact ⟨m, by rw [upd_ne (nt _ _ q)]; exact q⟩
  · rw [upd_ne (Ne.symm g3)]
    exact I.free
  · obtain ⟨v, oc, e1, e2⟩ := I.cell x c e
    have ne : c ≠ a := fun z => by
      rw [z] at e1
      have := g1.symm.trans e1
      cases this
      exact g5 v e2
    rw [upd_ne ne]
    exact I.freeC x c e
  · have hm' : p ∈ X.pn ++ (a, oe) :: pins := by
      rcases List.mem_append.mp hm with h | h
      · exact List.mem_append_left _ h
      · exact List.mem_append_right _ (List.mem_cons_of_mem _ h)
    obtain ⟨k1, k2, k3⟩ := I.pin p hm'
    exact ⟨k1, by rw [upd_ne (hp p hm)]; exact k2, k3⟩
  · by_cases z : b = a
    · subst z
      rw [upd_same] at e
      cases e
      exact new
    · rw [upd_ne z] at e
      refine (I.hok b u e).stay (fun _ _ _ q => q) (fun c q => ?_) fun c xs q => ?_
      · rw [upd_ne (nt _ _ q)]
        exact q
      · rw [upd_ne (nt _ _ q)]
        exact q
end
/-- what 'except x as n: v = n' wishes: slot i is n's, slot j is v's -/
def wKeep (K : PySem.W.Frag) (c : Value) (i j : Nat) (D : Ends) : WX := fun cls d σ H =>
  PySem.W.exmOne K cls c = some true ∧ ∀ a, H a = none → D.nx (((σ.set i (some (.ref a))).set j (some (.ref a))).set i none) (upd H a (ExT a cls d))
section
variable {X : Cx} {x n v : Str} {c : Value} {i j : Nat} {body : List Stmt} {np vp mp sp pos pos' : Pos} {tb : WX → TS}
theorem ps_try_keep (hs : X.stack = X.env :: X.outer) (hex : X.ex = []) (hf : X.env.frame = some X.env.locals) (hN : X.N.Nodup) (hi : X.N[i]? = some n) (hj : X.N[j]? = some v) (hln : X.env.kindOf n = some .local) (hlv : Loc X.env.scope v) (hvf : X.fn v = true ∨ X.env.scope.names.lookup v = some .local) (hc : Names X x c)
    (hsw : swapsWith (.Name n mp) (some (.Name v vp)) sp.line X.env = pure false) (hvis : Vis X.env.scope n) (hdb : (n == ("__debug__" : Str)) = false) (hcd : (n == ("__classdict__" : Str)) = false)
    (hb : ∀ (W : WX) (pn : List (Addr × Obj)) (xe : Value → Shared → Prop), Takes (X.tr pn xe) W → PassesOwn (model X.prog X.w) X.A X.env xe → PSs (X.tr pn xe) body (tb W)) :
    PS X (.Try body [.ExceptHandler (some (.Name x np)) (some n) [.Assign [.Name v vp] (.Name n mp) sp] pos'] [] [] pos) (fun D σ H => tb (wKeep X.K c i j D) D σ H) := by
  constructor
  intro pins s σ H D I h
  have fr : X.A.frames = some (X.env :: X.outer) := by rw [I.ok.frames, hs]
  let hd : List ExceptHandler := [.ExceptHandler (some (.Name x np)) (some n) [.Assign [.Name v vp] (.Name n mp) sp] pos']
  let Z : Value → Shared → Prop := fun e s1 => wpAny (model X.prog X.w) X.A (noteFrame e X.env) (fun _ s2 => wpAny (model X.prog X.w) X.A (setFlight e none)
    (fun _ s3 => wpAny (model X.prog X.w) X.A (handleBy e X.env hd) (SP X pins D) X.xe s3) X.xe s2) X.xe s1
  have tk : Takes (X.tr (X.pn ++ pins) Z) (wKeep X.K c i j D) := by
    intro u s' xx
    obtain ⟨a, B, sI, ps, σ', H', cls, d, rfl, J', nb, up, sky, na, os, ag, em, hy⟩ := xx
    have J : Inv X pins σ' H' sI := J'.ofTry I.ok
    have sky2 : Sky B (X.env :: X.outer) a (Zc cls d) X.env.locals s'.heap := by
      rw [← hs]
      exact sky
    refine Sky.land Zc.steady fr hf sky2 fun g3 f3 u3 => ?_
    have K3 : Inv X pins σ' H' { s' with heap := g3 } := J.landed nb f3.1 (up.trans u3) os ag
    obtain ⟨o3, w3, e3, z3, d3⟩ := f3.there
    have na3 : a ∉ frs (X.env :: X.outer) := fun hm => by
      obtain ⟨_, o', e', nf⟩ := f3.2.2.1.mem hm
      rw [e3] at e'
      cases e'
      exact nf _ d3
    have nL : a ≠ X.env.locals := fun z => na3 (List.mem_filterMap.mpr ⟨X.env, List.mem_cons_self, by rw [hf, z]⟩)
    have nF : a ∉ X.fs := fun hm => by
      obtain ⟨e, he, q⟩ := List.mem_filterMap.mp hm
      exact na3 (List.mem_filterMap.mpr ⟨e, List.mem_cons_of_mem _ he, q⟩)
    have ban : B.get? a = none := f3.2.1
    have old : ∀ b o, sI.heap.get? b = some o → b ∉ frs X.stack → b ≠ a := fun b o e nf z => by
      have := nb b o e nf
      rw [z, ban] at this
      cases this
    have frx : frs X.stack = frs (X.env :: X.outer) := by rw [hs]
    have n0 : X.s_0.heap.get? a = none := by
      cases q : X.s_0.heap.get? a with
      | none => rfl
      | some o =>
        obtain ⟨o', e'⟩ := J.base.there a o q (by rw [hex]; intro z; cases z)
        exact absurd rfl (old a o' e' (by rw [frx]; exact na3))
    have pna : ∀ p ∈ X.pn ++ pins, p.1 ≠ a := fun p hp => by
      obtain ⟨q1, _, q3, q4, _⟩ := J.pin p hp
      refine old p.1 p.2 q1 fun hm => ?_
      rw [frx] at hm
      obtain ⟨e, he, q⟩ := List.mem_filterMap.mp hm
      rcases List.mem_cons.mp he with r | r
      · rw [r, hf] at q
        exact q3 (Option.some.inj q).symm
      · exact q4 (List.mem_filterMap.mpr ⟨e, r, q⟩)
    have S3 := K3.suite e3 d3 na nL nF
    refine wpAny_handleBy_cons (codeAny_handlers_test ?_) (by intro q; cases q)
    have ty : PySem.W.Looks (model X.prog X.w) g3 (typeOf (.ref a)) cls := by
      intro A' Q' E' s1 kk qq
      exact wpAny_typeOf_ref (kk _ _ e3) (by rw [z3.1]; exact qq)
    have mt := PySem.W.exm_one (M := model X.prog X.w) K3.kIn ty em
    have nm : ∀ {Q' : Value → Shared → Prop} {E' : Value → Shared → Prop}, Q' c { s' with heap := g3 } → wpAny (model X.prog X.w) (X.A.mark (some (.ref a))) (eval (.Name x np) X.env) Q' E' { s' with heap := g3 } := by
      intro Q' E' qq
      obtain ⟨r1, r2, r3 | ⟨r3, r4, r5⟩⟩ := hc
      · exact ld_glob (X := X.suite a ((a, o3) :: (X.pn ++ pins))) S3 r1 r3 qq r2
      · exact ld_blt (X := X.suite a ((a, o3) :: (X.pn ++ pins))) S3 r1 r3 r4 qq r5 r2
    refine nm (mt.here (codeAny_handlers_suite_as ?_))
    refine HandSPX.lands_againZ f3 fun g4 f4 u4 => ?_
    have K4 : Inv X pins σ' H' { s' with heap := g4 } := J.landed nb f4.1 ((up.trans u3).trans u4) os ag
    obtain ⟨o4, w4, e4, z4, d4⟩ := f4.there
    have S4 := K4.suite e4 d4 na nL nF
    refine store_ok (X := X.suite a ((a, o4) :: (X.pn ++ pins))) (v := .ref a) S4 hN hi (.inl hln) rfl (fun s5 S5 => ?_) (.inr hln)
    have asg : PSs (X.suite a ((a, o4) :: (X.pn ++ pins))) [.Assign [.Name v vp] (.Name n mp) sp] (tAsg (tVar i) (gName j)) :=
      pss_one (ps_set hN hj hlv (pe_var hi hvis hdb hcd) hsw hvf)
    have hlen : i < σ'.length := by
      rw [J.len]
      exact (List.getElem?_eq_some_iff.mp hi).1
    let D2 : Ends := { nx := fun σ6 H6 => σ6 = (σ'.set i (some (.ref a))).set j (some (.ref a)) ∧ H6 = H', rt := fun _ _ => False }
    refine wpAny_mono (asg.run [] s5 _ H' D2 S5 ⟨.ref a, List.getElem?_set_self hlen, rfl, rfl⟩) (fun f6 s6 q6 => ?_) (fun _ _ z => z.elim)
    cases f6 with
    | next =>
      obtain ⟨σ6, H6, S6, rfl, rfl⟩ := q6
      obtain ⟨b1, b2, b3, b4, b5, b6, b7, b8, b9, b10, b11⟩ := S6
      have S7 : Inv X ((a, o4) :: pins) ((σ'.set i (some (.ref a))).set j (some (.ref a))) H6 s6 := by
        refine ⟨I.ok, b2, b3, b4, b5, b6, b7, b8, fun p hp => b9 p (List.mem_append_left _ ?_), b10, b11⟩
        rcases List.mem_append.mp hp with r | r
        · exact List.mem_cons_of_mem _ (List.mem_append_left _ r)
        · rcases List.mem_cons.mp r with r | r
          · rw [r]
            exact List.mem_cons_self
          · exact List.mem_cons_of_mem _ (List.mem_append_right _ r)
      refine gone_ok S7 hN hi hln fun s8 S8 => ?_
      have at8 : s8.heap.get? a = some o4 := (S8.pin (a, o4) (List.mem_append_right _ List.mem_cons_self)).1
      exact ⟨_, _, track S8 n0 pna (exT_ok at8 z4 ⟨_, d4⟩), hy a na⟩
    | brk =>
      obtain ⟨_, _, _, z⟩ := q6
      exact z.elim
    | cont =>
      obtain ⟨_, _, _, z⟩ := q6
      exact z.elim
    | ret u =>
      obtain ⟨_, _, _, _, _, z⟩ := q6
      exact z.elim
  refine wpAny_Try_except (wpAny_mono ((hb _ (X.pn ++ pins) Z tk PassesOwn.looking).run [] s σ H D (I.toTry _) h) (fun f s1 q => ?_) fun _ _ z => z)
  cases f with
  | next =>
    obtain ⟨σ1, H1, J1, q1⟩ := q
    exact wpAny_execs_nil ⟨σ1, H1, J1.ofTry I.ok, q1⟩
  | brk =>
    obtain ⟨σ1, H1, J1, q1⟩ := q
    exact ⟨σ1, H1, J1.ofTry I.ok, q1⟩
  | cont =>
    obtain ⟨σ1, H1, J1, q1⟩ := q
    exact ⟨σ1, H1, J1.ofTry I.ok, q1⟩
  | ret u =>
    obtain ⟨v1, σ1, H1, J1, r1, q1⟩ := q
    exact ⟨v1, σ1, H1, J1.ofTry I.ok, r1, q1⟩
end
/-- what the class says, so that isinstance asks its instances rightly -/
structure ExK (K : PySem.W.Frag) (D : Addr) : Prop where
  hg : PySem.W.findIn K (.ref D) "__getattribute__" = some (some (.builtin "BaseException.__getattribute__"))
  hk : PySem.W.findIn K (.ref D) "__getattr__" = some none
  hs : PySem.W.subIn K (.ref D) (.type "BaseException") = some true
  hd : PySem.W.hasDictIn K D = true
  ha : PySem.W.findIn K (.ref D) "__class__" = some (some (.builtin "object.__class__"))
  hn : PySem.W.specialIn K (.builtin "object.__class__") "__get__" = some (some (.builtin "getset_descriptor.__get__"))
  ht : PySem.W.takesIn K (.builtin "object.__class__") = some true
  hm : PySem.W.mroIn K D (.type "object") = some true
/-- the error's own dict: none, or there -/
def ExD (H : Hp) (d : Option Addr) : Prop := d = none ∨ ∃ dd fs, d = some dd ∧ H dd = some (.xd fs)
section
variable {X : Cx}
theorem inst_of {pins : List (Addr × Obj)} {σ : L2.St} {H : Hp} {s : Shared} {a D : Addr} {d : Option Addr} (I : Inv X pins σ H s) (h : H a = some (ExT a (.ref D) d)) (hd : ExD H d) : ∃ ox od, PySem.W.InstAt s.heap a ox D od := by
  obtain ⟨⟨oe, e, z, vs, f⟩, _, _⟩ := I.hok a _ h
  have nc : PySem.W.notCls oe = true := by
    unfold PySem.W.notCls
    rw [f] <;> rfl
  rcases hd with rfl | ⟨dd, fs, rfl, hx⟩
  · refine ⟨oe, none, e, z.1, nc, ?_⟩
    rw [z.2]
    trivial
  · have hx : ObjOk X.prog X.w H s.heap dd (.xd fs) := I.hok dd _ hx
    obtain ⟨mA, hns, _⟩ := hx
    obtain ⟨od, ho, _⟩ := lookIn_ns hns
    exact ⟨oe, some od, e, z.1, nc, by rw [z.2]; exact ho⟩
def rIsX (K : PySem.W.Frag) : List V → Hp → VK → Prop := fun xs H Q => ∃ (a D : Addr) (d : Option Addr) (c : V) (cv : Value) (b : Bool), xs = [.ref a, c] ∧ H a = some (ExT a (.ref D) d) ∧ ExD H d ∧ ExK K D ∧ ClsV c cv ∧ PySem.W.kitOne K (.ref D) cv = some b ∧ Q (.bl b) H
theorem call_isX : CallR X (.builtin "isinstance") (rIsX X.K) := by
  intro pins s σ H xs us Q I r h
  obtain ⟨a, D, d, c, cv, b, rfl, h1, h2, T, hc, e, q⟩ := h
  cases r with
  | cons rx rr =>
    cases rr with
    | cons rt rr =>
      cases rr
      cases rx
      have ec := hc.eq rt
      subst ec
      obtain ⟨ox, od, J⟩ := inst_of I h1 h2
      obtain ⟨cd, hcd, _⟩ := PySem.W.any_some T.hd
      have kit := PySem.W.kitx_exc (x := a) (ox := ox) (od := od) (by rw [hcd]; rfl) T.hg T.hk T.hs T.ha T.hn T.ht T.hm
      exact PySem.W.kia_one kit I.kIn J e (fun z => nomatch z) fun tk => ⟨.bl b, H, I.tok tk, rfl, q⟩
def tXa (K : PySem.W.Frag) (f : Str) (te : TE) : TE := fun σ H Q => te σ H fun x H1 => ∃ (a C dd : Addr) (fs : List (Str × V)) (v : V), x = .ref a ∧ H1 a = some (ExT a (.ref C) (some dd)) ∧ H1 dd = some (.xd fs) ∧ fs.lookup f = some v ∧
  ExK K C ∧ PySem.W.findIn K (.ref C) f = some none ∧ Q v H1
theorem pe_xa {e : Expr} {te : TE} {n : Str} {pos : Pos} (he : PE X e te) (hb : attributeBase e n X.env (eval e X.env) = eval e X.env := by rfl) : PE X (.Attribute e n pos) (tXa X.K n te) := by
  constructor
  intro pins s σ H Q I h
  refine attr_of hb (thn (he.run pins s σ H _ I h) fun u s1 hh => ?_)
  obtain ⟨x, H1, I1, rx, a, C, dd, fs, v, rfl, ha, hx, hl, T, hno, q⟩ := hh
  cases rx
  obtain ⟨⟨oe, e1, z, vs, f⟩, _, _⟩ := I1.hok a _ ha
  have hx2 : ObjOk X.prog X.w H1 s1.heap dd (.xd fs) := I1.hok dd _ hx
  obtain ⟨mA, hns, hr⟩ := hx2
  obtain ⟨od, ho, hlk⟩ := lookIn_ns hns
  obtain ⟨u, hu, ru⟩ := RelO.some_of (v := v) (o := mA n) (by rw [← hl]; exact hr n)
  have J : PySem.W.InstAt s1.heap a oe C (some od) := ⟨e1, z.1, (by unfold PySem.W.notCls; rw [f] <;> rfl), by rw [z.2]; exact ho⟩
  have found := PySem.W.findObj_own (od := od) T.hd hno rfl ((hlk n).trans (by rw [hu]))
  exact HandSPX.exc_get I1.kIn J T.hg T.hk T.hs found (handed_of ru) ⟨v, H1, I1.tok _, ru, q⟩
end
end WX
/-! zip of a list and a text, walked. -/
namespace WX
open PySem PySem.Spec PyProof.Rows L2
theorem nn (N : Nat) {i j : Nat} (h : i ≠ j) : N + i ≠ N + j := by omega
theorem n0 (N : Nat) {j : Nat} (h : 0 ≠ j) : N ≠ N + j := by omega
theorem n1 (N : Nat) {j : Nat} (h : j ≠ 0) : N + j ≠ N := by omega
local macro_rules | `(tactic| trivial) => `(tactic| first | exact nn _ (by decide) | exact n0 _ (by decide) | exact n1 _ (by decide))
/-- the list at a as it stands at each turn, the signs of the text, in new pairs -/
def Itzs (K : PySem.W.Frag) (a : Addr) (y : Str) : It :=
  ⟨fun i H => ∃ xs, SqL K H a xs ∧ i < xs.length ∧ i < y.cps.size,
    fun i H v H' => ∃ T x c, v = .ref T ∧ H T = none ∧ H' = upd H T (.tup [x, .str ⟨#[c]⟩]) ∧ (∀ xs, SqL K H a xs → xs[i]? = some x) ∧ y.cps[i]? = some c,
    fun i H => ∃ xs, SqL K H a xs ∧ i ≤ xs.length ∧ i ≤ y.cps.size ∧ (i = xs.length ∨ i = y.cps.size)⟩
def StZ (N a : Addr) (y : Str) (t : Tok) (i : Nat) (h : Heap) : Prop :=
  IsZip h (N + 4) (N + 2) (N + 3) .none ∧ IsTupOf2 h (N + 2) (.ref N) (.ref (N + 1)) ∧ (∃ u v, IsTupOf2 h (N + 3) u v) ∧ h.IsListIter N a i ∧ h.IsStrIter (N + 1) (strIterType y) y t i
theorem five {N c : Addr} (h : c ∈ [N + 4, N + 2, N + 3, N, N + 1]) : c = N + 4 ∨ c = N + 2 ∨ c = N + 3 ∨ c = N ∨ c = N + 1 := by simpa using h
theorem turn_zs {P : Program} {w : World} {K : PySem.W.Frag} {elts : List Expr} {kk : Nat} {tpos : Pos} {N a : Addr} {y : Str} {t : Tok} (la : a < N) :
    Turn P w K (.Tuple elts kk tpos) (Itzs K a y) [N + 4, N + 2, N + 3, N, N + 1] (N + 4) (StZ N a y t) where
  mem := by simp
  obj := fun i h st c hc => by
    obtain ⟨g1, g2, ⟨u, v, g3⟩, ⟨o1, e1, _, d1⟩, ⟨o2, e2, _, d2⟩⟩ := st
    rcases five hc with r | r | r | r | r
    · rw [r]; exact ⟨_, g1, fun _ q => nomatch q⟩
    · rw [r]; exact ⟨_, g2, fun _ q => nomatch q⟩
    · rw [r]; exact ⟨_, g3, fun _ q => nomatch q⟩
    · rw [r]; exact ⟨o1, e1, fun _ q => by rw [d1] at q; cases q⟩
    · rw [r]; exact ⟨o2, e2, fun _ q => by rw [d2] at q; cases q⟩
  keep := fun i h h' st k => by
    obtain ⟨g1, g2, ⟨u, v, g3⟩, g4, ⟨o2, e2, r2⟩⟩ := st
    exact ⟨k _ (by simp) _ g1, k _ (by simp) _ g2, ⟨u, v, k _ (by simp) _ g3⟩, g4.at fun o q => k _ (by simp) o q, ⟨o2, k _ (by simp) _ e2, r2⟩⟩
  item := by
    intro X hP hw hK hc i pins s σ H E I hf st hg
    subst hP hw hK
    obtain ⟨g1, g2, ⟨u, v, g3⟩, g4, g5⟩ := st
    obtain ⟨xs, hq, k1, k2⟩ := hg
    obtain ⟨its, rv, p, _⟩ := I.list hq
    have hh : X.A.in1.handled = none := I.ok.hd hc
    have ls := rv.length
    have S : ZipSep2 (N + 4) (N + 2) (N + 3) N (N + 1) (N :: [a]) ((N + 1) :: []) := zip_sep2 (fun b hb => by rw [List.mem_singleton.mp hb]; exact la) (fun b hb => nomatch hb)
    have D1 := Draws.list (prog := X.prog) (w := X.w) hh N a (Nat.ne_of_lt la) its.toArray
    have D2 := Draws.text (prog := X.prog) (w := X.w) hh (N + 1) y t
    have zl : N + 4 < s.heap.objs.size := Heap.lt_size g1
    refine wpAny_pyNext_zipD2_item S D1 D2 g1 g2 g3 ⟨g4, p.isList⟩ g5 (by rw [List.size_toArray]; omega) k2 fun x1 x2 h' tk p1 p2 z1 z2 z3 z4 z5 z6 z7 => ?_
    obtain ⟨c, tc, ec, rfl⟩ := p2
    have hx : its[i]? = some x1 := by simpa using p1
    have hxi : i < xs.length := k1
    obtain ⟨u1, hu1, ru⟩ := rv.get (List.getElem?_eq_getElem hxi)
    have eu : u1 = x1 := Option.some.inj (hu1.symm.trans hx)
    subst eu
    refine ⟨_, rfl, wpAny_letOwnedTupleGo_zip (s := { s with heap := h', toks := tk }) z1 fun h'' y1 sb => ?_⟩
    have hT2 : h''.get? s.heap.objs.size = some { cls := .type "tuple", data := .seq #[u1, .str ⟨#[c]⟩ tc] } := (sb.2 _ (Nat.ne_of_gt zl)).trans z5
    have new : ObjOk X.prog X.w (upd H s.heap.objs.size (.tup [xs[i], .str ⟨#[c]⟩])) h'' s.heap.objs.size (.tup [xs[i], .str ⟨#[c]⟩]) :=
      ⟨by show 2 ≤ sizeLine; decide, [u1, .str ⟨#[c]⟩ tc], .cons ru (.cons ⟨tc, rfl⟩ .nil), ⟨_, hT2, rfl, _, rfl⟩⟩
    have far : ∀ b o, b ∉ [N + 4, N + 2, N + 3, N, N + 1] → s.heap.get? b = some o → h''.get? b = some o := fun b o hb q => by
      have m1 : b ≠ N + 4 := fun r => hb (by rw [r]; simp)
      have m3 : b ≠ N + 3 := fun r => hb (by rw [r]; simp)
      have m4 : b ≠ N := fun r => hb (by rw [r]; simp)
      have m5 : b ≠ N + 1 := fun r => hb (by rw [r]; simp)
      exact (sb.2 b m1).trans (z7 b o m1 m3 m4 m5 q)
    have I1 : Inv X pins σ (upd H s.heap.objs.size (.tup [xs[i], .str ⟨#[c]⟩])) { s with heap := h'', toks := tk } := I.turnedNew (t' := tk) far hf (Nat.le_refl _) new
    refine ⟨.ref s.heap.objs.size, _, I1, rfl, ⟨_, xs[i], c, rfl, I.hok.fresh (Nat.le_refl _), rfl, fun l hl => by rw [I.list_inj hl hq]; exact List.getElem?_eq_getElem hxi, ec⟩, ⟨y1, ?_, ⟨_, _, (sb.2 _ (by trivial)).trans z2⟩, ?_, ?_⟩, fun b hb => ?_⟩
    · exact (sb.2 _ (by trivial)).trans (z7 _ _ (by trivial) (by trivial) (by trivial) (by trivial) g2)
    · exact z3.1.at fun o q => (sb.2 _ (by trivial)).trans q
    · obtain ⟨o2, q2, r2⟩ := z4
      exact ⟨o2, (sb.2 _ (by trivial)).trans q2, r2⟩
    · have bl : b < s.heap.objs.size := by
        rcases five hb with r | r | r | r | r
        · rw [r]; exact zl
        · rw [r]; exact Heap.lt_size g2
        · rw [r]; exact Heap.lt_size g3
        · rw [r]; obtain ⟨_, e1, _⟩ := g4; exact Heap.lt_size e1
        · rw [r]; obtain ⟨_, e1, _⟩ := g5; exact Heap.lt_size e1
      rw [upd_ne (Nat.ne_of_lt bl)]
      exact (hf b hb).1
  done := by
    intro X hP hw hK hc i pins s σ H E I hf st hg
    subst hP hw hK
    obtain ⟨g1, g2, ⟨u, v, g3⟩, g4, g5⟩ := st
    obtain ⟨xs, hq, k1, k2, k3⟩ := hg
    obtain ⟨its, rv, p, _⟩ := I.list hq
    have hh : X.A.in1.handled = none := I.ok.hd hc
    have ls := rv.length
    have S : ZipSep2 (N + 4) (N + 2) (N + 3) N (N + 1) (N :: [a]) ((N + 1) :: []) := zip_sep2 (fun b hb => by rw [List.mem_singleton.mp hb]; exact la) (fun b hb => nomatch hb)
    have D1 := Draws.list (prog := X.prog) (w := X.w) hh N a (Nat.ne_of_lt la) its.toArray
    have D2 := Draws.text (prog := X.prog) (w := X.w) hh (N + 1) y t
    refine wpAny_pyNext_zipD2_end S D1 D2 g1 g2 g3 ⟨g4, p.isList⟩ g5 (by rw [List.size_toArray]; omega) k2 (by rw [List.size_toArray]; omega) fun h' tk z7 => ⟨rfl, I.turnedL (t' := tk) (ch := [N + 4, N + 2, N + 3, N, N + 1]) (fun b o hb q => ?_) hf⟩
    exact z7 b o (fun r => hb (by rw [r]; simp)) (fun r => hb (by rw [r]; simp)) (fun r => hb (by rw [r]; simp)) (fun r => hb (by rw [r]; simp)) q
  self := fun A i s Q E st h => wpAny_pyIter_zip st.1 h
def iZipS (K : PySem.W.Frag) (ta : TA) : TI := fun σ H R => ta σ H fun vs H1 => ∃ a xs y, vs = [.ref a, .str y] ∧ SqL K H1 a xs ∧ R (Itzs K a y) H1
theorem pi_zips {X : Cx} {e e2 : Expr} {ta : TA} {p pos tpos : Pos} {elts : List Expr} {kk : Nat} (hg : Gl X "zip") (hm : X.mg "zip" = none) (ha : PA X [e, e2] ta)
    (hs : starEach [e, e2] X.env = (false, eval e X.env) :: starEach [e2] X.env := by rfl) (hpl : (backTo pos (starEach [e2] X.env)).any (·.1) = false := by rfl) :
    PI X (.Tuple elts kk tpos) (.Call (.Name "zip" p) [e, e2] [] pos) (iZipS X.K ta) := by
  constructor
  intro pins s σ H R I h
  refine Call_ (ld_blt I hg hm boot_zip (callWith_type1 (thn (ha.run pos pins s σ H _ I h) fun us s1 h1 => ?_) hs hpl))
  obtain ⟨vs, H1, I1, r1, a, xs, y, rfl, hq, q⟩ := h1
  cases r1 with
  | cons r r2 =>
    cases r2 with
    | cons r' r3 =>
      cases r3
      cases r
      obtain ⟨t, rfl⟩ := r'
      obtain ⟨its, rv, pl, _⟩ := I1.list hq
      have la : a < s1.heap.objs.size := pl.lt
      refine zip_begins2 (begins_list a its.toArray) (begins_text y t) pl.isList trivial fun h' z1 z2 z3 z4 z5 z6 z7 => wpAny_pyIter_zip z1 ?_
      have I2 : Inv X pins σ H1 { s1 with heap := h' } := I1.kept (t' := s1.toks) z7
      refine ⟨s1.heap.objs.size + 4, [s1.heap.objs.size + 4, s1.heap.objs.size + 2, s1.heap.objs.size + 3, s1.heap.objs.size, s1.heap.objs.size + 1], _, _, H1, rfl, I2, turn_zs (t := t) la, ⟨z1, z2, ⟨_, _, z3⟩, ⟨_, z4, rfl, rfl⟩, ⟨_, z5, rfl, rfl⟩⟩, fun c hc => ?_, q⟩
      have cl : s1.heap.objs.size ≤ c := by
        rcases five hc with r | r | r | r | r
        · rw [r]; exact Nat.le_add_right _ _
        · rw [r]; exact Nat.le_add_right _ _
        · rw [r]; exact Nat.le_add_right _ _
        · rw [r]; exact Nat.le_refl _
        · rw [r]; exact Nat.le_add_right _ _
      exact I1.fpOk cl (I1.hok.fresh cl)
/-- its turns: a new pair of the i-th item and the i-th sign -/
def YZs (xs : List V) (y : List Nat) : Nat → Hp → V → Hp → Prop := fun i H v H' => ∃ T x c, v = .ref T ∧ H T = none ∧ H' = upd H T (.tup [x, .str ⟨#[c]⟩]) ∧ xs[i]? = some x ∧ y[i]? = some c
theorem walk_zs {K : PySem.W.Frag} {a : Addr} {xs : List V} {y : Str} {n : Nat} (hn : n = min xs.length y.cps.size) : Walk (Itzs K a y) n (fun H => SqL K H a xs) (YZs xs y.cps.toList) where
  goes := fun i H hi g => ⟨xs, g, by omega, by omega⟩
  stops := fun H g => ⟨xs, g, by omega, by omega, by omega⟩
  yields := fun i H x H' hi g h => by
    obtain ⟨T, x1, c, e1, e2, e3, e4, e5⟩ := h
    exact ⟨T, x1, c, e1, e2, e3, e4 xs g, by simpa using e5⟩
end WX
/-! The greatest of a pair; calls with a keyword, or with what is left out, that may raise within a try. -/
namespace WX
open PySem PySem.Spec PyProof.Rows L2
def rMaxT (K : PySem.W.Frag) : List V → Hp → VK → Prop := fun vs H Q => ∃ (a : Addr) (i j : Int), vs = [.ref a] ∧ SqT K H a [.int i, .int j] ∧ ∀ m, (m = i ∨ m = j) → i ≤ m → j ≤ m → Q (.int m) H
theorem cr_maxT {X : Cx} (hc : X.calm = true) : CallR X (.builtin "max") (rMaxT X.K) := by
  intro pins s σ H vs us Q I r h
  obtain ⟨a, i, j, rfl, hs, q⟩ := h
  obtain ⟨its, rv, pl, _⟩ := Inv.tuple I hs
  rw [Vals.ref1 r]
  obtain ⟨u, w', rfl, ⟨t1, rfl⟩, ⟨t2, rfl⟩⟩ := vals2 rv
  have hh : X.A.in1.handled = none := I.ok.hd hc
  have tp : s.heap.IsTuple a #[Value.int i t1, Value.int j t2] := pl
  have la : a < s.heap.objs.size := by
    obtain ⟨o, e, _⟩ := tp
    exact Heap.lt_size e
  refine call_max_walk (wpAny_pyIter_tuple tp ?_)
  refine ⟨s.heap.objs.size, [s.heap.objs.size, a], [s.heap.objs.size], 2, (fun k v => (#[Value.int i t1, Value.int j t2] : Array Value)[k]? = some v), _, fun p q => decide ((fun n => if n = 0 then i else j) p > (fun n => if n = 0 then i else j) q), rfl, PySem.Walks.tuple hh s.heap.objs.size a (Nat.ne_of_lt la) #[Value.int i t1, Value.int j t2], ⟨⟨_, Heap.get?_push_size _ rfl, rfl, rfl⟩, ?_⟩, ?_, by decide, ?_, ?_⟩
  · obtain ⟨o, e, e2⟩ := tp
    exact ⟨o, (Heap.get?_push_ne s.heap _ _ (Nat.ne_of_lt la)).trans e, e2⟩
  · intro b hb
    rw [Heap.size_push]
    rcases List.mem_cons.mp hb with r | r
    · rw [r]; exact Nat.lt_succ_self _
    · rw [List.mem_singleton.mp r]; exact Nat.lt_succ_of_lt la
  · refine PySem.CmpOf.ints_gt (fun n => if n = 0 then i else j) fun k v hk => ?_
    match k, hk with
    | 0, hk => exact ⟨t1, (Option.some.inj hk).symm⟩
    | 1, hk => exact ⟨t2, (Option.some.inj hk).symm⟩
    | k + 2, hk => simp at hk
  · intro v h' tk hv hk
    obtain ⟨b1, b2⟩ := argBest_gt (fun n => if n = 0 then i else j) 1
    have hv : (#[Value.int i t1, Value.int j t2] : Array Value)[argBest (fun p q => decide ((fun n => if n = 0 then i else j) p > (fun n => if n = 0 then i else j) q)) 1]? = some v := hv
    have keep : ∀ (b : Addr) (o : Obj), s.heap.get? b = some o → h'.get? b = some o := fun b o e => hk b o (fun z => by
      rw [List.mem_singleton.mp z] at e
      exact absurd (Heap.lt_size e) (Nat.lt_irrefl _)) ((Heap.get?_push_ne s.heap _ _ (Nat.ne_of_lt (Heap.lt_size e))).trans e)
    have g0 := b2 0 (by decide)
    have g1 := b2 1 (by decide)
    generalize argBest (fun p q => decide ((fun n => if n = 0 then i else j) p > (fun n => if n = 0 then i else j) q)) 1 = m at *
    match m, b1, hv, g0, g1 with
    | 0, _, hv, g0, g1 => exact ⟨.int i, H, I.kept (t' := tk) keep, ⟨t1, (Option.some.inj hv).symm⟩, q i (.inl rfl) g0 g1⟩
    | 1, _, hv, g0, g1 => exact ⟨.int j, H, I.kept (t' := tk) keep, ⟨t2, (Option.some.inj hv).symm⟩, q j (.inr rfl) g0 g1⟩
/-! ### calls within a try -/
theorem run_fnX {X : Cx} {CX : CXT} {k : Nat} {f : Addr} {fd : FuncData} {ps : List Str} {sp : Sp} {E : XK} {pins : List (Addr × Obj)} {σ : L2.St} {H : Hp} {s : Shared} {Q : VK} {us : List Value} {kw : List (Str × Value)} {bs : List Value} {vs : List V}
    (F : FnOk X.prog X.w X.K X.mg X.base CX k f fd ps sp) (hr : Room k X.A) (b : BindsTo s fd ⟨us, kw⟩ (ps.zip bs)) (hx : PassesAt CX X σ E) (I : Inv X pins σ H s) (r : Vals vs bs) (h : sp vs H Q E) :
    wpAny (model X.prog X.w) X.A (call (.ref f) us kw) (EP X pins σ Q) X.xe s := by
  refine wpAny_call (codeAny_mono (F.run X.A X.stack s H ⟨us, kw⟩ bs vs Q E hr (Inv.env0 I) b r h) fun r s' hq => ?_)
  cases r with
  | error e => exact hx pins H s e s' I hq
  | ok fl =>
    cases fl with
    | ret u => exact Inv.after I hq
    | next => exact hq.elim
    | brk => exact hq.elim
    | cont => exact hq.elim
/-- what is left out told by dvs -/
def tCallD (sp : Sp) (dvs : List V) (E : L2.St → XK) (t : TA) : TE := fun σ H Q => t σ H fun vs H1 => sp (vs ++ dvs) H1 Q (E σ)
theorem pe_callD {X : Cx} {CX : CXT} {k : Nat} {f : Addr} {fd : FuncData} {ps : List Str} {sp : Sp} {dvs : List V} {ds : List Value} {E : L2.St → XK} {x : Str} {p pos : Pos} {e : Expr} {es : List Expr} {t : TA}
    (F : FnOk X.prog X.w X.K X.mg X.base CX k f fd ps sp) (hr : Room k X.A) (hg : Gl X x) (hm : X.mg x = some (.ref f)) (hk : PySem.W.keepIn X.K (.ref f) = true) (hb : L2.Binds X.K fd ps ds) (hd : Vals dvs ds) (hx : ∀ σ, PassesAt CX X σ (E σ)) (ha : PA X (e :: es) t)
    (hdb : (x == Str.ofString "__debug__") = false := by rfl) (he : starEach (e :: es) X.env = (false, eval e X.env) :: starEach es X.env := by rfl) (hpl : ((backTo pos (starEach es X.env)).any fun x => x.fst) = false := by rfl) :
    PE X (.Call (.Name x p) (e :: es) [] pos) (tCallD sp dvs E t) := by
  constructor
  intro pins s σ H Q I h
  refine wpAny_Call_Name_kw (ld_glob I hg hm (PySem.W.callWith_K I.ok.mod.kin hk (thn (ha.run pos pins s σ H _ I h) fun us s1 h1 => ?_) he hpl) hdb)
  obtain ⟨vs, H1, I1, r, q⟩ := h1
  have r2 := Vals.append r hd
  refine ⟨Inv.kIn I1, run_fnX F hr (hb s1 us (Inv.kIn I1) ?_) (hx σ) I1 r2 q⟩
  rw [← r2.length]
  exact F.len _ _ _ _ q
def tCallK (n m : Nat) (sp : Sp) (gV : List V → List V → List V) (E : L2.St → XK) (t tk : TA) : TE := fun σ H Q => t σ H fun vs H1 => tk σ H1 fun zs H2 => vs.length = n ∧ zs.length = m ∧ sp (gV vs zs) H2 Q (E σ)
theorem pe_callK {X : Cx} {CX : CXT} {k n : Nat} {f : Addr} {fd : FuncData} {ps ks : List Str} {sp : Sp} {E : L2.St → XK} {x : Str} {p pos : Pos} {e : Expr} {es : List Expr} {kws : List Keyword} {t tk : TA} {g : List Value → List Value → List Value} {gV : List V → List V → List V}
    (F : FnOk X.prog X.w X.K X.mg X.base CX k f fd ps sp) (hr : Room k X.A) (hg : Gl X x) (hm : X.mg x = some (.ref f)) (hk : PySem.W.keepIn X.K (.ref f) = true) (hb : KBn X.K fd ps n ks g gV) (hx : ∀ σ, PassesAt CX X σ (E σ)) (ha : PA X (e :: es) t) (hkw : PK X kws tk)
    (hall : ((backToKw pos (keywordEach kws X.env)).all fun x => x.fst.isSome) = true := by rfl) (hks : List.filterMap (fun x => x.fst) (backToKw pos (keywordEach kws X.env)) = ks := by rfl) (hdb : (x == Str.ofString "__debug__") = false := by rfl)
    (he : starEach (e :: es) X.env = (false, eval e X.env) :: starEach es X.env := by rfl) (hpl : (((backTo pos (starEach (e :: es) X.env)).any fun x => x.fst) || (backToKw pos (keywordEach kws X.env)).any fun x => x.fst.isNone) = false := by rfl) :
    PE X (.Call (.Name x p) (e :: es) kws pos) (tCallK n ks.length sp gV E t tk) := by
  constructor
  intro pins s σ H Q I h
  refine wpAny_Call_Name_kw (ld_glob I hg hm (PySem.W.callWith_KW I.ok.mod.kin hk hall (thn (ha.run pos pins s σ H _ I h) fun us s1 h1 => ?_) hpl he) hdb)
  obtain ⟨vs, H1, I1, r, q⟩ := h1
  refine thn (hkw.run pos pins s1 σ H1 _ I1 q) fun ws s2 h2 => ?_
  obtain ⟨zs, H2, I2, rz, l1, l2, q2⟩ := h2
  refine ⟨Inv.kIn I2, ?_⟩
  rw [hks]
  exact run_fnX F hr (hb.to s2 us ws (Inv.kIn I2) (r.length.symm.trans l1) (rz.length.symm.trans l2)) (hx σ) I2 (hb.rel r rz) q2
end WX
/-! A text translated by a displayed table of two signs. -/
namespace WX
open PySem PySem.Spec PyProof.Rows L2 WK
def flip1 (c : Nat) : Nat := if c = 48 then 49 else 48
section
variable {prog : Program} {w : World} {K : Type} [DecidableEq K] {knd : PySem.KeyKind prog w K}
theorem tl_text {A : Around} {E : Value → Shared → Prop} {s : Shared} {d : Addr} {c : Nat} {key : K} {f : K → Option Value} {y : Str} {t : Tok} {Q : Builtin.Str.Mapped → Shared → Prop}
    (hk : ∀ t, knd.is key (.int (c : Int) t) = true) (hm : Heap.MapOf knd s.heap d f) (hf : f key = some (.str y t)) (h : ∀ k, Q (.text y) { s with toks := k }) : wpAny (model prog w) A (Builtin.Str.tableLookup (.ref d) c) Q E s := by
  unfold Builtin.Str.tableLookup
  refine wpAny_bind (wpAny_attempt (wpAny_bind (wpAny_mkInt (wpAny_getItem_of (hk _) hm hf ?_))))
  show wpAny (model prog w) A (asInt? (.str y t) >>= _) Q E _
  refine wpAny_bind (wpAny_of_eq rfl ?_)
  show wpAny (model prog w) A (asStr? (.str y t) >>= _) Q E _
  refine wpAny_bind (wpAny_of_eq rfl ?_)
  exact wpAny_pure (h _)
def TrY (x : List Nat) (s : Shared) (rest : List Nat) (st : List Str × Nat × Bool × List (Nat × Option Nat) × Bool) (s' : Shared) : Prop :=
  ∃ (past : List Nat) (pieces : List Str) (known : List (Nat × Option Nat)) (k : Nat), x = past ++ rest ∧ st = (pieces, past.length, true, known, false) ∧ pieces.reverse = past.map (fun c => (⟨#[flip1 c]⟩ : Str)) ∧
    (∀ c a, List.lookup c known = some a → a = some (flip1 c)) ∧ s' = { s with toks := k }
theorem TrY.next {x : List Nat} {s : Shared} {rest past : List Nat} {c : Nat} {pieces : List Str} {known : List (Nat × Option Nat)} {k : Nat} (e1 : x = past ++ c :: rest) (e3 : pieces.reverse = past.map (fun c => (⟨#[flip1 c]⟩ : Str))) (e4 : ∀ c a, List.lookup c known = some a → a = some (flip1 c)) :
    TrY x s rest (⟨#[flip1 c]⟩ :: pieces, past.length + 1, true, known, false) { s with toks := k } :=
  ⟨past ++ [c], _, known, k, by rw [e1, List.append_assoc]; rfl, by rw [List.length_append]; rfl, by rw [List.reverse_cons, e3, List.map_append]; rfl, e4, rfl⟩
theorem pieces_flip : ∀ (l : List Nat) (acc : Array Nat), (l.map (fun c => (⟨#[flip1 c]⟩ : Str))).foldl (fun acc p => acc ++ p.cps) acc = acc ++ (l.map flip1).toArray
  | [], acc => by simp
  | c :: l, acc => by
    rw [List.map_cons, List.foldl_cons, pieces_flip l, List.map_cons]
    simp
theorem meets_flip (x : List Nat) (t : Tok) (d : Addr) (hx : ∀ c ∈ x, c = 48 ∨ c = 49) (hz : x.length ≤ 16000000) (k0 k1 : K) (hk0 : ∀ t, knd.is k0 (.int ((48 : Nat) : Int) t) = true) (hk1 : ∀ t, knd.is k1 (.int ((49 : Nat) : Int) t) = true) :
    MeetsIn prog w (Builtin.«str.translate» { pos := [.str (tx x) t, .ref d] }) fun A R s =>
      (∃ f t1 t2, Heap.MapOf knd s.heap d f ∧ f k0 = some (.str (tx [49]) t1) ∧ f k1 = some (.str (tx [48]) t2)) ∧
        ∀ (v : Value) (k : Nat), (∃ t', v = .str (tx (x.map flip1)) t') → R (.ok (.ret v)) { s with toks := k } := by
  refine MeetsIn.of_wp fun A R s h => ?_
  obtain ⟨⟨f, t1, t2, hm, f0, f1⟩, h⟩ := h
  show wpAny (model prog w) A.in1 (if ((tx x).length == 0) = true then _ else _) _ _ _
  by_cases h0 : ((tx x).length == 0) = true
  · rw [if_pos h0]
    have e : x = [] := List.eq_nil_of_length_eq_zero (by rw [beq_iff_eq, tx_len] at h0; exact h0)
    subst e
    exact wpAny_bind (wpAny_rule (wpAny_pure ⟨_, rfl, h _ s.toks ⟨t, rfl⟩⟩))
  · rw [if_neg h0]
    have hfast : ((tx x).cps.all fun y => decide (y < 128)) = true := by
      show (x.toArray.all fun y => decide (y < 128)) = true
      rw [List.all_toArray, List.all_eq_true]
      intro c hc
      rcases hx c hc with e | e <;> rw [e] <;> decide
    refine wpAny_bind (MeetsSeq2.wpAny_forIn_array _ (TrY x s) _ (fun c rest st s' hI => ?_) (fun st s' hI => ?_) _ _ ⟨[], [], [], s.toks, rfl, by rw [hfast]; rfl, rfl, fun c a z => (by cases z), rfl⟩)
    · obtain ⟨past, pieces, known, k, e1, rfl, e3, e4, rfl⟩ := hI
      have hpl : past.length ≤ 16777216 := by
        have := congrArg List.length e1
        rw [List.length_append] at this
        omega
      have hc : c = 48 ∨ c = 49 := hx c (by rw [e1]; simp)
      dsimp only
      rw [short24 hpl, if_neg Bool.false_ne_true, if_pos rfl]
      cases hkn : List.lookup c known with
      | some a =>
        have ea := e4 c a hkn
        subst ea
        dsimp only
        refine wpAny_bind (wpAny_pure ?_)
        exact wpAny_pure (TrY.next e1 e3 e4)
      | none =>
        dsimp only
        have e4' : ∀ c' a, List.lookup c' ((c, some (flip1 c)) :: known) = some a → a = some (flip1 c') := fun c' a z => by
          rcases lookup_new z with ⟨rfl, rfl⟩ | z
          · rfl
          · exact e4 c' a z
        rcases hc with rfl | rfl
        · refine wpAny_bind (tl_text (s := { s with toks := k }) hk0 hm f0 fun k' => ?_)
          dsimp only
          rw [show (if ((tx [49]).length == 1 && (tx [49]).cps.all fun x => decide (x < 128)) = true then some (tx [49]).cps[0]? else none) = some (some 49) by decide +kernel]
          dsimp only
          refine wpAny_bind (wpAny_pure ?_)
          exact wpAny_pure (TrY.next e1 e3 e4')
        · refine wpAny_bind (tl_text (s := { s with toks := k }) hk1 hm f1 fun k' => ?_)
          dsimp only
          rw [show (if ((tx [48]).length == 1 && (tx [48]).cps.all fun x => decide (x < 128)) = true then some (tx [48]).cps[0]? else none) = some (some 48) by decide +kernel]
          dsimp only
          refine wpAny_bind (wpAny_pure ?_)
          exact wpAny_pure (TrY.next e1 e3 e4')
    · obtain ⟨past, pieces, known, k, e1, rfl, e3, e4, rfl⟩ := hI
      have ex : past = x := by rw [e1, List.append_nil]
      subst ex
      dsimp only
      rw [short24 (by omega), if_neg Bool.false_ne_true, e3, pieces_flip]
      rw [Array.empty_append]
      refine wpAny_bind (wpAny_mkStr (wpAny_pure ⟨_, rfl, h _ (k + 1) ⟨k, rfl⟩⟩) ?_)
      show (tx (past.map flip1)).length ≤ sizeLine
      rw [tx_len, List.length_map]
      have : (sizeLine : Nat) = 16777216 := by decide
      omega
end
section
variable {X : Cx}
def rFlip : V → List V → Hp → VK → Prop := fun x xs H Q => ∃ (l : List Nat) (d : Addr), x = .str (tx l) ∧ xs = [.ref d] ∧ H d = some (.dK [(.inl 48, .str (tx [49])), (.inl 49, .str (tx [48]))]) ∧ (∀ c ∈ l, c = 48 ∨ c = 49) ∧ l.length ≤ 16000000 ∧ Q (.str (tx (l.map flip1))) H
theorem mt_flip : MtR X "str.translate" rFlip := by
  intro pins s σ H x xs v us Q I rx rs h
  obtain ⟨l, d, rfl, rfl, hd, hl, hz, q⟩ := h
  obtain ⟨t, rfl⟩ := rx
  rw [Vals.ref1 rs]
  have hx : ObjOk X.prog X.w H s.heap d (.dK [(.inl 48, .str (tx [49])), (.inl 49, .str (tx [48]))]) := I.hok d _ hd
  unfold ObjOk at hx
  obtain ⟨_, _, vs, kv, dv⟩ := hx
  cases kv with
  | cons r1 kv =>
    cases kv with
    | cons r2 kv =>
      cases kv
      rename_i p1 p2
      obtain ⟨k1, u1⟩ := p1
      obtain ⟨k2, u2⟩ := p2
      obtain ⟨e1, t1, g1⟩ := r1
      obtain ⟨e2, t2, g2⟩ := r2
      cases e1
      cases e2
      cases g1
      cases g2
      refine call_meetsIn PySem.F.slot_str_translate (typeIs_str s (tx l) t) PySem.F.entry_str_translate (PySem.F.args_str_translate_2 (.str (tx l) t) (.ref d)) (meets_flip l t d hl hz (.inl 48) (.inl 49) (fun _ => rfl) (fun _ => rfl)) ⟨⟨_, t1, t2, dv.mapOf, rfl, rfl⟩, fun v k hv => ?_⟩
      obtain ⟨t', rfl⟩ := hv
      exact ⟨.str (tx (l.map flip1)), H, I.tok k, ⟨t', rfl⟩, q⟩
end
end WX
/-! An attribute as a part of a target. -/
namespace WX
open PySem PySem.Spec PyProof.Rows L2
def gAtt (K : PySem.W.Frag) (to : TE) (f : Str) : TG := fun v σ H Q => to σ H fun x H1 => ∃ a C dx fs, x = .ref a ∧ H1 a = some (.ins C dx fs) ∧ Cls K C ∧ NoAttr K C f ∧ fs.length < 1000 ∧ Q σ (upd H1 a (.ins C dx (putF f v fs)))
theorem pg_att {X : Cx} {pos : Pos} {o : Expr} {f : Str} {to : TE} (ho : PE X o to) : PG X (.Attribute o f pos) (gAtt X.K to f) := by
  constructor
  intro pins s σ H v u Q I r h
  rw [arm_assign_Attribute]
  refine wpAny_bind (wpAny_holding (thn (ho.run pins s σ H _ I h) fun ov s1 h1 => ?_))
  obtain ⟨x, H1, I1, rx, a, C, dx, fs, rfl, ea, c, n, l, q⟩ := h1
  cases rx
  refine wpAny_bind (wpAny_standAt (wpAny_bind (wpAny_holding (setattr_ok I1 ea c n l r fun s2 I2 => wpAny_release ⟨σ, _, I2, q⟩))))
theorem pe_xaK {X : Cx} {e : Expr} {te : TE} {n : Str} {pos : Pos} (K : PySem.W.Frag) (hK : X.K = K) (he : PE X e te) (hb : attributeBase e n X.env (eval e X.env) = eval e X.env := by rfl) : PE X (.Attribute e n pos) (tXa K n te) := by
  subst hK
  exact pe_xa he hb
end WX
namespace WX
open PySem PySem.Spec PyProof.Rows L2
/-! str of lists and tuples of data, told exactly: where it is known that no text is being made around -/
def rStrD (K : PySem.W.Frag) : List V → Hp → VK → Prop := fun vs H Q => ∃ (a : Addr) (d : PyData), vs = [.ref a] ∧ Dp K H (.ref a) d ∧ d.canLay0 = true ∧ d.showable = true ∧ d.depth ≤ 40 ∧ d.shown.length ≤ sizeLine ∧ Q (.str d.shown) H
theorem cr_strD {X : Cx} {k : Nat} (hr : Room k X.A) (hg : X.A.guards = some []) : CallR X (.type "str") (rStrD X.K) := by
  intro pins s σ H vs us Q I r h
  obtain ⟨a, d, rfl, hd, hc, hs, hdep, hz, q⟩ := h
  rw [Vals.ref1 r]
  have hu := hr.units
  obtain ⟨as, rd⟩ := Dp.reads I d _ _ hd (show RelV (.ref a) (.ref a) from rfl)
  exact str_of_reads rd hs (PyData.noDict_hsm (PyData.hasDict_of_canLay d hc)) hg (by omega) (fun _ _ e => e) (fun h' u tk hk => ⟨.str d.shown, H, I.kept hk, ⟨u, rfl⟩, q⟩) hz
theorem cr_strDK {X : Cx} (K : PySem.W.Frag) (hK : X.K = K) (hr : Room 0 X.A) (hg : X.A.guards = some []) : CallR X (.type "str") (rStrD K) := by
  subst hK
  exact cr_strD hr hg
theorem deeper_guards {A : Around} {env : Env} : (A.deeper env).guards = A.guards := by
  first | rfl | simp [Around.deeper]
/-! a def run in one place alone, so that what stands around it may be used -/
theorem run_at {P : Program} {w : World} {K : PySem.W.Frag} {mg : Str → Option Value} {base : Heap} {x qual : Str} {st : Stmt} {f : Addr} {fd : FuncData} {N ps : List Str} {k : Nat} {A : Around} {outer : List Env} {s : Shared} {H : Hp} {args : Args} {us : List Value} {vs : List V} {Q : VK} {E : XK}
    (F : Fun K x qual st f fd) (S : FnScope N ps (defScope st)) (hr : Room (k + 1) A) (e0 : Env0 P w K mg base A outer s H) (hb : BindsTo s fd args (ps.zip us)) (r : Vals vs us) (hl : vs.length = ps.length)
    (body : ∀ cdv, Room k (A.deeper (envOfC qual (defScope st) s.heap.objs.size f cdv)) → ∃ t, PSs (cxOf CX0 P w K mg base N qual (defScope st) f cdv A outer s H E).nox (defBody st) t ∧ t { nx := fun _ H' => Q .non H', rt := Q } (start N vs) H) :
    codeAny (model P w) A (.call (.ref f) args) (CR CX0 outer P w H s Q E) s := by
  obtain ⟨oc, od, kV, doc, pm, an, cdv, ct, osl, rfl, lk, hcd⟩ := F.ex
  have up : ∀ b o, base.get? b = some o → s.heap.get? b = some o := fun b o e => (e0.bs b o e).1
  refine Att.call_fn (e0.mod.kin.keeps up) (e0.mod.nolimit.keeps up) lk hcd hr.depth hb ?_ (fun s1 x => ?_) S.co S.gen S.kind
  · rw [List.all_eq_true]
    intro y hy
    rcases S.par y.1 (List.of_mem_zip hy).1 with q | q <;> rw [q] <;> decide
  · obtain ⟨t, ht, hq⟩ := body cdv (hr.deeper _)
    have I : Inv (cxOf CX0 P w K mg base N qual (defScope st) f cdv A outer s H E) [] (start N vs) H s1 := inv_start S hr.hd e0 hl r x
    have done : ∀ {σ' : L2.St} {H' : Hp} {v : V} {u : Value} {s' : Shared}, Inv (cxOf CX0 P w K mg base N qual (defScope st) f cdv A outer s H E) [] σ' H' s' → RelV v u → Q v H' → CE outer P w H s Q u s' :=
      fun {_ H' v _ _} J rv q => ⟨v, H', J.os, J.bare, J.base, J.hok, rv, q⟩
    refine wpAny_mono (ht.nox.run [] s1 (start N vs) H _ I hq) (fun fl s' hs => ?_) fun e s' hs => hs
    cases fl with
    | ret u =>
      obtain ⟨v, σ', H', J, rv, q⟩ := hs
      exact done J rv q
    | next =>
      obtain ⟨σ', H', J, q⟩ := hs
      exact done (v := V.non) (u := Value.none) J rfl q
    | brk =>
      obtain ⟨_, _, _, z⟩ := hs
      exact z.elim
    | cont =>
      obtain ⟨_, _, _, z⟩ := hs
      exact z.elim
/-! the law's call, in the place where it stands: no text is being made around it -/
section
variable {P : Program} {w : World} {K : PySem.W.Frag} {mg mb : Str → Option Value} {s1 : Shared} {a fa : Addr} {vs : List Value} {ns : List Int}
/-- the script alone is told of, if it is none of the module's own things -/
def ScrH (K : PySem.W.Frag) (a : Addr) (vs : List Value) (ns : List Int) : Hp := fun b =>
  if b = a ∧ K.lookup a = none then some (.frz { cls := .type "list", data := .seq vs.toArray } (.lst (ns.map V.int))) else none
theorem ScrH.of {b : Addr} {u : HO} (h : ScrH K a vs ns b = some u) : b = a ∧ K.lookup a = none ∧ u = .frz { cls := .type "list", data := .seq vs.toArray } (.lst (ns.map V.int)) := by
  unfold ScrH at h
  by_cases c : b = a ∧ K.lookup a = none
  · rw [if_pos c] at h
    exact ⟨c.1, c.2, (Option.some.inj h).symm⟩
  · rw [if_neg c] at h
    cases h
theorem scr_at (ha : s1.heap.get? a = some { cls := .type "list", data := .seq vs.toArray }) (KX : K.In s1.heap) (rv : Vals (ns.map V.int) vs) (hl : ns.length ≤ sizeLine) : SqL K (ScrH K a vs ns) a (ns.map V.int) := by
  cases hk : K.lookup a with
  | none =>
    refine .inl (.inr ⟨{ cls := .type "list", data := .seq vs.toArray }, ?_⟩)
    unfold ScrH
    rw [if_pos ⟨rfl, hk⟩]
  | some o =>
    have e := (KX a o hk).symm.trans ha
    cases e
    have hlen : vs.length = ns.length := by
      have := rv.length
      rw [List.length_map] at this
      exact this.symm
    exact .inr ⟨_, vs.toArray, _, hk, rfl, rfl, rfl, by rw [List.size_toArray]; omega, by simpa using rv⟩
theorem scr_ok (ha : s1.heap.get? a = some { cls := .type "list", data := .seq vs.toArray }) (rv : Vals (ns.map V.int) vs) (hl : ns.length ≤ sizeLine) : HOk P w (ScrH K a vs ns) s1.heap := fun b u e => by
  obtain ⟨rfl, _, rfl⟩ := ScrH.of e
  exact ⟨ha, by rw [List.length_map]; exact hl, vs, _, rv, ha⟩
theorem scr_base (ha : s1.heap.get? a = some { cls := .type "list", data := .seq vs.toArray }) (KX : K.In s1.heap) (hns : s1.heap.Ns mainGlobals mg) (hb : s1.heap.Ns builtinsNs mb) (hbb : ∀ x : Str, x ≠ "__name__" → mb x = bootBuiltins x)
    (hlim : s1.heap.NoLimit) (hg : s1.gens = #[]) (rv : Vals (ns.map V.int) vs) (hl : ns.length ≤ sizeLine) : Env0 P w K mg (hidT s1.heap (ScrH K a vs ns)) callerA [] s1 (ScrH K a vs ns) := by
  have only : ∀ {b : Addr} {o : Obj} {es : Array DictEntry} {ep : Nat}, s1.heap.get? b = some o → o.data = .dict es ep → ScrH K a vs ns b = none := by
    intro b o es ep e d
    cases q : ScrH K a vs ns b with
    | none => rfl
    | some u =>
      obtain ⟨rfl, _, _⟩ := ScrH.of q
      have e2 := e.symm.trans ha
      cases e2
      have d2 : Data.seq vs.toArray _ = Data.dict es ep := d
      cases d2
  have nsB : ∀ {b : Addr} {m : Str → Option Value}, s1.heap.Ns b m → (hidT s1.heap (ScrH K a vs ns)).Ns b m := by
    rintro b m ⟨o, es, ep, e, d, r⟩
    exact ⟨o, es, ep, hidT_get e (only e d), d, r⟩
  have inB : K.In (hidT s1.heap (ScrH K a vs ns)) := by
    intro b o e
    refine hidT_get (KX b o e) ?_
    cases q : ScrH K a vs ns b with
    | none => rfl
    | some u =>
      obtain ⟨rfl, hk, _⟩ := ScrH.of q
      rw [hk] at e
      cases e
  obtain ⟨mc, c1, c2⟩ := hlim
  have hM : Mod K mg (hidT s1.heap (ScrH K a vs ns)) := ⟨inB, nsB hns, ⟨mb, nsB hb, hbb⟩, ⟨mc, nsB c1, c2⟩⟩
  refine ⟨rfl, hM, ?_, ?_, trivial, ?_, scr_ok ha rv hl, .of_eq hg⟩
  · intro b o e
    exact of_hidT e
  · exact Nat.le_of_eq (hidT_size _ _)
  · intro b hb2
    cases hb2
theorem law_at (KX : K.In s1.heap) (hns : s1.heap.Ns mainGlobals mg) (hb : s1.heap.Ns builtinsNs mb) (hbb : ∀ x : Str, x ≠ "__name__" → mb x = bootBuiltins x) (hlim : s1.heap.NoLimit) (hg : s1.gens = #[])
    (ha : s1.heap.get? a = some { cls := .type "list", data := .seq vs.toArray }) (rv : Vals (ns.map V.int) vs) (hl : ns.length ≤ sizeLine)
    (run : ∀ (base : Heap) (H : Hp), Env0 P w K mg base callerA [] s1 H → SqL K H a (ns.map V.int) → codeAny (model P w) callerA (.call (.ref fa) ⟨[.ref a], []⟩) (CR CX0 [] P w H s1 (fun v _ => v = .bl true) (fun _ _ _ => False)) s1) :
    codeAny (model P w) callerA (.call (.ref fa) ⟨[.ref a], []⟩) (fun r s' => r = .ok (.ret (.bool true)) ∧ OldK s1.heap s'.heap ∧ s'.os = s1.os ∧ AllBare s'.gens) s1 := by
  refine codeAny_mono (run _ _ (scr_base ha KX hns hb hbb hlim hg rv hl) (scr_at ha KX rv hl)) fun r s2 h => ?_
  match r, h with
  | .ok (.ret u), h =>
    obtain ⟨v, H2, hos, bare, un, hok2, rr, q⟩ := h
    have q2 : v = V.bl true := q
    subst q2
    have eu : u = Value.bool true := rr
    subst eu
    refine ⟨rfl, OldK.of_keep ?_, hos, bare⟩
    intro b o e
    cases q : ScrH K a vs ns b with
    | none => exact un.keep b o e q (fun z => nomatch z) (fun z => nomatch z)
    | some x =>
      obtain ⟨rfl, _, rfl⟩ := ScrH.of q
      have e2 := e.symm.trans ha
      cases e2
      exact (hok2 _ _ (un.frzs _ _ _ q)).1
  | .error e, h => exact False.elim h
end
/-- the law holds where it is called -/
def LawAt (P : Program) (w : World) (K : PySem.W.Frag) (mg : Str → Option Value) (base : Heap) (fa : Addr) (n : Nat) : Prop :=
  ∀ (s : Shared) (H : Hp) (a : Addr) (ns : List Int), Env0 P w K mg base callerA [] s H → SqL K H a (ns.map V.int) → ns.length ≤ n →
    codeAny (model P w) callerA (.call (.ref fa) ⟨[.ref a], []⟩) (CR CX0 [] P w H s (fun v _ => v = .bl true) (fun _ _ _ => False)) s
theorem walk_at {l : PySem.W.OpenLaw} {n : Nat} {q : Program} {loose : List Str} {XP : (Str → Option Value) → Heap → Prop} {YP : World → Heap → Prop} {d : DefRec} (hn : l.most = some n) (hn2 : n ≤ sizeLine) (hdf : d.params.defaults = [])
    (F : ∀ (w : World) (mg : Str → Option Value) (fa : Addr) (h : Heap), YP w h → h.Ns mainGlobals mg → mg d.name = some (.ref fa) → ∃ K : PySem.W.Frag, K.In h ∧ ∀ base : Heap, K.In base → base.Ns mainGlobals mg → LawAt l.prog w K mg base fa n) :
    PySem.W.WalkO q loose XP YP l.row.toRowW d [] (fun f vs => PySem.call f vs) := by
  refine Att.attach_call hn hdf ?_
  intro w s0 s1 mg mb fa o pm cd doc a vs ns G Y _ _ _ hmg hobj hints hlen hg
  obtain ⟨K, KX, hL⟩ := F w mg fa _ Y G.T.g hmg
  refine law_at KX G.T.g G.T.b G.T.builtins G.T.nolimit hg hobj (vals_ints hints) (Nat.le_trans hlen hn2) ?_
  intro base H e0 hS
  exact hL base e0.mod.kin e0.mod.glob s1 H a ns e0 hS hlen
end WX
namespace WX
open PySem
open PySem.HandSPX
/-! an own exception made by keywords alone -/
section
variable {prog : Program} {w : World} {M : Model} {A : Around} {E : Value → Shared → Prop} {R : Result → Shared → Prop} {h : Heap} {g : Array GenState} {d : Drawn} {t : Nat} {os : OsState}
variable {nm q : Str} {C N : Addr} {bs bm bmB : List Value} {hdct : Bool} {sn : List Str} {sub : List Value} {ab : Bool} {col : Option Bool} {dd : Option Addr} {k0 k1 k2 k3 k5 : Option Value} {B newId initId : String}
theorem newK_check (F : ExcBaseFacts B newId initId bmB) (hT : ∀ Y : String, bm.contains (.type Y) = bmB.contains (.type Y)) {kw : List (Str × Value)} {Q : Unit → Shared → Prop}
    (hC : h.get? C = some (excClassObj nm q C N bs bm hdct sn sub ab col dd k0 k1 k2 k3 k5 newId)) (hq : Q () ⟨h, g, d, t, os⟩) : wpAny M A (checkBuiltinCall newId ⟨[.ref C], kw⟩) Q E ⟨h, g, d, t, os⟩ := by
  have c1 : (Value.ref C :: bm).contains (.type B) = true := by rw [List.contains_cons, hT, F.hasB, Bool.or_true]
  have c2 := F.noStar
  simp only [checkBuiltinCall, F.newKind, F.newSplit, F.newRow]
  repeat (first
    | refine wpAny_loadPart_at hC ?_
    | (refine wpAny_isSubtype_exc hC ?_; rw [c1])
    | refine wpAny_staticBase_exc hC ?_
    | refine wpAny_madeBy_exc hC ?_
    | simp only [bne_self_eq_false, Bool.false_eq_true, if_false]
    | wp_step)
  exact hq
theorem newK (F : ExcBaseFacts B newId initId bmB) (hT : ∀ Y : String, bm.contains (.type Y) = bmB.contains (.type Y)) {kw : List (Str × Value)}
    (hC : h.get? C = some (excClassObj nm q C N bs bm hdct sn sub ab col dd k0 k1 k2 k3 k5 newId))
    (hq : R (.ok (.ret (.ref (h.objs.size + 1)))) ⟨(h.push (PySem.W.kdv_tup [])).push (excO C h.objs.size), g, d, t, os⟩) :
    codeAny (model prog w) A (.builtin newId ⟨[.ref C], kw⟩) R ⟨h, g, d, t, os⟩ := by
  have hends := F.ends
  have c1 : (Value.ref C :: bm).contains (.type B) = true := by rw [List.contains_cons, hT, F.hasB, Bool.or_true]
  have c2 : (Value.ref C :: bm).contains (.type "AttributeError") = false := by rw [List.contains_cons, hT, F.noAttr]; rfl
  have c3 : (Value.ref C :: bm).contains (.type "NameError") = false := by rw [List.contains_cons, hT, F.noName]; rfl
  refine codeAny_builtinAt F.entry ?_
  unfold Builtin.«BaseException.__new__»
  refine wpAt_bind ?_
  show wpAt _ _ _ (stack >>= _) _ _ _
  refine wpAt_bind (wpAt_stack fun p below => wpAt_of_wpAny ?_)
  wp_walk
  refine wpAt_of_wpAny ?_
  rw [F.owner]
  repeat (first
    | with_reducible refine wpAny_madeHere_exc F.canon hC ?_
    | with_reducible refine wpAny_loadPart_at hC ?_
    | (with_reducible refine wpAny_isSubtype_exc hC ?_; first | rw [c1] | rw [c2] | rw [c3])
    | wp_step)
  show R _ _
  rw [Heap.size_push]
  exact hq
theorem type_callK (F : ExcBaseFacts B newId initId bmB) (hT : ∀ Y : String, bm.contains (.type Y) = bmB.contains (.type Y)) {kw : List (Str × Value)} {fI : Addr} {Q : Fin → Shared → Prop}
    (hC : h.get? C = some (excClassObj nm q C N bs bm hdct sn sub ab col dd k0 k1 k2 k3 k5 newId))
    (hi : W.Looks (model prog w) h (typeLookup (.ref C) "__init__") (some (.ref fI))) (hb : ∀ x, W.Looks (model prog w) h (bindSpecial (.ref fI) x) (.ref fI, [x]))
    (hq : codeAny (model prog w) A (.call (.ref fI) ⟨[.ref (h.objs.size + 1)], kw⟩) (fun r s' => match r with
        | .ok (.ret v) => v = .none ∧ Q (.done (.ret (.ref (h.objs.size + 1)))) s'
        | .ok _ => False
        | .error e => E e s') ⟨(h.push (W.kdv_tup [])).push (excO C h.objs.size), g, d, t, os⟩) :
    wpAny (model prog w) A (Builtin.«type.__call__» ⟨[.ref C], kw⟩) Q E ⟨h, g, d, t, os⟩ := by
  repeat (first
    | with_reducible refine wpAny_loadPart_at hC ?_
    | with_reducible refine wpAny_madeBy_exc hC ?_
    | wp_step)
  refine codeAny_call_builtin_code (Code.quiet_builtin _ F.quiet) (newK_check F hT hC ?_)
  refine newK F hT hC ?_
  show wpAny _ _ _ _ _ _
  have up : ∀ b o, h.get? b = some o → ((h.push (W.kdv_tup [])).push (excO C h.objs.size)).get? b = some o := fun b o e => Heap.get?_push_of_some _ (Heap.get?_push_of_some _ e)
  have cAt := up _ _ hC
  have eAt : ((h.push (W.kdv_tup [])).push (excO C h.objs.size)).get? (h.objs.size + 1) = some (excO C h.objs.size) := by heap_get
  have c1 : (Value.ref C :: bm).contains (.ref C) = true := by simp
  have i1 := hi.keeps up
  have b1 := (hb (.ref (h.objs.size + 1))).keeps up
  unfold isInstance
  repeat (first
    | with_reducible refine wpAny_loadPart_at eAt ?_
    | (with_reducible refine wpAny_isSubtype_exc cAt ?_; rw [c1])
    | wp_step)
  show wpAny _ _ (typeLookup (.ref C) _) _ _ _
  refine i1.at ?_
  refine wpAny_holding (wpAny_bind (b1.at ?_))
  refine wpAny_bind (wpAny_call (codeAny_mono hq fun r s' z => ?_))
  match r, z with
  | .ok (.ret v), z =>
    obtain ⟨rfl, z⟩ := z
    first
      | exact wpAny_pure (wpAny_pure z)
      | (wp_walk; exact z)
  | .error e, z => exact z
theorem callK (F : ExcBaseFacts B newId initId bmB) (hT : ∀ Y : String, bm.contains (.type Y) = bmB.contains (.type Y)) {kw : List (Str × Value)} {fI : Addr}
    (hC : h.get? C = some (excClassObj nm q C N bs bm hdct sn sub ab col dd k0 k1 k2 k3 k5 newId))
    (hi : W.Looks (model prog w) h (typeLookup (.ref C) "__init__") (some (.ref fI))) (hb : ∀ x, W.Looks (model prog w) h (bindSpecial (.ref fI) x) (.ref fI, [x]))
    (hq : codeAny (model prog w) (A.under (.builtin "type.__call__" ⟨[.ref C], kw⟩)) (.call (.ref fI) ⟨[.ref (h.objs.size + 1)], kw⟩) (W.InitBack (h.objs.size + 1) R) ⟨(h.push (W.kdv_tup [])).push (excO C h.objs.size), g, d, t, os⟩) :
    codeAny (model prog w) A (.call (.ref C) ⟨[], kw⟩) R ⟨h, g, d, t, os⟩ := by
  have f1 := tc_lookup
  have f2 := tc_bind (.ref C)
  have hTy : (⟨h, g, d, t, os⟩ : Shared).TypeIs (.ref C) "type" := ⟨_, hC, rfl⟩
  refine codeAny_of_tree ?_
  show wpAny _ _ (callAny (.ref C) _) _ _ _
  repeat (any_goals (first
    | assumption
    | with_reducible refine wpAny_loadPart_at hC ?_
    | wp_step))
  refine ⟨rfl, ?_⟩
  refine codeAny_call_builtin_at (Code.quiet_builtin _ (by decide +kernel)) entry_typeCall (wpAny_check_type_call_sub hC (type_callK F hT hC hi hb ?_))
  refine codeAny_mono hq fun r s' z => ?_
  rcases r with e | (v | _ | _ | _) <;> exact z
end
end WX
namespace WX
open PySem PySem.Spec PyProof.Rows L2
/-- C(k = e, ..), C's own __init__ keeping sp -/
def tMkOK (C : Addr) (m : Nat) (sp : Sp) (gV : List V → List V → List V) (tk : TA) : L2.St → Hp → XK → Prop := fun σ H Q => tk σ H fun zs H1 => zs.length = m ∧ ∀ a, H1 a = none →
  sp (gV [.ref a] zs) (upd H1 a (exo a C none)) (fun v H2 => v = .non ∧ ∃ (d : Addr) (fs : List (Str × V)), H2 a = some (exo a C (some d)) ∧ H2 d = some (exd d fs) ∧ H1 d = none ∧ Q (.ref C) (some d) (upd (del H2 a) d (.xd fs))) (fun _ _ _ => False)
theorem pmk_oexK {X : Cx} {CX : CXT} {x : Str} {C fI : Addr} {k : Nat} {fd : FuncData} {ps ks : List Str} {sp : Sp} {p pos : Pos} {kws : List Keyword} {tk : TA} {g : List Value → List Value → List Value} {gV : List V → List V → List V}
    (T : OexC X.K C) (iC : PySem.W.findIn X.K (.ref C) "__init__" = some (some (.ref fI))) (tI : PySem.W.typeIn X.K (.ref fI) = some (.type "function")) (F1 : FnOk X.prog X.w X.K X.mg X.base CX k fI fd ps sp) (hr : Room (k + 1) X.A)
    (hb : KBn X.K fd ps 1 ks g gV) (hx : Passes CX X (fun _ _ _ => False)) (hg : Gl X x) (hm : X.mg x = some (.ref C)) (hkw : PK X kws tk)
    (hall : ((backToKw pos (keywordEach kws X.env)).all fun x => x.fst.isSome) = true := by rfl) (hks : List.filterMap (fun x => x.fst) (backToKw pos (keywordEach kws X.env)) = ks := by rfl) (hdb : (x == Str.ofString "__debug__") = false := by rfl)
    (hpl : (((backTo pos (starEach [] X.env)).any fun x => x.fst) || (backToKw pos (keywordEach kws X.env)).any fun x => x.fst.isNone) = false := by rfl) : PMk X (.Call (.Name x p) [] kws pos) (tMkOK C ks.length sp gV tk) := by
  intro pins s σ H Q I h
  obtain ⟨nm, q, N, bs, bm, sn, sub, ab, col, dd, k0, k1, k2, k3, k5, hC, hbm⟩ := T.cls
  refine wpAny_Call_Name_kw (ld_glob I hg hm ?_ hdb)
  refine PySem.W.callWith_KW0 (h₀ := X.base) I.ok.mod.kin T.kC hall (thn (hkw.run pos pins s σ H _ I h) fun ws s1 h1 => ?_) hpl
  obtain ⟨zs, H1, I1, rz, l1, q1⟩ := h1
  refine ⟨I1.kIn, ?_⟩
  rw [hks]
  obtain ⟨hp, g', dr, tok, os⟩ := s1
  have hn : H1 (hp.objs.size + 1) = none := I1.hok.fresh (Nat.le_succ _)
  have hq := q1 _ hn
  have up : ∀ b o, hp.get? b = some o → ((hp.push (PySem.W.kdv_tup [])).push (PySem.HandSPX.excO C hp.objs.size)).get? b = some o := fun b o e => Heap.get?_push_of_some _ (Heap.get?_push_of_some _ e)
  have eAt : ((hp.push (PySem.W.kdv_tup [])).push (PySem.HandSPX.excO C hp.objs.size)).get? (hp.objs.size + 1) = some (PySem.HandSPX.excO C hp.objs.size) := by heap_get
  have I2 : Inv X pins σ (upd H1 (hp.objs.size + 1) (exo (hp.objs.size + 1) C none)) ⟨(hp.push (PySem.W.kdv_tup [])).push (PySem.HandSPX.excO C hp.objs.size), g', dr, tok, os⟩ :=
    I1.laid (t' := tok) (a := hp.objs.size + 1) (o := exo (hp.objs.size + 1) C none) (h' := (hp.push (PySem.W.kdv_tup [])).push (PySem.HandSPX.excO C hp.objs.size)) up (Nat.le_succ _) (exo_ok eAt)
  have r2 : Vals (gV [V.ref (hp.objs.size + 1)] zs) (g [Value.ref (hp.objs.size + 1)] ws) := hb.rel (.cons rfl .nil) rz
  have hl : (g [Value.ref (hp.objs.size + 1)] ws).length = ps.length := by
    have e := r2.length
    rw [F1.len _ _ _ _ hq] at e
    exact e.symm
  have hbd := hb.to ⟨(hp.push (PySem.W.kdv_tup [])).push (PySem.HandSPX.excO C hp.objs.size), g', dr, tok, os⟩ [Value.ref (hp.objs.size + 1)] ws I2.kIn rfl (rz.length.symm.trans l1)
  refine wpAny_call (callK F.excBase_ValueError (fun Y => PySem.HandSPX.refsVE_contains Y bm hbm) (I1.kIn _ _ hC) (PySem.W.looks_findIn I1.kIn iC) (fun z => PySem.W.bind_fn I1.kIn z tI)
    (codeAny_mono (F1.run _ X.stack _ _ ⟨[Value.ref (hp.objs.size + 1)], ks.zip ws⟩ (g [Value.ref (hp.objs.size + 1)] ws) _ _ (fun _ _ _ => False) (hr.make C [] (ks.zip ws)) (I2.env0.make C [] (ks.zip ws)) hbd r2 hq) fun r s' hq' => ?_))
  match r, hq' with
  | .error er, hq' => exact hx pins σ _ _ er s' I2 hq'
  | .ok (.ret u), hq' =>
    obtain ⟨v, H2, os2, bare2, un2, hok2, rv, ev, d, fs, ea, ed, hd1, q2⟩ := hq'
    subst ev
    obtain ⟨h2, g2, d2, t2, os'⟩ := s'
    exact ⟨rv, mk_end (raises_own T.exC T.tyC) I1 (Nat.le_succ _) up un2 hok2 os2 bare2 ea ed hd1 q2⟩
  | .ok .next, hq' => exact False.elim hq'
  | .ok .brk, hq' => exact False.elim hq'
  | .ok .cont, hq' => exact False.elim hq'
/-- C(), C without an own __init__ -/
theorem pmk_own0 {X : Cx} {C : Addr} {bmB : List Value} {B newId initId : String} {x : Str} {p pos : Pos} (F : ExcBaseFacts B newId initId bmB) (q : PySem.W.excIn X.K C bmB newId = true) (gC : X.mg x = some (.ref C))
    (kC : PySem.W.keepIn X.K (.ref C) = true) (r : Raises X (.ref C)) (hg : Gl X x) (hdb : (x == ("__debug__" : Str)) = false := by decide) : PMk X (.Call (.Name x p) [] [] pos) (fun _ H Q => Q (.ref C) none H) := by
  intro pins s σ H Q I h
  refine wpAny_Call_Name_kw (ld_glob I hg gC ?_ hdb)
  refine PySem.W.callWith_K0 I.kIn kC ?_
  show wpAny _ _ (call (.ref C) []) _ _ _
  obtain ⟨bm, N, nm, qn, bs, hdct, sn, sub, ab, col, dd, k0, k1, k2, k3, k5, mN, hC, hN, hni, T⟩ := exc_obj I.kIn q
  refine wpAny_call_exc_subT F T hC hN hni (fun h' e hm => ?_) (by decide)
  exact mk_of I hm r h (I.hok.gone hm.new)
end WX
namespace WK
open PySem PySem.Spec PyProof.Rows L2
def topS (i : Nat) : Stmt := PySem.Challenge.pw_clockloom_k20_refusals_made.main.body.getD i (.Pass ⟨0, 0, 0, 0⟩)
structure Cal (P : Program) (w : World) (K : PySem.W.Frag) (mg : Str → Option Value) (base : Heap) (CX : CXT) (k : Nat) (f : Addr) (fd : FuncData) (x : Str) (ps : List Str) (sp : Sp) : Prop where
  G : FnOk P w K mg base CX k f fd ps sp
  g : mg x = some (.ref f)
  kp : PySem.W.keepIn K (.ref f) = true
  b : Binds K fd ps []
structure XCal (P : Program) (w : World) (K : PySem.W.Frag) (mg : Str → Option Value) (base : Heap) (k : Nat) (x : Str) (C fI : Addr) (fd : FuncData) (ps fs : List Str) (sp : Sp) : Prop where
  T : OexC K C
  iC : PySem.W.findIn K (.ref C) "__init__" = some (some (.ref fI))
  tI : PySem.W.typeIn K (.ref fI) = some (.type "function")
  G : FnOk P w K mg base CX0 k fI fd ps sp
  b : Binds K fd ps []
  g : mg x = some (.ref C)
  a : PySem.W.nsIn K mainGlobals x = some (some (.ref C))
  no : ∀ f ∈ fs, PySem.W.findIn K (.ref C) f = some none
  kb : KBn K fd ps 1 (ps.drop 1).reverse (fun us ws => us ++ ws.reverse) (fun vs zs => vs ++ zs.reverse)
structure YCal (K : PySem.W.Frag) (mg : Str → Option Value) (nm : Str) (C : Addr) : Prop where
  x : PySem.W.excIn K C [.type "ValueError", .type "Exception", .type "BaseException", .type "object"] "ValueError.__new__" = true
  g : mg nm = some (.ref C)
  k : PySem.W.keepIn K (.ref C) = true
  b : PySem.W.subIn K (.ref C) (.type "BaseException") = some true
  t : PySem.W.typeIn K (.ref C) = some (.type "type")
  a : PySem.W.nsIn K mainGlobals nm = some (some (.ref C))
structure ECal (K : PySem.W.Frag) (mg : Str → Option Value) (x : Str) (C : Addr) : Prop where
  g : mg x = some (.ref C)
  a : PySem.W.nsIn K mainGlobals x = some (some (.ref C))
  E : WX.ExK K C
  t : PySem.W.typeIn K (.ref C) = some (.type "type")
  v : PySem.W.subIn K (.ref C) (.type "ValueError") = some true
theorem ECal.exm {K : PySem.W.Frag} {mg : Str → Option Value} {x : Str} {C : Addr} {cls : Value} {b : Bool} (e : ECal K mg x C) (u : PySem.W.subIn K cls (.ref C) = some b) : PySem.W.exmOne K cls (.ref C) = some b := PySem.W.exm_ref e.E.hs e.E.hd e.t u
theorem ECal.kit {K : PySem.W.Frag} {mg : Str → Option Value} {x : Str} {C : Addr} {cls : Value} {b : Bool} (e : ECal K mg x C) (u : PySem.W.subIn K cls (.ref C) = some b) (hb : (cls == Value.ref C) = true → b = true) : PySem.W.kitOne K cls (.ref C) = some b := by
  unfold PySem.W.kitOne
  by_cases h : (cls == Value.ref C) = true
  · rw [if_pos h, hb h]
  · rw [if_neg h]
    obtain ⟨cd, hc, _⟩ := PySem.W.any_some e.E.hd
    unfold PySem.W.kitCls
    show (if ((PySem.W.clsIn K C).isSome && PySem.W.typeIn K (.ref C) == some (.type "type")) = true then _ else _) = _
    rw [hc, e.t]
    exact u
theorem ECal.self {K : PySem.W.Frag} {C : Addr} : PySem.W.kitOne K (.ref C) (.ref C) = some true := by
  unfold PySem.W.kitOne
  rw [if_pos (by simp)]
theorem ECal.ve {K : PySem.W.Frag} {mg : Str → Option Value} {x : Str} {C : Addr} (e : ECal K mg x C) : PySem.W.kitOne K (.ref C) (.type "ValueError") = some true := by
  unfold PySem.W.kitOne
  rw [if_neg (by simp)]
  show (if PySem.W.kitMeta "ValueError" = true then PySem.W.subIn K (.ref C) (.type "ValueError") else none) = some true
  rw [if_pos (by decide +kernel)]
  exact e.v
structure DCal (K : PySem.W.Frag) (mg : Str → Option Value) (x : Str) (C : Addr) : Prop where
  g : mg x = some (.ref C)
  hd : PySem.W.hasDictIn K C = true
  t : PySem.W.typeIn K (.ref C) = some (.type "type")
  a : PySem.W.nsIn K mainGlobals x = some (some (.ref C))
theorem DCal.kit {K : PySem.W.Frag} {mg : Str → Option Value} {x : Str} {C : Addr} {cls : Value} {b : Bool} (e : DCal K mg x C) (u : PySem.W.subIn K cls (.ref C) = some b) (hb : (cls == Value.ref C) = true → b = true) : PySem.W.kitOne K cls (.ref C) = some b := by
  unfold PySem.W.kitOne
  by_cases h : (cls == Value.ref C) = true
  · rw [if_pos h, hb h]
  · rw [if_neg h]
    obtain ⟨cd, hc, _⟩ := PySem.W.any_some e.hd
    unfold PySem.W.kitCls
    show (if ((PySem.W.clsIn K C).isSome && PySem.W.typeIn K (.ref C) == some (.type "type")) = true then _ else _) = _
    rw [hc, e.t]
    exact u
theorem same_upd {H : Hp} {p : Addr} {o : HO} (h : H p = none) : Same H (upd H p o) := fun b x e => by
  rw [upd_ne (ne_of_none e h)]
  exact e
theorem szl : (sizeLine : Nat) = 16777216 := by decide
def nV (n : Nat) : V := .int (n : Int)
theorem Same.upd {H H1 : Hp} {p : Addr} {o : HO} (s : Same H H1) (hn : H p = none) : Same H (upd H1 p o) := fun b x e => by
  rw [upd_ne (ne_of_none e hn)]
  exact s b x e
theorem at_upd {H : Hp} {p : Addr} {o : HO} (h : H p = none) : (upd H p o) p = some o := upd_same
theorem ns_inj {K : PySem.W.Frag} {x : Str} {C D : Addr} (h : PySem.W.nsIn K mainGlobals x = some (some (.ref C))) (h' : PySem.W.nsIn K mainGlobals x = some (some (.ref D))) : C = D := Value.ref.inj (Option.some.inj (Option.some.inj (h.symm.trans h')))
theorem lc_yes {σ : L2.St} {H : Hp} {F : Bool → Hp → Prop} (h : F true H) : tYes σ H F := h
theorem Vals.rev : ∀ {vs : List V} {us : List Value}, Vals vs us → Vals vs.reverse us.reverse
  | [], _, h => by
    cases h
    exact .nil
  | v :: vs, _, h => by
    cases h with
    | cons a t =>
      rw [List.reverse_cons, List.reverse_cons]
      exact (Vals.rev t).append (.cons a .nil)
/-! ### things made of numbers, texts, lists and tuples; N: where they may lie -/
mutual
inductive DpN (H : Hp) (N : Addr → Prop) : V → PyData → Prop
  | int (i : Int) : DpN H N (.int i) (.int i)
  | str (x : Str) : DpN H N (.str x) (.str x)
  | lst {a : Addr} {xs : List V} {ds : List PyData} (h : H a = some (.lst xs)) (n : N a) (l : xs.length ≤ 100) (t : DpNs H N xs ds) : DpN H N (.ref a) (.list ds)
  | tup {a : Addr} {xs : List V} {ds : List PyData} (h : H a = some (.tup xs)) (n : N a) (l : xs.length ≤ 100) (t : DpNs H N xs ds) : DpN H N (.ref a) (.tuple ds)
inductive DpNs (H : Hp) (N : Addr → Prop) : List V → List PyData → Prop
  | nil : DpNs H N [] []
  | cons {v : V} {vs : List V} {d : PyData} {ds : List PyData} (h : DpN H N v d) (t : DpNs H N vs ds) : DpNs H N (v :: vs) (d :: ds)
end
/-- all that lies where N says stays -/
def Keeps (N : Addr → Prop) (H H' : Hp) : Prop := ∀ b o, N b → H b = some o → H' b = some o
mutual
theorem DpN.mono {H H' : Hp} {N N' : Addr → Prop} (k : Keeps N H H') (i : ∀ b o, N b → H b = some o → N' b) : ∀ {d : PyData} {v : V}, DpN H N v d → DpN H' N' v d
  | .int _, _, .int i => .int i
  | .str _, _, .str x => .str x
  | .list _, _, .lst h n l t => .lst (k _ _ n h) (i _ _ n h) l (DpNs.mono k i t)
  | .tuple _, _, .tup h n l t => .tup (k _ _ n h) (i _ _ n h) l (DpNs.mono k i t)
theorem DpNs.mono {H H' : Hp} {N N' : Addr → Prop} (k : Keeps N H H') (i : ∀ b o, N b → H b = some o → N' b) : ∀ {ds : List PyData} {vs : List V}, DpNs H N vs ds → DpNs H' N' vs ds
  | [], _, .nil => .nil
  | _ :: _, _, .cons h t => .cons (DpN.mono k i h) (DpNs.mono k i t)
end
mutual
theorem DpN.dp {K : PySem.W.Frag} {H : Hp} {N : Addr → Prop} : ∀ {d : PyData} {v : V}, DpN H N v d → Dp K H v d
  | .int _, _, .int i => .int i
  | .str _, _, .str x => .str x
  | .list _, _, .lst h _ _ t => .lst (SqL.of h) (DpNs.dp t)
  | .tuple _, _, .tup h _ _ t => .tup (SqT.of h) (DpNs.dp t)
theorem DpNs.dp {K : PySem.W.Frag} {H : Hp} {N : Addr → Prop} : ∀ {ds : List PyData} {vs : List V}, DpNs H N vs ds → DpAll K H vs ds
  | [], _, .nil => .nil
  | _ :: _, _, .cons h t => .cons (DpN.dp h) (DpNs.dp t)
end
theorem DpNs.at {H : Hp} {N : Addr → Prop} : ∀ {vs : List V} {ds : List PyData} {i : Nat} {v : V}, DpNs H N vs ds → vs[i]? = some v → ∃ d, ds[i]? = some d ∧ DpN H N v d
  | _ :: _, _ :: _, 0, _, .cons h _, e => by
    cases e
    exact ⟨_, rfl, h⟩
  | _ :: _, _ :: _, i + 1, _, .cons _ t, e => DpNs.at (i := i) t e
theorem DpNs.len {H : Hp} {N : Addr → Prop} : ∀ {vs : List V} {ds : List PyData}, DpNs H N vs ds → vs.length = ds.length
  | [], _, .nil => rfl
  | _ :: _, _, .cons _ t => by rw [List.length_cons, List.length_cons, t.len]
theorem DpNs.snoc {H : Hp} {N : Addr → Prop} {v : V} {d : PyData} (h : DpN H N v d) : ∀ {vs : List V} {ds : List PyData}, DpNs H N vs ds → DpNs H N (vs ++ [v]) (ds ++ [d])
  | [], _, .nil => .cons h .nil
  | _ :: _, _, .cons a t => .cons a (DpNs.snoc h t)
theorem depth_at : ∀ {ds : List PyData} {i : Nat} {d : PyData}, ds[i]? = some d → d.depth ≤ PyData.depthAll ds
  | _ :: _, 0, _, e => by
    cases e
    simp only [PyData.depthAll]
    exact Nat.le_max_left _ _
  | _ :: _, i + 1, _, e => by
    simp only [PyData.depthAll]
    exact Nat.le_trans (depth_at (i := i) e) (Nat.le_max_right _ _)
end WK
namespace WK
open PySem PySem.Spec PyProof.Rows L2
abbrev s_fresh : Stmt := topS 1
theorem sc_fresh : FnScope ["thing", "part"] ["thing"] (defScope s_fresh) := ⟨rfl, rfl, rfl, by decide +kernel, rfl, by decide +kernel, by decide +kernel⟩
theorem take_snoc {α : Type} {ds : List α} {k : Nat} {d : α} (h : ds[k]? = some d) : ds.take (k + 1) = ds.take k ++ [d] := by
  rw [List.take_succ, h]
  rfl
theorem none_of {H H' : Hp} {b : Addr} (s : Same H H') (h : H' b = none) : H b = none := by
  cases e : H b with
  | none => rfl
  | some o =>
    rw [s _ _ e] at h
    cases h
section
variable {P : Program} {w : World} {K : PySem.W.Frag} {mg : Str → Option Value} {base : Heap}
def sp_freshN (n : Nat) : Sp := fun vs H Q _ => ∃ (v : V) (d : PyData) (N : Addr → Prop), vs = [v] ∧ DpN H N v d ∧ d.depth ≤ n ∧ ∀ H' u, Same H H' → DpN H' (fun b => H b = none) u d → Q u H'
def sp_freshB : Nat → Sp
  | 0 => fun _ _ _ _ => False
  | n + 1 => sp_freshN n
def sp_fresh (_ : PySem.W.Frag) : Sp := sp_freshB 6
theorem fresh_step {f : Addr} {fd : FuncData} {n : Nat} (F : Fun K "fresh" "fresh" s_fresh f fd) (m_dict : mg "dict" = none) (m_isinstance : mg "isinstance" = none) (m_list : mg "list" = none) (m_tuple : mg "tuple" = none)
    {f_fresh : Addr} {fd_fresh : FuncData} (c_fresh : Cal P w K mg base CX0 n f_fresh fd_fresh "fresh" ["thing"] (sp_freshB n)) : FnOk P w K mg base CX0 (n + 1) f fd ["thing"] (sp_freshN n) := by
  refine F.ok sc_fresh (fun vs H Q E h => ?_) (fun cdv A outer s H vs Q E hr h => ?_)
  · obtain ⟨_, _, _, rfl, _⟩ := h
    rfl
  · obtain ⟨v, d, N, rfl, hd, hn, q⟩ := h
    have hz := szl
    refine ⟨_, (pss_cons (ps_if (pt_val (pe_callB call_isi (by rfl) m_isinstance (by decide +kernel) (pa_cons (pv 0) (pa_cons (pe_bltn (v := .ty "list") (by rfl) m_list (by decide +kernel) rfl) pa_nil))))
        (pss_one (ps_ret (pe_lc (own := [("part", 1)]) (g := gName 1) (by rfl) sc_fresh.nd (pi_list (pv 0)) (blkOk_by (N := ["thing", "part"]) (sc := defScope s_fresh) (by decide +kernel)) (fun _ _ _ _ _ => pg_name (i := 1) sc_fresh.nd rfl (Or.inl rfl)) (fun _ _ _ _ _ => pts_nil) (fun _ _ _ _ _ => (pe_call c_fresh.G (hr.mono (by omega)) (by rfl) c_fresh.g c_fresh.kp c_fresh.b .nil pass0 (pa_cons (pv 1) pa_nil))))))
        pss_nil)
      (pss_cons (ps_if (pt_val (pe_callB call_isi (by rfl) m_isinstance (by decide +kernel) (pa_cons (pv 0) (pa_cons (pe_bltn (v := .ty "tuple") (by rfl) m_tuple (by decide +kernel) rfl) pa_nil))))
        (pss_one (ps_ret (pe_callTy call_tuple_of (by rfl) m_tuple (by decide +kernel) (pa_cons (pe_lc (own := [("part", 1)]) (g := gName 1) (by rfl) sc_fresh.nd (pi_tup (pv 0)) (blkOk_by (N := ["thing", "part"]) (sc := defScope s_fresh) (by decide +kernel)) (fun _ _ _ _ _ => pg_name (i := 1) sc_fresh.nd rfl (Or.inl rfl)) (fun _ _ _ _ _ => pts_nil) (fun _ _ _ _ _ => (pe_call c_fresh.G (hr.mono (by omega)) (by rfl) c_fresh.g c_fresh.kp c_fresh.b .nil pass0 (pa_cons (pv 1) pa_nil)))) pa_nil))))
        pss_nil)
      (pss_cons (ps_if (pt_val (pe_callB call_isi (by rfl) m_isinstance (by decide +kernel) (pa_cons (pv 0) (pa_cons (pe_bltn (v := .ty "dict") (by rfl) m_dict (by decide +kernel) rfl) pa_nil))))
        (pss_one ps_never)
        pss_nil)
      (pss_one (ps_ret (pv 0)))))), ?_⟩
    -- the parts of a thing, each made anew
    have parts : ∀ {D : Addr} {xs : List V} {ds : List PyData} {k : Nat} {z : V} {HJ : Hp} {R : V → Hp → Prop} {E : XK}, H D = none → DpNs H N xs ds → PyData.depthAll ds + 1 ≤ n → xs.length ≤ 100 → xs[k]? = some z → Same H HJ →
        (∃ us, HJ D = some (.lst us) ∧ us.length = k ∧ DpNs HJ (fun b => H b = none ∧ b ≠ D) us (ds.take k)) →
        (∀ H2 u us, HJ D = some (.lst us) → us.length = k → Same HJ H2 → (Same H (upd H2 D (.lst (us ++ [u]))) ∧ ∃ us', (upd H2 D (.lst (us ++ [u]))) D = some (.lst us') ∧ us'.length = k + 1 ∧ DpNs (upd H2 D (.lst (us ++ [u]))) (fun b => H b = none ∧ b ≠ D) us' (ds.take (k + 1))) → R u H2) →
        sp_freshB n [z] HJ R E := by
      intro D xs ds k z HJ R E nD t hdep hl hz sJ hP hR
      obtain ⟨us, hD, hlen, hus⟩ := hP
      obtain ⟨m, rfl⟩ : ∃ m, n = m + 1 := ⟨n - 1, by omega⟩
      obtain ⟨dz, ez, hz2⟩ := DpNs.at t hz
      have := depth_at ez
      refine ⟨z, dz, N, rfl, hz2.mono (fun b o _ e => sJ _ _ e) (fun b o h _ => h), by omega, fun H2 u s2 hu => hR H2 u us hD hlen s2 ?_⟩
      have kp : Keeps (fun b => H b = none ∧ b ≠ D) HJ (upd H2 D (.lst (us ++ [u]))) := fun b o h e => by
        rw [upd_ne h.2]
        exact s2 _ _ e
      have kp2 : Keeps (fun b => HJ b = none) H2 (upd H2 D (.lst (us ++ [u]))) := fun b o h e => by
        rw [upd_ne (fun z => by rw [z, hD] at h; cases h)]
        exact e
      refine ⟨Same.upd (sJ.trans s2) nD, us ++ [u], upd_same, by rw [List.length_append, hlen]; rfl, ?_⟩
      rw [take_snoc ez]
      exact DpNs.snoc (hu.mono kp2 fun b o h _ => ⟨none_of sJ h, fun z => by rw [z, hD] at h; cases h⟩) (hus.mono kp fun b o h _ => h)
    cases hd with
    | int i =>
      refine ⟨_, rfl, _, .ty "list", .type "int", .type "list", false, rfl, .ty "list", .base (.int _), kit_ty (by decide +kernel), false, rfl, iteF ?_⟩
      refine ⟨_, rfl, _, .ty "tuple", .type "int", .type "tuple", false, rfl, .ty "tuple", .base (.int _), kit_ty (by decide +kernel), false, rfl, iteF ?_⟩
      refine ⟨_, rfl, _, .ty "dict", .type "int", .type "dict", false, rfl, .ty "dict", .base (.int _), kit_ty (by decide +kernel), false, rfl, iteF ?_⟩
      exact ⟨_, rfl, q H _ (Same.refl H) (.int i)⟩
    | str x =>
      refine ⟨_, rfl, _, .ty "list", .type "str", .type "list", false, rfl, .ty "list", .base (.str _), kit_ty (by decide +kernel), false, rfl, iteF ?_⟩
      refine ⟨_, rfl, _, .ty "tuple", .type "str", .type "tuple", false, rfl, .ty "tuple", .base (.str _), kit_ty (by decide +kernel), false, rfl, iteF ?_⟩
      refine ⟨_, rfl, _, .ty "dict", .type "str", .type "dict", false, rfl, .ty "dict", .base (.str _), kit_ty (by decide +kernel), false, rfl, iteF ?_⟩
      exact ⟨_, rfl, q H _ (Same.refl H) (.str x)⟩
    | @lst a xs ds h na l t =>
      have hdep : PyData.depthAll ds + 1 ≤ n := by simpa only [PyData.depth] using hn
      refine ⟨_, rfl, _, .ty "list", .type "list", .type "list", true, rfl, .ty "list", .base (.lst h), kit_ty (by decide +kernel), true, rfl, iteT ?_⟩
      refine ⟨_, rfl, a, rfl, ⟨_, SqL.of h⟩, fun D nD => ?_⟩
      have sD := same_upd (o := .lst []) nD
      refine lc_list (K := K) (a := a) (xs := xs) (fun k H' => Same H H' ∧ ∃ us, H' D = some (.lst us) ∧ us.length = k ∧ DpNs H' (fun b => H b = none ∧ b ≠ D) us (ds.take k)) ⟨sD, [], upd_same, rfl, .nil⟩ (fun k H' _ hP => SqL.of (hP.1 _ _ h)) (fun k z HJ hz hP => ?_) (fun H' hP => ?_)
      · refine ⟨rfl, lc_yes ?_⟩
        rw [if_pos rfl]
        refine ⟨_, rfl, parts nD t hdep l hz hP.1 hP.2 fun H2 u us hD hlen s2 hnext => ?_⟩
        have hk : k < xs.length := by
          obtain ⟨hk, _⟩ := List.getElem?_eq_some_iff.mp hz
          exact hk
        exact ⟨us, s2 _ _ hD, by omega, hnext⟩
      · obtain ⟨s', us, hD, hlen, hus⟩ := hP
        have el := t.len
        rw [List.take_of_length_le (by omega)] at hus
        exact q H' _ s' (.lst hD nD (by omega) (hus.mono (fun _ _ _ e => e) fun b o h _ => h.1))
    | @tup a xs ds h na l t =>
      have hdep : PyData.depthAll ds + 1 ≤ n := by simpa only [PyData.depth] using hn
      refine ⟨_, rfl, _, .ty "list", .type "tuple", .type "list", false, rfl, .ty "list", .base (.tup h), kit_ty (by decide +kernel), false, rfl, iteF ?_⟩
      refine ⟨_, rfl, _, .ty "tuple", .type "tuple", .type "tuple", true, rfl, .ty "tuple", .base (.tup h), kit_ty (by decide +kernel), true, rfl, iteT ?_⟩
      refine ⟨_, rfl, a, rfl, ⟨_, SqT.of h⟩, fun D nD => ?_⟩
      have sD := same_upd (o := .lst []) nD
      refine lc_tup (K := K) (a := a) (xs := xs) (fun k H' => Same H H' ∧ ∃ us, H' D = some (.lst us) ∧ us.length = k ∧ DpNs H' (fun b => H b = none ∧ b ≠ D) us (ds.take k)) ⟨sD, [], upd_same, rfl, .nil⟩ (fun k H' _ hP => SqT.of (hP.1 _ _ h)) (fun k z HJ hz hP => ?_) (fun H' hP => ?_)
      · refine ⟨rfl, lc_yes ?_⟩
        rw [if_pos rfl]
        refine ⟨_, rfl, parts nD t hdep l hz hP.1 hP.2 fun H2 u us hD hlen s2 hnext => ?_⟩
        have hk : k < xs.length := by
          obtain ⟨hk, _⟩ := List.getElem?_eq_some_iff.mp hz
          exact hk
        exact ⟨us, s2 _ _ hD, by omega, hnext⟩
      · obtain ⟨s', us, hD, hlen, hus⟩ := hP
        have el := t.len
        rw [List.take_of_length_le (by omega)] at hus
        refine ⟨D, us, rfl, .inl ⟨SqL.of hD, fun p np => ?_⟩⟩
        have sp := same_upd (o := .tup us) np
        exact q _ _ (s'.trans sp) (.tup upd_same (none_of s' np) (by omega) (hus.mono (fun b o h e => sp _ _ e) fun b o h _ => h.1))
theorem fresh_all {f : Addr} {fd : FuncData} (hf : mg "fresh" = some (.ref f)) (F : Fun K "fresh" "fresh" s_fresh f fd) (m_dict : mg "dict" = none) (m_isinstance : mg "isinstance" = none) (m_list : mg "list" = none) (m_tuple : mg "tuple" = none) :
    ∀ n, FnOk P w K mg base CX0 n f fd ["thing"] (sp_freshB n)
  | 0 => ⟨fun _ _ _ _ h => h.elim, fun _ _ _ _ _ _ _ _ _ _ _ _ _ h => h.elim⟩
  | n + 1 => fresh_step F m_dict m_isinstance m_list m_tuple (f_fresh := f) (fd_fresh := fd) ⟨fresh_all hf F m_dict m_isinstance m_list m_tuple n, hf, F.kp, F.binds (ps := ["thing"]) fun _ _ _ _ _ _ us hl => match us, hl with | [_], _ => rfl⟩
theorem ok_fresh {f : Addr} {fd : FuncData} (hf : mg "fresh" = some (.ref f)) (F : Fun K "fresh" "fresh" s_fresh f fd) (m_dict : mg "dict" = none) (m_isinstance : mg "isinstance" = none) (m_list : mg "list" = none) (m_tuple : mg "tuple" = none) : FnOk P w K mg base CX0 6 f fd ["thing"] (sp_fresh K) :=
  fresh_all hf F m_dict m_isinstance m_list m_tuple 6
end
end WK
namespace WK
open PySem PySem.Spec PyProof.Rows L2
abbrev s_NoBeat_init : Stmt := inClass (topS 17) 0
theorem sc_NoBeat_init : FnScope ["self", "name"] ["self", "name"] (defScope s_NoBeat_init) := ⟨rfl, rfl, rfl, by decide +kernel, rfl, by decide +kernel, by decide +kernel⟩
abbrev s_NoFlow_init : Stmt := inClass (topS 21) 0
theorem sc_NoFlow_init : FnScope ["self", "name"] ["self", "name"] (defScope s_NoFlow_init) := ⟨rfl, rfl, rfl, by decide +kernel, rfl, by decide +kernel, by decide +kernel⟩
abbrev s_NoName_init : Stmt := inClass (topS 24) 0
theorem sc_NoName_init : FnScope ["self", "name"] ["self", "name"] (defScope s_NoName_init) := ⟨rfl, rfl, rfl, by decide +kernel, rfl, by decide +kernel, by decide +kernel⟩
abbrev s_Twice_init : Stmt := inClass (topS 31) 0
theorem sc_Twice_init : FnScope ["self", "name"] ["self", "name"] (defScope s_Twice_init) := ⟨rfl, rfl, rfl, by decide +kernel, rfl, by decide +kernel, by decide +kernel⟩
abbrev s_NoBook_init : Stmt := inClass (topS 18) 0
theorem sc_NoBook_init : FnScope ["self", "wrong"] ["self", "wrong"] (defScope s_NoBook_init) := ⟨rfl, rfl, rfl, by decide +kernel, rfl, by decide +kernel, by decide +kernel⟩
abbrev s_NoLoop_init : Stmt := inClass (topS 22) 0
theorem sc_NoLoop_init : FnScope ["self", "wrong"] ["self", "wrong"] (defScope s_NoLoop_init) := ⟨rfl, rfl, rfl, by decide +kernel, rfl, by decide +kernel, by decide +kernel⟩
abbrev s_NoModule_init : Stmt := inClass (topS 23) 0
theorem sc_NoModule_init : FnScope ["self", "wrong"] ["self", "wrong"] (defScope s_NoModule_init) := ⟨rfl, rfl, rfl, by decide +kernel, rfl, by decide +kernel, by decide +kernel⟩
abbrev s_NoNet_init : Stmt := inClass (topS 25) 0
theorem sc_NoNet_init : FnScope ["self", "wrong"] ["self", "wrong"] (defScope s_NoNet_init) := ⟨rfl, rfl, rfl, by decide +kernel, rfl, by decide +kernel, by decide +kernel⟩
abbrev s_NoDeed_init : Stmt := inClass (topS 19) 0
theorem sc_NoDeed_init : FnScope ["self", "at"] ["self", "at"] (defScope s_NoDeed_init) := ⟨rfl, rfl, rfl, by decide +kernel, rfl, by decide +kernel, by decide +kernel⟩
abbrev s_NoState_init : Stmt := inClass (topS 28) 0
theorem sc_NoState_init : FnScope ["self", "at"] ["self", "at"] (defScope s_NoState_init) := ⟨rfl, rfl, rfl, by decide +kernel, rfl, by decide +kernel, by decide +kernel⟩
abbrev s_NoRoom_init : Stmt := inClass (topS 27) 0
theorem sc_NoRoom_init : FnScope ["self", "lane"] ["self", "lane"] (defScope s_NoRoom_init) := ⟨rfl, rfl, rfl, by decide +kernel, rfl, by decide +kernel, by decide +kernel⟩
abbrev s_Dry_init : Stmt := inClass (topS 16) 0
theorem sc_Dry_init : FnScope ["self", "lane"] ["self", "lane"] (defScope s_Dry_init) := ⟨rfl, rfl, rfl, by decide +kernel, rfl, by decide +kernel, by decide +kernel⟩
abbrev s_Over_init : Stmt := inClass (topS 30) 0
theorem sc_Over_init : FnScope ["self", "lane"] ["self", "lane"] (defScope s_Over_init) := ⟨rfl, rfl, rfl, by decide +kernel, rfl, by decide +kernel, by decide +kernel⟩
abbrev s_NoFace_init : Stmt := inClass (topS 20) 0
theorem sc_NoFace_init : FnScope ["self", "paper"] ["self", "paper"] (defScope s_NoFace_init) := ⟨rfl, rfl, rfl, by decide +kernel, rfl, by decide +kernel, by decide +kernel⟩
abbrev s_NoPlace_init : Stmt := inClass (topS 26) 0
theorem sc_NoPlace_init : FnScope ["self", "place"] ["self", "place"] (defScope s_NoPlace_init) := ⟨rfl, rfl, rfl, by decide +kernel, rfl, by decide +kernel, by decide +kernel⟩
abbrev s_NoText_init : Stmt := inClass (topS 29) 0
theorem sc_NoText_init : FnScope ["self", "row", "at"] ["self", "row", "at"] (defScope s_NoText_init) := ⟨rfl, rfl, rfl, by decide +kernel, rfl, by decide +kernel, by decide +kernel⟩
theorem kb_of {K : PySem.W.Frag} {fd : FuncData} {f : Str} (h : ∀ (s : Shared) (u z : Value), BindsTo s fd ⟨[u], [(f, z)]⟩ [("self", u), (f, z)]) : KBn K fd ([("self" : Str), f] : List Str) 1 [f] (fun us ws => us ++ ws.reverse) (fun vs zs => vs ++ zs.reverse) where
  to := fun s us ws _ h1 h2 => match us, ws, h1, h2 with
    | [u], [z], _, _ => h s u z
  rel := fun a b => a.append (Vals.rev b)
theorem kb2_of {K : PySem.W.Frag} {fd : FuncData} {f g : Str} (h : ∀ (s : Shared) (u y z : Value), BindsTo s fd ⟨[u], [(g, z), (f, y)]⟩ [("self", u), (f, y), (g, z)]) : KBn K fd ([("self" : Str), f, g] : List Str) 1 [g, f] (fun us ws => us ++ ws.reverse) (fun vs zs => vs ++ zs.reverse) where
  to := fun s us ws _ h1 h2 => match us, ws, h1, h2 with
    | [u], [z, y], _, _ => h s u y z
  rel := fun a b => a.append (Vals.rev b)
def sp_one (f : Str) (K : PySem.W.Frag) : Sp := fun vs H Q _ => ∃ (a C : Addr) (v : V) (d : PyData) (N : Addr → Prop), vs = [.ref a, v] ∧ OexC K C ∧ PySem.W.findIn K (.ref C) f = some none ∧ H a = some (exo a C none) ∧ DpN H N v d ∧ d.depth ≤ 5 ∧
  ∀ H1 u dd, Same H H1 → DpN H1 (fun b => H b = none) u d → H1 dd = none → dd ≠ a → Q .non (upd (upd H1 dd (exd dd [(f, u)])) a (exo a C (some dd)))
def sp_two (K : PySem.W.Frag) : Sp := fun vs H Q _ => ∃ (a C : Addr) (v1 v2 : V) (d1 d2 : PyData) (N : Addr → Prop), vs = [.ref a, v1, v2] ∧ OexC K C ∧ PySem.W.findIn K (.ref C) "row" = some none ∧ PySem.W.findIn K (.ref C) "at" = some none ∧ H a = some (exo a C none) ∧
  DpN H N v1 d1 ∧ d1.depth ≤ 5 ∧ DpN H N v2 d2 ∧ d2.depth ≤ 5 ∧ (∀ b, N b → b ≠ a) ∧
  ∀ H1 u1 H2 u2 dd, Same H H1 → DpN H1 (fun b => H b = none) u1 d1 → H1 dd = none → dd ≠ a → Same (upd (upd H1 dd (exd dd [("row", u1)])) a (exo a C (some dd))) H2 → DpN H2 (fun b => (upd (upd H1 dd (exd dd [("row", u1)])) a (exo a C (some dd))) b = none) u2 d2 →
    Q .non (upd H2 dd (exd dd [("at", u2), ("row", u1)]))
section
variable {P : Program} {w : World} {K : PySem.W.Frag} {mg : Str → Option Value} {base : Heap}
def sp_NoBeat_init (K : PySem.W.Frag) : Sp := sp_one "name" K
theorem ok_NoBeat_init {f : Addr} {fd : FuncData} (F : Fun K "__init__" "NoBeat.__init__" s_NoBeat_init f fd) {f_fresh : Addr} {fd_fresh : FuncData} (c_fresh : Cal P w K mg base CX0 6 f_fresh fd_fresh "fresh" ["thing"] (sp_fresh K)) : FnOk P w K mg base CX0 7 f fd ["self", "name"] (sp_NoBeat_init K) := by
  refine F.ok sc_NoBeat_init (fun vs H Q E h => ?_) (fun cdv A outer s H vs Q E hr h => ?_)
  · obtain ⟨_, _, _, _, _, rfl, _⟩ := h
    rfl
  · obtain ⟨a, C, v, d, N, rfl, T, hno, ha, hd, hn, q⟩ := h
    refine ⟨_, (pss_one (ps_ost (pv 0) (pe_call c_fresh.G (hr.mono (by decide)) (by rfl) c_fresh.g c_fresh.kp c_fresh.b .nil pass0 (pa_cons (pv 1) pa_nil)))), ?_⟩
    exact ⟨_, rfl, v, d, N, rfl, hd, hn, fun H1 u s1 hu => ⟨_, rfl, a, C, rfl, T, hno, .inl ⟨s1 _ _ ha, fun dd nd ne => q H1 u dd s1 hu nd ne⟩⟩⟩
def sp_NoFlow_init (K : PySem.W.Frag) : Sp := sp_one "name" K
theorem ok_NoFlow_init {f : Addr} {fd : FuncData} (F : Fun K "__init__" "NoFlow.__init__" s_NoFlow_init f fd) {f_fresh : Addr} {fd_fresh : FuncData} (c_fresh : Cal P w K mg base CX0 6 f_fresh fd_fresh "fresh" ["thing"] (sp_fresh K)) : FnOk P w K mg base CX0 7 f fd ["self", "name"] (sp_NoFlow_init K) := by
  refine F.ok sc_NoFlow_init (fun vs H Q E h => ?_) (fun cdv A outer s H vs Q E hr h => ?_)
  · obtain ⟨_, _, _, _, _, rfl, _⟩ := h
    rfl
  · obtain ⟨a, C, v, d, N, rfl, T, hno, ha, hd, hn, q⟩ := h
    refine ⟨_, (pss_one (ps_ost (pv 0) (pe_call c_fresh.G (hr.mono (by decide)) (by rfl) c_fresh.g c_fresh.kp c_fresh.b .nil pass0 (pa_cons (pv 1) pa_nil)))), ?_⟩
    exact ⟨_, rfl, v, d, N, rfl, hd, hn, fun H1 u s1 hu => ⟨_, rfl, a, C, rfl, T, hno, .inl ⟨s1 _ _ ha, fun dd nd ne => q H1 u dd s1 hu nd ne⟩⟩⟩
def sp_NoName_init (K : PySem.W.Frag) : Sp := sp_one "name" K
theorem ok_NoName_init {f : Addr} {fd : FuncData} (F : Fun K "__init__" "NoName.__init__" s_NoName_init f fd) {f_fresh : Addr} {fd_fresh : FuncData} (c_fresh : Cal P w K mg base CX0 6 f_fresh fd_fresh "fresh" ["thing"] (sp_fresh K)) : FnOk P w K mg base CX0 7 f fd ["self", "name"] (sp_NoName_init K) := by
  refine F.ok sc_NoName_init (fun vs H Q E h => ?_) (fun cdv A outer s H vs Q E hr h => ?_)
  · obtain ⟨_, _, _, _, _, rfl, _⟩ := h
    rfl
  · obtain ⟨a, C, v, d, N, rfl, T, hno, ha, hd, hn, q⟩ := h
    refine ⟨_, (pss_one (ps_ost (pv 0) (pe_call c_fresh.G (hr.mono (by decide)) (by rfl) c_fresh.g c_fresh.kp c_fresh.b .nil pass0 (pa_cons (pv 1) pa_nil)))), ?_⟩
    exact ⟨_, rfl, v, d, N, rfl, hd, hn, fun H1 u s1 hu => ⟨_, rfl, a, C, rfl, T, hno, .inl ⟨s1 _ _ ha, fun dd nd ne => q H1 u dd s1 hu nd ne⟩⟩⟩
def sp_Twice_init (K : PySem.W.Frag) : Sp := sp_one "name" K
theorem ok_Twice_init {f : Addr} {fd : FuncData} (F : Fun K "__init__" "Twice.__init__" s_Twice_init f fd) {f_fresh : Addr} {fd_fresh : FuncData} (c_fresh : Cal P w K mg base CX0 6 f_fresh fd_fresh "fresh" ["thing"] (sp_fresh K)) : FnOk P w K mg base CX0 7 f fd ["self", "name"] (sp_Twice_init K) := by
  refine F.ok sc_Twice_init (fun vs H Q E h => ?_) (fun cdv A outer s H vs Q E hr h => ?_)
  · obtain ⟨_, _, _, _, _, rfl, _⟩ := h
    rfl
  · obtain ⟨a, C, v, d, N, rfl, T, hno, ha, hd, hn, q⟩ := h
    refine ⟨_, (pss_one (ps_ost (pv 0) (pe_call c_fresh.G (hr.mono (by decide)) (by rfl) c_fresh.g c_fresh.kp c_fresh.b .nil pass0 (pa_cons (pv 1) pa_nil)))), ?_⟩
    exact ⟨_, rfl, v, d, N, rfl, hd, hn, fun H1 u s1 hu => ⟨_, rfl, a, C, rfl, T, hno, .inl ⟨s1 _ _ ha, fun dd nd ne => q H1 u dd s1 hu nd ne⟩⟩⟩
def sp_NoBook_init (K : PySem.W.Frag) : Sp := sp_one "wrong" K
theorem ok_NoBook_init {f : Addr} {fd : FuncData} (F : Fun K "__init__" "NoBook.__init__" s_NoBook_init f fd) {f_fresh : Addr} {fd_fresh : FuncData} (c_fresh : Cal P w K mg base CX0 6 f_fresh fd_fresh "fresh" ["thing"] (sp_fresh K)) : FnOk P w K mg base CX0 7 f fd ["self", "wrong"] (sp_NoBook_init K) := by
  refine F.ok sc_NoBook_init (fun vs H Q E h => ?_) (fun cdv A outer s H vs Q E hr h => ?_)
  · obtain ⟨_, _, _, _, _, rfl, _⟩ := h
    rfl
  · obtain ⟨a, C, v, d, N, rfl, T, hno, ha, hd, hn, q⟩ := h
    refine ⟨_, (pss_one (ps_ost (pv 0) (pe_call c_fresh.G (hr.mono (by decide)) (by rfl) c_fresh.g c_fresh.kp c_fresh.b .nil pass0 (pa_cons (pv 1) pa_nil)))), ?_⟩
    exact ⟨_, rfl, v, d, N, rfl, hd, hn, fun H1 u s1 hu => ⟨_, rfl, a, C, rfl, T, hno, .inl ⟨s1 _ _ ha, fun dd nd ne => q H1 u dd s1 hu nd ne⟩⟩⟩
def sp_NoLoop_init (K : PySem.W.Frag) : Sp := sp_one "wrong" K
theorem ok_NoLoop_init {f : Addr} {fd : FuncData} (F : Fun K "__init__" "NoLoop.__init__" s_NoLoop_init f fd) {f_fresh : Addr} {fd_fresh : FuncData} (c_fresh : Cal P w K mg base CX0 6 f_fresh fd_fresh "fresh" ["thing"] (sp_fresh K)) : FnOk P w K mg base CX0 7 f fd ["self", "wrong"] (sp_NoLoop_init K) := by
  refine F.ok sc_NoLoop_init (fun vs H Q E h => ?_) (fun cdv A outer s H vs Q E hr h => ?_)
  · obtain ⟨_, _, _, _, _, rfl, _⟩ := h
    rfl
  · obtain ⟨a, C, v, d, N, rfl, T, hno, ha, hd, hn, q⟩ := h
    refine ⟨_, (pss_one (ps_ost (pv 0) (pe_call c_fresh.G (hr.mono (by decide)) (by rfl) c_fresh.g c_fresh.kp c_fresh.b .nil pass0 (pa_cons (pv 1) pa_nil)))), ?_⟩
    exact ⟨_, rfl, v, d, N, rfl, hd, hn, fun H1 u s1 hu => ⟨_, rfl, a, C, rfl, T, hno, .inl ⟨s1 _ _ ha, fun dd nd ne => q H1 u dd s1 hu nd ne⟩⟩⟩
def sp_NoModule_init (K : PySem.W.Frag) : Sp := sp_one "wrong" K
theorem ok_NoModule_init {f : Addr} {fd : FuncData} (F : Fun K "__init__" "NoModule.__init__" s_NoModule_init f fd) {f_fresh : Addr} {fd_fresh : FuncData} (c_fresh : Cal P w K mg base CX0 6 f_fresh fd_fresh "fresh" ["thing"] (sp_fresh K)) : FnOk P w K mg base CX0 7 f fd ["self", "wrong"] (sp_NoModule_init K) := by
  refine F.ok sc_NoModule_init (fun vs H Q E h => ?_) (fun cdv A outer s H vs Q E hr h => ?_)
  · obtain ⟨_, _, _, _, _, rfl, _⟩ := h
    rfl
  · obtain ⟨a, C, v, d, N, rfl, T, hno, ha, hd, hn, q⟩ := h
    refine ⟨_, (pss_one (ps_ost (pv 0) (pe_call c_fresh.G (hr.mono (by decide)) (by rfl) c_fresh.g c_fresh.kp c_fresh.b .nil pass0 (pa_cons (pv 1) pa_nil)))), ?_⟩
    exact ⟨_, rfl, v, d, N, rfl, hd, hn, fun H1 u s1 hu => ⟨_, rfl, a, C, rfl, T, hno, .inl ⟨s1 _ _ ha, fun dd nd ne => q H1 u dd s1 hu nd ne⟩⟩⟩
def sp_NoNet_init (K : PySem.W.Frag) : Sp := sp_one "wrong" K
theorem ok_NoNet_init {f : Addr} {fd : FuncData} (F : Fun K "__init__" "NoNet.__init__" s_NoNet_init f fd) {f_fresh : Addr} {fd_fresh : FuncData} (c_fresh : Cal P w K mg base CX0 6 f_fresh fd_fresh "fresh" ["thing"] (sp_fresh K)) : FnOk P w K mg base CX0 7 f fd ["self", "wrong"] (sp_NoNet_init K) := by
  refine F.ok sc_NoNet_init (fun vs H Q E h => ?_) (fun cdv A outer s H vs Q E hr h => ?_)
  · obtain ⟨_, _, _, _, _, rfl, _⟩ := h
    rfl
  · obtain ⟨a, C, v, d, N, rfl, T, hno, ha, hd, hn, q⟩ := h
    refine ⟨_, (pss_one (ps_ost (pv 0) (pe_call c_fresh.G (hr.mono (by decide)) (by rfl) c_fresh.g c_fresh.kp c_fresh.b .nil pass0 (pa_cons (pv 1) pa_nil)))), ?_⟩
    exact ⟨_, rfl, v, d, N, rfl, hd, hn, fun H1 u s1 hu => ⟨_, rfl, a, C, rfl, T, hno, .inl ⟨s1 _ _ ha, fun dd nd ne => q H1 u dd s1 hu nd ne⟩⟩⟩
def sp_NoDeed_init (K : PySem.W.Frag) : Sp := sp_one "at" K
theorem ok_NoDeed_init {f : Addr} {fd : FuncData} (F : Fun K "__init__" "NoDeed.__init__" s_NoDeed_init f fd) {f_fresh : Addr} {fd_fresh : FuncData} (c_fresh : Cal P w K mg base CX0 6 f_fresh fd_fresh "fresh" ["thing"] (sp_fresh K)) : FnOk P w K mg base CX0 7 f fd ["self", "at"] (sp_NoDeed_init K) := by
  refine F.ok sc_NoDeed_init (fun vs H Q E h => ?_) (fun cdv A outer s H vs Q E hr h => ?_)
  · obtain ⟨_, _, _, _, _, rfl, _⟩ := h
    rfl
  · obtain ⟨a, C, v, d, N, rfl, T, hno, ha, hd, hn, q⟩ := h
    refine ⟨_, (pss_one (ps_ost (pv 0) (pe_call c_fresh.G (hr.mono (by decide)) (by rfl) c_fresh.g c_fresh.kp c_fresh.b .nil pass0 (pa_cons (pv 1) pa_nil)))), ?_⟩
    exact ⟨_, rfl, v, d, N, rfl, hd, hn, fun H1 u s1 hu => ⟨_, rfl, a, C, rfl, T, hno, .inl ⟨s1 _ _ ha, fun dd nd ne => q H1 u dd s1 hu nd ne⟩⟩⟩
def sp_NoState_init (K : PySem.W.Frag) : Sp := sp_one "at" K
theorem ok_NoState_init {f : Addr} {fd : FuncData} (F : Fun K "__init__" "NoState.__init__" s_NoState_init f fd) {f_fresh : Addr} {fd_fresh : FuncData} (c_fresh : Cal P w K mg base CX0 6 f_fresh fd_fresh "fresh" ["thing"] (sp_fresh K)) : FnOk P w K mg base CX0 7 f fd ["self", "at"] (sp_NoState_init K) := by
  refine F.ok sc_NoState_init (fun vs H Q E h => ?_) (fun cdv A outer s H vs Q E hr h => ?_)
  · obtain ⟨_, _, _, _, _, rfl, _⟩ := h
    rfl
  · obtain ⟨a, C, v, d, N, rfl, T, hno, ha, hd, hn, q⟩ := h
    refine ⟨_, (pss_one (ps_ost (pv 0) (pe_call c_fresh.G (hr.mono (by decide)) (by rfl) c_fresh.g c_fresh.kp c_fresh.b .nil pass0 (pa_cons (pv 1) pa_nil)))), ?_⟩
    exact ⟨_, rfl, v, d, N, rfl, hd, hn, fun H1 u s1 hu => ⟨_, rfl, a, C, rfl, T, hno, .inl ⟨s1 _ _ ha, fun dd nd ne => q H1 u dd s1 hu nd ne⟩⟩⟩
def sp_NoRoom_init (K : PySem.W.Frag) : Sp := sp_one "lane" K
theorem ok_NoRoom_init {f : Addr} {fd : FuncData} (F : Fun K "__init__" "NoRoom.__init__" s_NoRoom_init f fd) {f_fresh : Addr} {fd_fresh : FuncData} (c_fresh : Cal P w K mg base CX0 6 f_fresh fd_fresh "fresh" ["thing"] (sp_fresh K)) : FnOk P w K mg base CX0 7 f fd ["self", "lane"] (sp_NoRoom_init K) := by
  refine F.ok sc_NoRoom_init (fun vs H Q E h => ?_) (fun cdv A outer s H vs Q E hr h => ?_)
  · obtain ⟨_, _, _, _, _, rfl, _⟩ := h
    rfl
  · obtain ⟨a, C, v, d, N, rfl, T, hno, ha, hd, hn, q⟩ := h
    refine ⟨_, (pss_one (ps_ost (pv 0) (pe_call c_fresh.G (hr.mono (by decide)) (by rfl) c_fresh.g c_fresh.kp c_fresh.b .nil pass0 (pa_cons (pv 1) pa_nil)))), ?_⟩
    exact ⟨_, rfl, v, d, N, rfl, hd, hn, fun H1 u s1 hu => ⟨_, rfl, a, C, rfl, T, hno, .inl ⟨s1 _ _ ha, fun dd nd ne => q H1 u dd s1 hu nd ne⟩⟩⟩
def sp_Dry_init (K : PySem.W.Frag) : Sp := sp_one "lane" K
theorem ok_Dry_init {f : Addr} {fd : FuncData} (F : Fun K "__init__" "Dry.__init__" s_Dry_init f fd) {f_fresh : Addr} {fd_fresh : FuncData} (c_fresh : Cal P w K mg base CX0 6 f_fresh fd_fresh "fresh" ["thing"] (sp_fresh K)) : FnOk P w K mg base CX0 7 f fd ["self", "lane"] (sp_Dry_init K) := by
  refine F.ok sc_Dry_init (fun vs H Q E h => ?_) (fun cdv A outer s H vs Q E hr h => ?_)
  · obtain ⟨_, _, _, _, _, rfl, _⟩ := h
    rfl
  · obtain ⟨a, C, v, d, N, rfl, T, hno, ha, hd, hn, q⟩ := h
    refine ⟨_, (pss_one (ps_ost (pv 0) (pe_call c_fresh.G (hr.mono (by decide)) (by rfl) c_fresh.g c_fresh.kp c_fresh.b .nil pass0 (pa_cons (pv 1) pa_nil)))), ?_⟩
    exact ⟨_, rfl, v, d, N, rfl, hd, hn, fun H1 u s1 hu => ⟨_, rfl, a, C, rfl, T, hno, .inl ⟨s1 _ _ ha, fun dd nd ne => q H1 u dd s1 hu nd ne⟩⟩⟩
def sp_Over_init (K : PySem.W.Frag) : Sp := sp_one "lane" K
theorem ok_Over_init {f : Addr} {fd : FuncData} (F : Fun K "__init__" "Over.__init__" s_Over_init f fd) {f_fresh : Addr} {fd_fresh : FuncData} (c_fresh : Cal P w K mg base CX0 6 f_fresh fd_fresh "fresh" ["thing"] (sp_fresh K)) : FnOk P w K mg base CX0 7 f fd ["self", "lane"] (sp_Over_init K) := by
  refine F.ok sc_Over_init (fun vs H Q E h => ?_) (fun cdv A outer s H vs Q E hr h => ?_)
  · obtain ⟨_, _, _, _, _, rfl, _⟩ := h
    rfl
  · obtain ⟨a, C, v, d, N, rfl, T, hno, ha, hd, hn, q⟩ := h
    refine ⟨_, (pss_one (ps_ost (pv 0) (pe_call c_fresh.G (hr.mono (by decide)) (by rfl) c_fresh.g c_fresh.kp c_fresh.b .nil pass0 (pa_cons (pv 1) pa_nil)))), ?_⟩
    exact ⟨_, rfl, v, d, N, rfl, hd, hn, fun H1 u s1 hu => ⟨_, rfl, a, C, rfl, T, hno, .inl ⟨s1 _ _ ha, fun dd nd ne => q H1 u dd s1 hu nd ne⟩⟩⟩
def sp_NoFace_init (K : PySem.W.Frag) : Sp := sp_one "paper" K
theorem ok_NoFace_init {f : Addr} {fd : FuncData} (F : Fun K "__init__" "NoFace.__init__" s_NoFace_init f fd) {f_fresh : Addr} {fd_fresh : FuncData} (c_fresh : Cal P w K mg base CX0 6 f_fresh fd_fresh "fresh" ["thing"] (sp_fresh K)) : FnOk P w K mg base CX0 7 f fd ["self", "paper"] (sp_NoFace_init K) := by
  refine F.ok sc_NoFace_init (fun vs H Q E h => ?_) (fun cdv A outer s H vs Q E hr h => ?_)
  · obtain ⟨_, _, _, _, _, rfl, _⟩ := h
    rfl
  · obtain ⟨a, C, v, d, N, rfl, T, hno, ha, hd, hn, q⟩ := h
    refine ⟨_, (pss_one (ps_ost (pv 0) (pe_call c_fresh.G (hr.mono (by decide)) (by rfl) c_fresh.g c_fresh.kp c_fresh.b .nil pass0 (pa_cons (pv 1) pa_nil)))), ?_⟩
    exact ⟨_, rfl, v, d, N, rfl, hd, hn, fun H1 u s1 hu => ⟨_, rfl, a, C, rfl, T, hno, .inl ⟨s1 _ _ ha, fun dd nd ne => q H1 u dd s1 hu nd ne⟩⟩⟩
def sp_NoPlace_init (K : PySem.W.Frag) : Sp := sp_one "place" K
theorem ok_NoPlace_init {f : Addr} {fd : FuncData} (F : Fun K "__init__" "NoPlace.__init__" s_NoPlace_init f fd) {f_fresh : Addr} {fd_fresh : FuncData} (c_fresh : Cal P w K mg base CX0 6 f_fresh fd_fresh "fresh" ["thing"] (sp_fresh K)) : FnOk P w K mg base CX0 7 f fd ["self", "place"] (sp_NoPlace_init K) := by
  refine F.ok sc_NoPlace_init (fun vs H Q E h => ?_) (fun cdv A outer s H vs Q E hr h => ?_)
  · obtain ⟨_, _, _, _, _, rfl, _⟩ := h
    rfl
  · obtain ⟨a, C, v, d, N, rfl, T, hno, ha, hd, hn, q⟩ := h
    refine ⟨_, (pss_one (ps_ost (pv 0) (pe_call c_fresh.G (hr.mono (by decide)) (by rfl) c_fresh.g c_fresh.kp c_fresh.b .nil pass0 (pa_cons (pv 1) pa_nil)))), ?_⟩
    exact ⟨_, rfl, v, d, N, rfl, hd, hn, fun H1 u s1 hu => ⟨_, rfl, a, C, rfl, T, hno, .inl ⟨s1 _ _ ha, fun dd nd ne => q H1 u dd s1 hu nd ne⟩⟩⟩
def sp_NoText_init (K : PySem.W.Frag) : Sp := sp_two K
theorem ok_NoText_init {f : Addr} {fd : FuncData} (F : Fun K "__init__" "NoText.__init__" s_NoText_init f fd) {f_fresh : Addr} {fd_fresh : FuncData} (c_fresh : Cal P w K mg base CX0 6 f_fresh fd_fresh "fresh" ["thing"] (sp_fresh K)) : FnOk P w K mg base CX0 7 f fd ["self", "row", "at"] (sp_NoText_init K) := by
  refine F.ok sc_NoText_init (fun vs H Q E h => ?_) (fun cdv A outer s H vs Q E hr h => ?_)
  · obtain ⟨_, _, _, _, _, _, _, rfl, _⟩ := h
    rfl
  · obtain ⟨a, C, v1, v2, d1, d2, N, rfl, T, hno, hno2, ha, hd1, hn1, hd2, hn2, hN, q⟩ := h
    refine ⟨_, (pss_cons (ps_ost (pv 0) (pe_call c_fresh.G (hr.mono (by decide)) (by rfl) c_fresh.g c_fresh.kp c_fresh.b .nil pass0 (pa_cons (pv 1) pa_nil)))
      (pss_one (ps_ost (pv 0) (pe_call c_fresh.G (hr.mono (by decide)) (by rfl) c_fresh.g c_fresh.kp c_fresh.b .nil pass0 (pa_cons (pv 2) pa_nil))))), ?_⟩
    refine ⟨_, rfl, v1, d1, N, rfl, hd1, hn1, fun H1 u1 s1 hu => ⟨_, rfl, a, C, rfl, T, hno, .inl ⟨s1 _ _ ha, fun dd nd ne => ?_⟩⟩⟩
    refine ⟨_, rfl, v2, d2, N, rfl, hd2.mono (fun b o nb e => ?_) (fun b o h _ => h), hn2, fun H2 u2 s2 hu2 => ⟨_, rfl, a, C, rfl, T, hno2, .inr ⟨dd, [("row", u1)], s2 _ _ upd_same, s2 _ _ ?_, by show 1 ≤ 900; decide, ?_⟩⟩⟩
    · have e1 := s1 _ _ e
      rw [upd_ne (hN b nb), upd_ne (fun z => by rw [z, nd] at e1; cases e1)]
      exact e1
    · rw [upd_ne ne, upd_same]
    · exact q H1 u1 H2 u2 dd s1 hu nd ne s2 hu2
end
end WK
namespace WK
open PySem PySem.Spec PyProof.Rows L2
abbrev s_law_purse : Stmt := topS 33
theorem sc_law_purse : FnScope ["_law_script", "_law_cells", "_law_cell"] ["_law_script"] (defScope s_law_purse) := ⟨rfl, rfl, rfl, by decide +kernel, rfl, by decide +kernel, by decide +kernel⟩
/-! ### how long the text of a thing is -/
mutual
def cost : PyData → Nat
  | .int _ => 32
  | .str x => 10 * x.length + 4
  | .list ds | .tuple ds => costs ds + 5
  | .none | .bool _ | .dict _ => 0
def costs : List PyData → Nat
  | [] => 0
  | d :: ds => cost d + 2 + costs ds
end
mutual
def fine : PyData → Bool
  | .int i => decide (i.natAbs < 10 ^ 30)
  | .str x => x.cps.all fun c => decide (c < 0x110000)
  | .list ds | .tuple ds => fines ds
  | .none | .bool _ | .dict _ => false
def fines : List PyData → Bool
  | [] => true
  | d :: ds => fine d && fines ds
end
theorem str_fine {x : Str} (h : (x.cps.all fun c => decide (c < 0x110000)) = true) : ∀ c ∈ x.cps.toList, c < 16 ^ 8 := by
  intro c hc
  have h2 := Array.all_eq_true_iff_forall_mem.mp h c (Array.mem_toList_iff.mp hc)
  exact Nat.lt_of_lt_of_le (of_decide_eq_true h2) (by decide)
theorem list_text (ts : List Str) : (listText ts).length ≤ piled ts + 2 := by
  rw [listText_eq_join]
  have e1 : ((("[" : String) : Str)).length = 1 := rfl
  have e2 : ((("]" : String) : Str)).length = 1 := rfl
  rw [strLen_append, strLen_append, e1, e2]
  by_cases h : ts = []
  · subst h
    decide +kernel
  · have := join_length_add ts h
    omega
mutual
theorem shown_len : ∀ d : PyData, fine d = true → d.shown.length ≤ cost d
  | .int i, h => by
    simp only [fine] at h
    have := int_text_length_le10 (a := i) (k := 30) (by decide) (of_decide_eq_true h)
    simp only [PyData.shown, cost]
    rw [PySem.ofString_length]
    omega
  | .str x, h => by
    simp only [fine] at h
    simp only [PyData.shown, cost]
    exact Nat.le_trans (StrLaws.reprText_len x (str_fine h)) (by omega)
  | .list ds, h => by
    simp only [fine] at h
    simp only [PyData.shown, cost]
    have := list_text (PyData.shownAll ds)
    have := shown_lens ds h
    omega
  | .tuple ds, h => by
    simp only [fine] at h
    simp only [PyData.shown, cost]
    have := fmt_text (PyData.shownAll ds)
    have := shown_lens ds h
    omega
  | .none, h => by simp [fine] at h
  | .bool _, h => by simp [fine] at h
  | .dict _, h => by simp [fine] at h
theorem shown_lens : ∀ ds : List PyData, fines ds = true → piled (PyData.shownAll ds) ≤ costs ds
  | [], _ => by
    simp only [PyData.shownAll, costs]
    decide
  | d :: ds, h => by
    simp only [fines, Bool.and_eq_true] at h
    have h1 := shown_len d h.1
    have h2 := shown_lens ds h.2
    simp only [PyData.shownAll, costs]
    rw [piled_cons]
    omega
end
mutual
theorem fine_lay : ∀ d : PyData, fine d = true → d.canLay0 = true ∧ d.showable = true
  | .int i, h => by
    simp only [fine] at h
    simp only [PyData.canLay0, PyData.showable]
    refine ⟨trivial, decide_eq_true (PySem.Flt.log2_lt_of (by decide) (Nat.lt_trans (of_decide_eq_true h) ?_))⟩
    exact Nat.lt_of_lt_of_le (by decide : (10 : Nat) ^ 30 < 2 ^ 100) (Nat.pow_le_pow_right (by decide) (by decide))
  | .str x, h => by
    simp only [fine] at h
    simp only [PyData.canLay0, PyData.showable]
    exact ⟨h, trivial⟩
  | .list ds, h => by
    simp only [fine] at h
    simp only [PyData.canLay0, PyData.showable]
    exact fines_lay ds h
  | .tuple ds, h => by
    simp only [fine] at h
    simp only [PyData.canLay0, PyData.showable]
    exact fines_lay ds h
  | .none, h => by simp [fine] at h
  | .bool _, h => by simp [fine] at h
  | .dict _, h => by simp [fine] at h
theorem fines_lay : ∀ ds : List PyData, fines ds = true → PyData.canLayAll0 ds = true ∧ PyData.showableAll ds = true
  | [], _ => by simp only [PyData.canLayAll0, PyData.showableAll]; exact ⟨trivial, trivial⟩
  | d :: ds, h => by
    simp only [fines, Bool.and_eq_true] at h
    have h1 := fine_lay d h.1
    have h2 := fines_lay ds h.2
    simp only [PyData.canLayAll0, PyData.showableAll, Bool.and_eq_true]
    exact ⟨⟨h1.1, h2.1⟩, h1.2, h2.2⟩
end
theorem nats_lay : ∀ l : List Nat, PyData.canLayAll0 (l.map fun n : Nat => PyData.int (n : Int)) = true
  | [] => by simp [PyData.canLayAll0]
  | b :: l => by rw [List.map_cons]; simp [PyData.canLayAll0, PyData.canLay0, nats_lay l]
theorem nats_depth : ∀ l : List Nat, PyData.depthAll (l.map fun n : Nat => PyData.int (n : Int)) = 0
  | [] => by simp [PyData.depthAll]
  | b :: l => by rw [List.map_cons]; simp [PyData.depthAll, PyData.depth, nats_depth l]
theorem shaped_nats (l : List Nat) : SeqAt.shaped (.list (l.map fun n : Nat => PyData.int (n : Int))) = true := by
  unfold SeqAt.shaped
  have e1 : (PyData.list (l.map fun n : Nat => PyData.int (n : Int))).canLay0 = true := by
    simp [PyData.canLay0, nats_lay l]
  rw [e1]
  simp [PyData.depth, nats_depth l]
theorem dp_nats {K : PySem.W.Frag} {H : Hp} : ∀ l : List Nat, DpAll K H (l.map nV) (l.map fun n : Nat => PyData.int (n : Int))
  | [] => .nil
  | b :: l => .cons (.int _) (dp_nats l)
/-! ### the purse -/
structure PurseAt (H : Hp) (p c : Addr) (cells : List Nat) (went : Nat) : Prop where
  hp : H p = some (.lst [.ref c, nV went])
  hc : H c = some (.lst (cells.map nV))
  ne : p ≠ c
  pos : 0 < cells.length
  le : cells.length ≤ 63
section
variable {P : Program} {w : World} {K : PySem.W.Frag} {mg : Str → Option Value} {base : Heap}
def sp_law_purse (K : PySem.W.Frag) : Sp := fun vs H Q _ => ∃ (a : Addr) (ns : List Int), vs = [.ref a] ∧ SqL K H a (ns.map V.int) ∧ ns.length ≤ 63 ∧ ∀ H' p c cells, Same H H' → PurseAt H' p c cells 0 → Q (.ref p) H'
theorem ok_law_purse {f : Addr} {fd : FuncData} (F : Fun K "_law_purse" "_law_purse" s_law_purse f fd) : FnOk P w K mg base CX0 1 f fd ["_law_script"] (sp_law_purse K) := by
  refine F.ok sc_law_purse (fun vs H Q E h => ?_) (fun cdv A outer s H vs Q E hr h => ?_)
  · obtain ⟨_, _, rfl, _⟩ := h
    rfl
  · obtain ⟨a, ns, rfl, hS, hl, q⟩ := h
    have hz := szl
    refine ⟨_, (pss_cons (ps_setLc (i := 1) (own := [("_law_cell", 2)]) (g := gName 2) (by rfl) sc_law_purse.nd rfl rfl (sw_true rfl rfl rfl (by decide +kernel)) (pi_list (pe_slice sl_list (pv 0) po_none (po_some pe_int))) (blkOk_by (N := ["_law_script", "_law_cells", "_law_cell"]) (sc := defScope s_law_purse) (by decide +kernel)) (fun _ _ _ _ _ => pg_name (i := 2) sc_law_purse.nd rfl (Or.inl rfl)) (fun _ _ _ _ _ => pts_nil) (fun _ _ _ _ _ => (pe_op op_mod (pv 2) (pe_op op_powB (pe_op op_powB pe_int pe_int) pe_int))))
      (C8.pss_cut (ps_if (pt_cmpR (op_eqD hr.units) (pv 1) (pe_lst pa_nil) (nomark _))
        (pss_one (ps_set (i := 1) sc_law_purse.nd rfl (Or.inl rfl) (pe_lst (pa_cons pe_int pa_nil))))
        pss_nil)
      (pss_one (ps_ret (pe_lst (pa_cons (pv 1) (pa_cons pe_int pa_nil))))))), ?_⟩
    have ecut : cutV (ns.map V.int) none (some (63 : Int)) = ns.map V.int := by
      show List.take _ (List.drop _ _) = _
      rw [show (63 : Int) = ((63 : Nat) : Int) from rfl, HT.sIx_nat, HT.sIx_none, List.drop_zero, Nat.sub_zero, List.length_map, Nat.min_eq_right (by omega), List.take_of_length_le (by rw [List.length_map]; omega)]
    refine ⟨_, rfl, _, rfl, a, _, rfl, hS, fun c nc => ?_⟩
    rw [ecut]
    have sc := same_upd (o := .lst (ns.map V.int)) nc
    have hc := at_upd (o := .lst (ns.map V.int)) nc
    generalize (upd H c (.lst (ns.map V.int))) = H1 at *
    refine ⟨c, rfl, ⟨_, SqL.of hc⟩, fun D nD => ?_⟩
    have ncD : c ≠ D := ne_of_none hc nD
    refine lc_list (K := K) (a := c) (xs := ns.map V.int) (fun i H' => ∃ cs : List Nat, H' = upd H1 D (.lst (cs.map nV)) ∧ cs.length = i) ⟨[], rfl, rfl⟩ (fun i H' _ hP => ?_) (fun i x H' hx hP => ?_) (fun H' hP => ?_)
    · obtain ⟨cs, rfl, _⟩ := hP
      refine SqL.of ?_
      rw [upd_ne ncD]
      exact hc
    · obtain ⟨cs, rfl, hl2⟩ := hP
      have hi : i < ns.length := by
        have := (List.getElem?_eq_some_iff.mp hx).1
        rw [List.length_map] at this
        exact this
      obtain ⟨z, _, rfl⟩ := List.mem_map.mp (List.mem_of_getElem? hx)
      have pos : (0 : Int) < ((10 : Int) ^ (60 : Int).toNat) ^ (60 : Int).toNat := by decide +kernel
      refine ⟨rfl, lc_yes ?_⟩
      rw [if_pos rfl]
      refine ⟨_, rfl, _, _, rfl, rfl, ⟨by decide, by decide +kernel⟩, _, _, rfl, rfl, ⟨by decide, by decide +kernel⟩, _, _, rfl, rfl, pos, _, upd_same, by rw [List.length_map]; omega, ?_⟩
      obtain ⟨m, hm⟩ : ∃ m : Nat, z % (((10 : Int) ^ (60 : Int).toNat) ^ (60 : Int).toNat) = (m : Int) := ⟨(z % (((10 : Int) ^ (60 : Int).toNat) ^ (60 : Int).toNat)).toNat, (Int.toNat_of_nonneg (Int.emod_nonneg _ (Int.ne_of_gt pos))).symm⟩
      refine ⟨cs ++ [m], ?_, by rw [List.length_append, hl2]; rfl⟩
      rw [upd_upd, List.map_append]
      show upd H1 D (.lst (_ ++ [V.int (z % (((10 : Int) ^ (60 : Int).toNat) ^ (60 : Int).toNat))])) = _
      rw [hm]
      rfl
    obtain ⟨cs, rfl, hlen⟩ := hP
    rw [List.length_map] at hlen
    have sD := same_upd (o := .lst (cs.map nV)) nD
    have hD := at_upd (o := .lst (cs.map nV)) nD
    have s1 := sc.trans sD
    generalize (upd H1 D (.lst (cs.map nV))) = H2 at *
    refine ⟨fun σ H' => Same H H' ∧ ∃ D' cs', H' D' = some (.lst (List.map nV cs')) ∧ 0 < cs'.length ∧ cs'.length ≤ 63 ∧ σ = [some (.ref a), some (.ref D'), none], ?_, fun σ H3 hm => ?_⟩
    · refine ⟨_, rfl, by show 0 ≤ sizeLine; decide, fun e ne => ?_⟩
      have se := same_upd (o := .lst []) ne
      by_cases h0 : cs = []
      · subst h0
        refine ⟨.list [], .list [], .lst (SqL.of (se _ _ hD)) .nil, .lst (SqL.of upd_same) .nil, by decide +kernel, by decide +kernel, true, rfl, iteT ?_⟩
        refine ⟨by show 1 ≤ sizeLine; decide, fun g ng => ?_⟩
        exact ⟨s1.trans (se.trans (same_upd ng)), g, [0], at_upd ng, by decide, by decide, rfl⟩
      · refine ⟨.list (cs.map fun n : Nat => PyData.int (n : Int)), .list [], .lst (SqL.of (se _ _ hD)) (dp_nats cs), .lst (SqL.of upd_same) .nil, shaped_nats cs, by decide +kernel, false, ?_, iteF ?_⟩
        · cases cs with
          | nil => exact absurd rfl h0
          | cons x r => rw [List.map_cons]; simp [PyData.eqv, PyData.eqvAll]
        · exact ⟨s1.trans se, D, cs, se _ _ hD, List.length_pos_iff.mpr h0, by omega, rfl⟩
    obtain ⟨s3, D', cs', hD', h1, h2, rfl⟩ := hm
    refine ⟨_, rfl, by show 2 ≤ sizeLine; decide, fun p np => ?_⟩
    have sp := same_upd (o := .lst [.ref D', .int 0]) np
    exact q _ p D' cs' (s3.trans sp) ⟨at_upd np, sp _ _ hD', (ne_of_none hD' np).symm, h1, h2⟩
end
end WK
namespace WK
open PySem PySem.Spec PyProof.Rows L2
abbrev s_law_draw : Stmt := topS 34
theorem sc_law_draw : FnScope ["_law_purse_here", "_law_out_of", "_law_cells", "_law_went", "_law_where", "_law_cell", "_law_number", "_law_other"] ["_law_purse_here", "_law_out_of"] (defScope s_law_draw) := ⟨rfl, rfl, rfl, by decide +kernel, rfl, by decide +kernel, by decide +kernel⟩
def SB2 (p c : Addr) (H H' : Hp) : Prop := Keeps (fun b => b ≠ p ∧ b ≠ c) H H'
theorem SB2.refl {p c : Addr} {H : Hp} : SB2 p c H H := fun _ _ _ h => h
theorem SB2.of {p c : Addr} {H H' : Hp} (s : Same H H') : SB2 p c H H' := fun b o _ h => s b o h
theorem SB2.trans {p c : Addr} {H1 H2 H3 : Hp} (a : SB2 p c H1 H2) (b : SB2 p c H2 H3) : SB2 p c H1 H3 := fun x o n h => b x o n (a x o n h)
theorem SB2.upd1 {p c : Addr} {H : Hp} {o : HO} : SB2 p c H (upd H p o) := fun b u n h => by
  rw [upd_ne n.1]
  exact h
theorem SB2.upd2 {p c : Addr} {H : Hp} {o : HO} : SB2 p c H (upd H c o) := fun b u n h => by
  rw [upd_ne n.2]
  exact h
theorem PurseAt.mono {H H' : Hp} {p c : Addr} {cells : List Nat} {went : Nat} (s : Same H H') (h : PurseAt H p c cells went) : PurseAt H' p c cells went := ⟨s _ _ h.hp, s _ _ h.hc, h.ne, h.pos, h.le⟩
theorem nV_at {ds : List Nat} {i : Nat} (h : i < ds.length) : (ds.map nV)[i]? = some (nV (ds.getD i 0)) := by
  rw [List.getElem?_map, List.getElem?_eq_getElem h, List.getD_eq_getElem?_getD, List.getElem?_eq_getElem h]
  rfl
theorem set_map (l : List Nat) (i n : Nat) : (l.map nV).set i (nV n) = (l.set i n).map nV := (List.map_set ..).symm
theorem mod_bd (i : Int) {m : Int} (h : 0 < m) : 0 ≤ i % m ∧ i % m < m := ⟨Int.emod_nonneg i (Int.ne_of_gt h), Int.emod_lt_of_pos i h⟩
section
variable {P : Program} {w : World} {K : PySem.W.Frag} {mg : Str → Option Value} {base : Heap}
def sp_law_draw (K : PySem.W.Frag) : Sp := fun vs H Q _ => ∃ (p c : Addr) (cells : List Nat) (went o : Nat), vs = [.ref p, nV o] ∧ PurseAt H p c cells went ∧ went ≤ 5000 ∧ 0 < o ∧ o ≤ 10 ^ 30 ∧
  ∀ H' cells' r, SB2 p c H H' → PurseAt H' p c cells' (went + 1) → r < o → Q (nV r) H'
theorem ok_law_draw {f : Addr} {fd : FuncData} (F : Fun K "_law_draw" "_law_draw" s_law_draw f fd) (m_len : mg "len" = none) : FnOk P w K mg base CX0 1 f fd ["_law_purse_here", "_law_out_of"] (sp_law_draw K) := by
  refine F.ok sc_law_draw (fun vs H Q E h => ?_) (fun cdv A outer s H vs Q E hr h => ?_)
  · obtain ⟨_, _, _, _, _, rfl, _⟩ := h
    rfl
  · obtain ⟨p, c, cells, went, o, rfl, hP, hw, o1, o2, q⟩ := h
    have hz := szl
    refine ⟨_, (pss_cons (ps_asg (pv 0) (pg_lst (by rfl) (pgs_cons (pg_name (i := 2) sc_law_draw.nd rfl (Or.inl rfl)) (pgs_cons (pg_name (i := 3) sc_law_draw.nd rfl (Or.inl rfl)) pgs_nil))))
      (pss_cons (ps_set (i := 4) sc_law_draw.nd rfl (Or.inl rfl) (pe_op op_mod (pv 3) (pe_callB call_len_seq (by rfl) m_len PySem.boot_len (pa_cons (pv 2) pa_nil))))
      (pss_cons (ps_set (i := 5) sc_law_draw.nd rfl (Or.inl rfl) (pe_ix ix_list (pv 2) (pv 4) (fun _ _ => rfl)))
      (pss_cons (ps_asg (pe_op op_add (pv 3) pe_int) (pg_sub (pv 0) pe_int set_list))
      (pss_cons (ps_if (pt_cmpR op_ge (pv 5) (pe_op op_powB pe_int pe_int) (nomark _))
        (pss_cons (ps_asg (pe_op op_fdivW (pv 5) (pv 1)) (pg_sub (pv 2) (pv 4) set_list))
        (pss_one (ps_ret (pe_op op_mod (pv 5) (pv 1)))))
        pss_nil)
      (pss_cons (ps_set (i := 6) sc_law_draw.nd rfl (Or.inl rfl) (pe_op op_mod (pe_op op_add (pe_op op_add (pe_op op_mul (pe_op op_mod (pv 5) pe_int) pe_int) (pe_op op_mul (pe_op op_mul (pv 3) (pv 3)) pe_int)) pe_int) pe_int))
      (pss_cons (ps_set (i := 6) sc_law_draw.nd rfl (Or.inl rfl) (pe_op op_mod (pe_op op_mul (pv 6) (pv 6)) pe_int))
      (pss_cons (ps_set (i := 6) sc_law_draw.nd rfl (Or.inl rfl) (pe_op op_mod (pe_op op_mul (pv 6) (pv 6)) pe_int))
      (C8.pss_cut (ps_if (pt_cmpR op_gt (pv 1) (pe_op op_powB pe_int pe_int) (nomark _))
        (pss_cons (ps_set (i := 7) sc_law_draw.nd rfl (Or.inl rfl) (pe_op op_mod (pe_op op_add (pe_op op_add (pe_op op_mul (pv 6) pe_int) (pe_op op_mul (pv 3) pe_int)) pe_int) pe_int))
        (pss_one (ps_set (i := 6) sc_law_draw.nd rfl (Or.inl rfl) (pe_op op_mul (pv 6) (pe_op op_add (pe_op op_mul (pe_op op_mul (pv 7) (pv 7)) (pv 7)) pe_int)))))
        pss_nil)
      (pss_one (ps_ret (pe_op op_mod (pv 6) (pv 1))))))))))))), ?_⟩
    have hm := Nat.mod_lt went hP.pos
    refine ⟨_, rfl, p, _, rfl, SqL.of hP.hp, rfl, _, _, rfl, _, _, rfl, rfl, ?_⟩
    have hpos := hP.pos
    have hwh : ((went : Int) % (cells.length : Int)) = ((went % cells.length : Nat) : Int) := (Int.natCast_emod ..).symm
    refine ⟨_, rfl, _, rfl, c, _, rfl, .inl (SqL.of hP.hc), _, _, rfl, rfl, ?_, ?_⟩
    · show (0 : Int) < ((cells.map nV).length : Int)
      rw [List.length_map]
      omega
    rw [List.length_map]
    refine ⟨_, rfl, _, rfl, c, _, ((went % cells.length : Nat) : Int), _, rfl, congrArg V.int hwh, SqL.of hP.hc, atI_nat (nV_at hm), ?_⟩
    generalize cells.getD (went % cells.length) 0 = cell at *
    refine ⟨_, rfl, _, _, rfl, rfl, _, rfl, p, _, 1, 1, rfl, rfl, hP.hp, rfl, ?_⟩
    have hpur : PurseAt (upd H p (.lst [.ref c, nV (went + 1)])) p c cells (went + 1) := ⟨upd_same, by rw [upd_ne hP.ne.symm]; exact hP.hc, hP.ne, hP.pos, hP.le⟩
    have sb : SB2 p c H (upd H p (.lst [.ref c, nV (went + 1)])) := SB2.upd1
    have eset : (upd H p (.lst (List.set [.ref c, nV went] 1 (.int ((went : Int) + 1))))) = upd H p (.lst [.ref c, nV (went + 1)]) := rfl
    rw [eset]
    generalize (upd H p (.lst [.ref c, nV (went + 1)])) = H1 at *
    refine ⟨_, rfl, _, _, rfl, rfl, ⟨by decide, by decide +kernel⟩, _, _, rfl, rfl, _, rfl, ite2 (fun e => ?_) (fun e => ?_)⟩
    · have ho : (o : Int).natAbs < 2 ^ 100 := by
        rw [Int.natAbs_natCast]
        exact Nat.lt_of_le_of_lt o2 (by decide)
      refine ⟨_, rfl, _, rfl, _, _, rfl, rfl, wide_div (b := 100) (by omega) ho (by decide) (by decide), _, rfl, _, rfl, c, _, ((went % cells.length : Nat) : Int), went % cells.length, rfl, congrArg V.int hwh, hpur.hc, ?_, ?_⟩
      · rw [List.length_map]
        exact Evl.ixN_nat hm
      · have eset2 : (upd H1 c (.lst ((cells.map nV).set (went % cells.length) (.int ((cell : Int) / (o : Int)))))) = upd H1 c (.lst ((cells.set (went % cells.length) (cell / o)).map nV)) := by
          rw [← set_map]
          rfl
        rw [eset2]
        have hcp : c ≠ p := hpur.ne.symm
        refine ⟨_, rfl, _, rfl, _, _, rfl, rfl, by omega, ?_⟩
        exact q _ _ (cell % o) (sb.trans SB2.upd2) ⟨by rw [upd_ne hpur.ne]; exact hpur.hp, upd_same, hpur.ne, by rw [List.length_set]; exact hpur.pos, by rw [List.length_set]; exact hpur.le⟩ (Nat.mod_lt _ o1)
    · have k1 : (0 : Int) < 2147483629 := by decide
      have k2 : (0 : Int) < 2147483647 := by decide
      have k3 : (0 : Int) < 2147483587 := by decide
      have m1 := mod_bd ((cell : Int) % 2147483629 * 48271 + (went : Int) * (went : Int) * 69621 + 11) (m := 2147483647) (by decide)
      refine ⟨_, rfl, _, _, rfl, rfl, k1, _, _, rfl, rfl, .inr ⟨by decide, by decide⟩, _, rfl, _, rfl, _, _, rfl, rfl, .inl ⟨by omega, by omega⟩, _, _, rfl, rfl, .inr ⟨by decide, by decide⟩, _, _, rfl, rfl, _, _, rfl, rfl, _, _, rfl, rfl, k2, ?_⟩
      generalize ((cell : Int) % 2147483629 * 48271 + (went : Int) * (went : Int) * 69621 + 11) % 2147483647 = x1 at *
      have m2 := mod_bd (x1 * x1) (m := 2147483629) (by decide)
      refine ⟨_, rfl, _, rfl, _, _, rfl, rfl, .inl ⟨by omega, by omega⟩, _, _, rfl, rfl, k1, ?_⟩
      generalize x1 * x1 % 2147483629 = x2 at *
      have m3 := mod_bd (x2 * x2) (m := 2147483587) (by decide)
      refine ⟨_, rfl, _, rfl, _, _, rfl, rfl, .inl ⟨by omega, by omega⟩, _, _, rfl, rfl, k3, ?_⟩
      generalize x2 * x2 % 2147483587 = x3 at *
      refine ⟨fun σ H' => H' = H1 ∧ ∃ (y : Int) (z7 : Option V), σ = [some (.ref p), some (nV o), some (.ref c), some (nV went), some (.int ((went : Int) % (cells.length : Int))), some (nV cell), some (.int y), z7], ?_, fun σ H2 hm2 => ?_⟩
      · refine ⟨_, rfl, _, _, rfl, rfl, ⟨by decide, by decide +kernel⟩, _, _, rfl, rfl, _, rfl, ite2 (fun e => ?_) (fun e => ⟨rfl, _, _, rfl⟩)⟩
        refine ⟨_, rfl, _, _, rfl, rfl, .inr ⟨by decide, by decide⟩, _, rfl, _, _, rfl, rfl, .inr ⟨by decide, by decide⟩, _, _, rfl, rfl, _, _, rfl, rfl, _, _, rfl, rfl, k1, ?_⟩
        have m4 := mod_bd (x3 * 39373 + (went : Int) * 7919 + 500) (m := 2147483629) (by decide)
        generalize (x3 * 39373 + (went : Int) * 7919 + 500) % 2147483629 = x4 at *
        exact ⟨_, rfl, _, rfl, _, rfl, _, _, rfl, rfl, .inl ⟨by omega, by omega⟩, _, rfl, _, _, rfl, rfl, .inr ⟨by omega, by omega⟩, _, _, rfl, rfl, _, _, rfl, rfl, .inl ⟨by omega, by omega⟩, rfl, _, _, rfl⟩
      obtain ⟨rfl, y, z7, rfl⟩ := hm2
      have m5 := mod_bd y (m := (o : Int)) (by omega)
      refine ⟨_, rfl, _, rfl, _, _, rfl, rfl, by omega, ?_⟩
      have er : y % (o : Int) = (((y % (o : Int)).toNat : Nat) : Int) := (Int.toNat_of_nonneg m5.1).symm
      have := q H2 cells (y % (o : Int)).toNat sb hpur (by omega)
      show Q (V.int (y % (o : Int))) H2
      rw [er]
      exact this
end
end WK
namespace WK
open PySem PySem.Spec PyProof.Rows L2
abbrev s_law_thing : Stmt := topS 35
theorem sc_law_thing : FnScope ["_law_purse_here", "_law_which", "_law_number"] ["_law_purse_here", "_law_which"] (defScope s_law_thing) := ⟨rfl, rfl, rfl, by decide +kernel, rfl, by decide +kernel, by decide +kernel⟩
theorem p30 : (10 : Int) ^ (30 : Int).toNat = ((10 ^ 30 : Nat) : Int) := by decide +kernel
theorem fine_n {n : Nat} (h : n < 10 ^ 30) : fine (.int (n : Int)) = true := by
  simp only [fine]
  exact decide_eq_true (by rw [Int.natAbs_natCast]; exact h)
theorem fines_nil : fines [] = true := by simp only [fines]
theorem fines_cons {d : PyData} {ds : List PyData} (h : fine d = true) (h2 : fines ds = true) : fines (d :: ds) = true := by
  simp only [fines, Bool.and_eq_true]
  exact ⟨h, h2⟩
theorem fine_tup {ds : List PyData} (h : fines ds = true) : fine (.tuple ds) = true := by
  simp only [fine]
  exact h
theorem fine_lst {ds : List PyData} (h : fines ds = true) : fine (.list ds) = true := by
  simp only [fine]
  exact h
theorem none_of2 {H H' : Hp} {p c b : Addr} {cells : List Nat} {went : Nat} (s : SB2 p c H H') (pur : PurseAt H' p c cells went) (h : H' b = none) : H b = none := by
  cases e : H b with
  | none => rfl
  | some o =>
    by_cases e1 : b = p
    · rw [e1, pur.hp] at h
      cases h
    · by_cases e2 : b = c
      · rw [e2, pur.hc] at h
        cases h
      · rw [s _ _ ⟨e1, e2⟩ e] at h
        cases h
section
variable {P : Program} {w : World} {K : PySem.W.Frag} {mg : Str → Option Value} {base : Heap}
def sp_law_thing (K : PySem.W.Frag) : Sp := fun vs H Q _ => ∃ (p c : Addr) (cells : List Nat) (went k : Nat), vs = [.ref p, nV k] ∧ PurseAt H p c cells went ∧ went ≤ 4000 ∧
  ∀ H' v d cells' went', SB2 p c H H' → PurseAt H' p c cells' went' → went' ≤ went + 4 → DpN H' (fun b => H b = none) v d → fine d = true → cost d ≤ 200 → d.depth ≤ 3 → Q v H'
theorem ok_law_thing {f : Addr} {fd : FuncData} (F : Fun K "_law_thing" "_law_thing" s_law_thing f fd) {f_law_draw : Addr} {fd_law_draw : FuncData} (c_law_draw : Cal P w K mg base CX0 1 f_law_draw fd_law_draw "_law_draw" ["_law_purse_here", "_law_out_of"] (sp_law_draw K)) : FnOk P w K mg base CX0 2 f fd ["_law_purse_here", "_law_which"] (sp_law_thing K) := by
  refine F.ok sc_law_thing (fun vs H Q E h => ?_) (fun cdv A outer s H vs Q E hr h => ?_)
  · obtain ⟨_, _, _, _, _, rfl, _⟩ := h
    rfl
  · obtain ⟨p, c, cells, went, k, rfl, hP, hw, q⟩ := h
    have hz := szl
    refine ⟨_, (pss_cons (ps_set (i := 2) sc_law_thing.nd rfl (Or.inl rfl) (pe_ix ix_list (pe_lst (pa_cons (pe_call c_law_draw.G (hr.mono (by decide)) (by rfl) c_law_draw.g c_law_draw.kp c_law_draw.b .nil pass0 (pa_cons (pv 0) (pa_cons pe_int pa_nil))) (pa_cons (pe_call c_law_draw.G (hr.mono (by decide)) (by rfl) c_law_draw.g c_law_draw.kp c_law_draw.b .nil pass0 (pa_cons (pv 0) (pa_cons (pe_op op_powB pe_int pe_int) pa_nil))) pa_nil))) (pe_call c_law_draw.G (hr.mono (by decide)) (by rfl) c_law_draw.g c_law_draw.kp c_law_draw.b .nil pass0 (pa_cons (pv 0) (pa_cons pe_int pa_nil))) (fun _ _ => rfl)))
      (pss_cons (ps_if (pt_cmpR op_lt (pv 1) pe_int (nomark _))
        (pss_one (ps_ret (pe_ix ix_list (pe_lst (pa_cons pe_str (pa_cons pe_str (pa_cons pe_str (pa_cons pe_str (pa_cons pe_str pa_nil)))))) (pe_call c_law_draw.G (hr.mono (by decide)) (by rfl) c_law_draw.g c_law_draw.kp c_law_draw.b .nil pass0 (pa_cons (pv 0) (pa_cons pe_int pa_nil))) (fun _ _ => rfl))))
        pss_nil)
      (pss_cons (ps_if (pt_cmpR op_lt (pv 1) pe_int (nomark _))
        (pss_one (ps_ret (pe_ix ix_list (pe_lst (pa_cons (pe_tup (pa_cons pe_str pa_nil)) (pa_cons (pe_tup (pa_cons pe_str pa_nil)) (pa_cons (pe_tup (pa_cons pe_str (pa_cons (pv 2) pa_nil))) (pa_cons (pe_tup (pa_cons pe_str pa_nil)) (pa_cons (pe_tup (pa_cons pe_str (pa_cons (pv 2) pa_nil))) pa_nil)))))) (pe_call c_law_draw.G (hr.mono (by decide)) (by rfl) c_law_draw.g c_law_draw.kp c_law_draw.b .nil pass0 (pa_cons (pv 0) (pa_cons pe_int pa_nil))) (fun _ _ => rfl))))
        pss_nil)
      (pss_cons (ps_if (pt_cmpR op_eq (pv 1) pe_int (nomark _))
        (pss_one (ps_ret (pe_ix ix_list (pe_lst (pa_cons (pe_tup (pa_cons pe_str (pa_cons (pe_lst (pa_cons pe_str (pa_cons pe_str pa_nil))) pa_nil))) (pa_cons (pe_tup (pa_cons pe_str (pa_cons pe_str pa_nil))) (pa_cons (pe_tup (pa_cons pe_str (pa_cons (pe_lst (pa_cons pe_str pa_nil)) pa_nil))) (pa_cons (pe_tup (pa_cons pe_str (pa_cons pe_int (pa_cons pe_int pa_nil)))) pa_nil))))) (pe_call c_law_draw.G (hr.mono (by decide)) (by rfl) c_law_draw.g c_law_draw.kp c_law_draw.b .nil pass0 (pa_cons (pv 0) (pa_cons pe_int pa_nil))) (fun _ _ => rfl))))
        pss_nil)
      (pss_cons (ps_if (pt_cmpR op_eq (pv 1) pe_int (nomark _))
        (pss_one (ps_ret (pe_ix ix_list (pe_lst (pa_cons (pe_tup (pa_cons (pv 2) (pa_cons (pe_tup pa_nil) pa_nil))) (pa_cons (pe_tup (pa_cons pe_int (pa_cons (pe_tup (pa_cons pe_int (pa_cons pe_int pa_nil))) pa_nil))) (pa_cons (pe_tup (pa_cons pe_int (pa_cons (pe_tup (pa_cons (pv 2) pa_nil)) pa_nil))) pa_nil)))) (pe_call c_law_draw.G (hr.mono (by decide)) (by rfl) c_law_draw.g c_law_draw.kp c_law_draw.b .nil pass0 (pa_cons (pv 0) (pa_cons pe_int pa_nil))) (fun _ _ => rfl))))
        pss_nil)
      (pss_one (ps_ret (pv 2)))))))), ?_⟩
    have apart0 : ∀ {H0 : Hp} {cs : List Nat} {wt : Nat} {b : Addr}, PurseAt H0 p c cs wt → H0 b = none → b ≠ p ∧ b ≠ c := fun hp hb => ⟨fun z => (by rw [z, hp.hp] at hb; cases hb), fun z => (by rw [z, hp.hc] at hb; cases hb)⟩
    have apart : ∀ {H1 : Hp} {cs : List Nat} {wt : Nat} {b : Addr}, PurseAt H1 p c cs wt → H b = none → b ≠ p ∧ b ≠ c := fun _ hb => apart0 hP hb
    refine ⟨_, rfl, p, c, _, _, 12, rfl, hP, by omega, by decide, by decide, fun H1 cells1 r1 sb1 pur1 hr1 => ?_⟩
    refine ⟨_, rfl, _, _, rfl, rfl, ⟨by decide, by decide +kernel⟩, p, c, _, _, 10 ^ 30, ?_, pur1, by omega, by decide, Nat.le_refl _, fun H2 cells2 r2 sb2 pur2 hr2 => ?_⟩
    · show [V.ref p, V.int ((10 : Int) ^ (30 : Int).toNat)] = _
      rw [p30]
      rfl
    refine ⟨by show 2 ≤ sizeLine; decide, fun l nl => ?_⟩
    have sl := same_upd (o := .lst [nV r1, nV r2]) nl
    have hl := at_upd (o := .lst [nV r1, nV r2]) nl
    have nal := none_of2 (sb1.trans sb2) pur2 nl
    have pur2 := pur2.mono sl
    have sb2 := (sb1.trans sb2).trans (SB2.of (p := p) (c := c) sl)
    generalize (upd H2 l (.lst [nV r1, nV r2])) = H3 at *
    refine ⟨_, rfl, p, c, _, _, 2, rfl, pur2, by omega, by decide, by decide, fun H4 cells3 r3 sb3 pur3 hr3 => ?_⟩
    obtain ⟨n, hnn, hn30⟩ : ∃ n : Nat, ([nV r1, nV r2] : List V)[r3]? = some (nV n) ∧ n < 10 ^ 30 := by
      rcases (show r3 = 0 ∨ r3 = 1 by omega) with rfl | rfl
      · exact ⟨r1, rfl, Nat.lt_of_lt_of_le hr1 (by decide)⟩
      · exact ⟨r2, rfl, hr2⟩
    refine ⟨l, _, (r3 : Int), _, rfl, rfl, SqL.of (sb3 _ _ (apart pur2 nal) hl), atI_nat hnn, ?_⟩
    have sb := sb2.trans sb3
    have pur := pur3
    obtain ⟨N, hN⟩ : ∃ N : Addr → Prop, N = fun b => H b = none := ⟨_, rfl⟩
    clear sb1 sb2 sb3 pur1 pur2 pur3 sl hl
    refine ⟨_, rfl, _, _, rfl, rfl, _, rfl, ite2 (fun e => ?_) (fun e => ?_)⟩
    · subst hN
      refine ⟨by show 5 ≤ sizeLine; decide, fun a1 n1 => ?_⟩
      have s1 := same_upd (o := .lst [V.str "a", V.str "aa", V.str "eighteen", V.str "zz", V.str "b"]) n1
      have h1 := at_upd (o := .lst [V.str "a", V.str "aa", V.str "eighteen", V.str "zz", V.str "b"]) n1
      have na1 := none_of2 sb pur n1
      have sb := sb.trans (SB2.of (p := p) (c := c) s1)
      have pur := pur.mono s1
      generalize (upd _ a1 (.lst [V.str "a", V.str "aa", V.str "eighteen", V.str "zz", V.str "b"])) = G1 at *
      refine ⟨_, rfl, p, c, _, _, 5, rfl, pur, by omega, by decide, by decide, fun HZ cells4 r4 sb4 pur4 hr4 => ?_⟩
      obtain ⟨v, d, hv, hd, hf, hc, hdd⟩ : ∃ v d, ([V.str "a", V.str "aa", V.str "eighteen", V.str "zz", V.str "b"] : List V)[r4]? = some v ∧ DpN G1 (fun b => H b = none) v d ∧ fine d = true ∧ cost d ≤ 200 ∧ d.depth ≤ 3 := by
        rcases (show r4 = 0 ∨ r4 = 1 ∨ r4 = 2 ∨ r4 = 3 ∨ r4 = 4 by omega) with rfl | rfl | rfl | rfl | rfl
        · exact ⟨_, .str "a", rfl, .str _, (by decide +kernel), by simp only [cost, costs]; decide +kernel, by simp only [PyData.depth, PyData.depthAll]; decide⟩
        · exact ⟨_, .str "aa", rfl, .str _, (by decide +kernel), by simp only [cost, costs]; decide +kernel, by simp only [PyData.depth, PyData.depthAll]; decide⟩
        · exact ⟨_, .str "eighteen", rfl, .str _, (by decide +kernel), by simp only [cost, costs]; decide +kernel, by simp only [PyData.depth, PyData.depthAll]; decide⟩
        · exact ⟨_, .str "zz", rfl, .str _, (by decide +kernel), by simp only [cost, costs]; decide +kernel, by simp only [PyData.depth, PyData.depthAll]; decide⟩
        · exact ⟨_, .str "b", rfl, .str _, (by decide +kernel), by simp only [cost, costs]; decide +kernel, by simp only [PyData.depth, PyData.depthAll]; decide⟩
      have hlZ := sb4 _ _ (apart pur na1) h1
      refine ⟨a1, _, (r4 : Int), _, rfl, rfl, SqL.of hlZ, atI_nat hv, ?_⟩
      exact q HZ v d cells4 _ (sb.trans sb4) pur4 (by omega) (hd.mono (fun b o nb e => sb4 b o (apart0 hP nb) e) (fun b o h _ => h)) hf hc hdd
    refine ⟨_, rfl, _, _, rfl, rfl, _, rfl, ite2 (fun e => ?_) (fun e => ?_)⟩
    · subst hN
      refine ⟨by show 1 ≤ sizeLine; decide, fun a1 n1 => ?_⟩
      have s1 := same_upd (o := .tup [V.str "module"]) n1
      have h1 := at_upd (o := .tup [V.str "module"]) n1
      have na1 := none_of2 sb pur n1
      have sb := sb.trans (SB2.of (p := p) (c := c) s1)
      have pur := pur.mono s1
      have d1 : DpN (upd _ a1 (.tup [V.str "module"])) (fun b => H b = none) (.ref a1) (.tuple [.str "module"]) := .tup h1 na1 (by show 1 ≤ 100; decide) (.cons (.str _) .nil)
      generalize (upd _ a1 (.tup [V.str "module"])) = G1 at *
      refine ⟨by show 1 ≤ sizeLine; decide, fun a2 n2 => ?_⟩
      have s2 := same_upd (o := .tup [V.str "name"]) n2
      have h2 := at_upd (o := .tup [V.str "name"]) n2
      have na2 := none_of2 sb pur n2
      have sb := sb.trans (SB2.of (p := p) (c := c) s2)
      have pur := pur.mono s2
      have d1 := d1.mono (fun b o _ e => s2 _ _ e) (fun b o h _ => h)
      have d2 : DpN (upd _ a2 (.tup [V.str "name"])) (fun b => H b = none) (.ref a2) (.tuple [.str "name"]) := .tup h2 na2 (by show 1 ≤ 100; decide) (.cons (.str _) .nil)
      generalize (upd _ a2 (.tup [V.str "name"])) = G2 at *
      refine ⟨_, rfl, by show 2 ≤ sizeLine; decide, fun a3 n3 => ?_⟩
      have s3 := same_upd (o := .tup [V.str "row", nV n]) n3
      have h3 := at_upd (o := .tup [V.str "row", nV n]) n3
      have na3 := none_of2 sb pur n3
      have sb := sb.trans (SB2.of (p := p) (c := c) s3)
      have pur := pur.mono s3
      have d1 := d1.mono (fun b o _ e => s3 _ _ e) (fun b o h _ => h)
      have d2 := d2.mono (fun b o _ e => s3 _ _ e) (fun b o h _ => h)
      have d3 : DpN (upd _ a3 (.tup [V.str "row", nV n])) (fun b => H b = none) (.ref a3) (.tuple [.str "row", .int (n : Int)]) := .tup h3 na3 (by show 2 ≤ 100; decide) (.cons (.str _) (.cons (.int _) .nil))
      generalize (upd _ a3 (.tup [V.str "row", nV n])) = G3 at *
      refine ⟨by show 1 ≤ sizeLine; decide, fun a4 n4 => ?_⟩
      have s4 := same_upd (o := .tup [V.str "modules"]) n4
      have h4 := at_upd (o := .tup [V.str "modules"]) n4
      have na4 := none_of2 sb pur n4
      have sb := sb.trans (SB2.of (p := p) (c := c) s4)
      have pur := pur.mono s4
      have d1 := d1.mono (fun b o _ e => s4 _ _ e) (fun b o h _ => h)
      have d2 := d2.mono (fun b o _ e => s4 _ _ e) (fun b o h _ => h)
      have d3 := d3.mono (fun b o _ e => s4 _ _ e) (fun b o h _ => h)
      have d4 : DpN (upd _ a4 (.tup [V.str "modules"])) (fun b => H b = none) (.ref a4) (.tuple [.str "modules"]) := .tup h4 na4 (by show 1 ≤ 100; decide) (.cons (.str _) .nil)
      generalize (upd _ a4 (.tup [V.str "modules"])) = G4 at *
      refine ⟨_, rfl, by show 2 ≤ sizeLine; decide, fun a5 n5 => ?_⟩
      have s5 := same_upd (o := .tup [V.str "name", nV n]) n5
      have h5 := at_upd (o := .tup [V.str "name", nV n]) n5
      have na5 := none_of2 sb pur n5
      have sb := sb.trans (SB2.of (p := p) (c := c) s5)
      have pur := pur.mono s5
      have d1 := d1.mono (fun b o _ e => s5 _ _ e) (fun b o h _ => h)
      have d2 := d2.mono (fun b o _ e => s5 _ _ e) (fun b o h _ => h)
      have d3 := d3.mono (fun b o _ e => s5 _ _ e) (fun b o h _ => h)
      have d4 := d4.mono (fun b o _ e => s5 _ _ e) (fun b o h _ => h)
      have d5 : DpN (upd _ a5 (.tup [V.str "name", nV n])) (fun b => H b = none) (.ref a5) (.tuple [.str "name", .int (n : Int)]) := .tup h5 na5 (by show 2 ≤ 100; decide) (.cons (.str _) (.cons (.int _) .nil))
      generalize (upd _ a5 (.tup [V.str "name", nV n])) = G5 at *
      refine ⟨by show 5 ≤ sizeLine; decide, fun a6 n6 => ?_⟩
      have s6 := same_upd (o := .lst [V.ref a1, V.ref a2, V.ref a3, V.ref a4, V.ref a5]) n6
      have h6 := at_upd (o := .lst [V.ref a1, V.ref a2, V.ref a3, V.ref a4, V.ref a5]) n6
      have na6 := none_of2 sb pur n6
      have sb := sb.trans (SB2.of (p := p) (c := c) s6)
      have pur := pur.mono s6
      have d1 := d1.mono (fun b o _ e => s6 _ _ e) (fun b o h _ => h)
      have d2 := d2.mono (fun b o _ e => s6 _ _ e) (fun b o h _ => h)
      have d3 := d3.mono (fun b o _ e => s6 _ _ e) (fun b o h _ => h)
      have d4 := d4.mono (fun b o _ e => s6 _ _ e) (fun b o h _ => h)
      have d5 := d5.mono (fun b o _ e => s6 _ _ e) (fun b o h _ => h)
      generalize (upd _ a6 (.lst [V.ref a1, V.ref a2, V.ref a3, V.ref a4, V.ref a5])) = G6 at *
      refine ⟨_, rfl, p, c, _, _, 5, rfl, pur, by omega, by decide, by decide, fun HZ cells4 r4 sb4 pur4 hr4 => ?_⟩
      obtain ⟨v, d, hv, hd, hf, hc, hdd⟩ : ∃ v d, ([V.ref a1, V.ref a2, V.ref a3, V.ref a4, V.ref a5] : List V)[r4]? = some v ∧ DpN G6 (fun b => H b = none) v d ∧ fine d = true ∧ cost d ≤ 200 ∧ d.depth ≤ 3 := by
        rcases (show r4 = 0 ∨ r4 = 1 ∨ r4 = 2 ∨ r4 = 3 ∨ r4 = 4 by omega) with rfl | rfl | rfl | rfl | rfl
        · exact ⟨_, .tuple [.str "module"], rfl, d1, (fine_tup (fines_cons (by decide +kernel) fines_nil)), by simp only [cost, costs]; decide +kernel, by simp only [PyData.depth, PyData.depthAll]; decide⟩
        · exact ⟨_, .tuple [.str "name"], rfl, d2, (fine_tup (fines_cons (by decide +kernel) fines_nil)), by simp only [cost, costs]; decide +kernel, by simp only [PyData.depth, PyData.depthAll]; decide⟩
        · exact ⟨_, .tuple [.str "row", .int (n : Int)], rfl, d3, (fine_tup (fines_cons (by decide +kernel) (fines_cons (fine_n hn30) fines_nil))), by simp only [cost, costs]; decide +kernel, by simp only [PyData.depth, PyData.depthAll]; decide⟩
        · exact ⟨_, .tuple [.str "modules"], rfl, d4, (fine_tup (fines_cons (by decide +kernel) fines_nil)), by simp only [cost, costs]; decide +kernel, by simp only [PyData.depth, PyData.depthAll]; decide⟩
        · exact ⟨_, .tuple [.str "name", .int (n : Int)], rfl, d5, (fine_tup (fines_cons (by decide +kernel) (fines_cons (fine_n hn30) fines_nil))), by simp only [cost, costs]; decide +kernel, by simp only [PyData.depth, PyData.depthAll]; decide⟩
      have hlZ := sb4 _ _ (apart pur na6) h6
      refine ⟨a6, _, (r4 : Int), _, rfl, rfl, SqL.of hlZ, atI_nat hv, ?_⟩
      exact q HZ v d cells4 _ (sb.trans sb4) pur4 (by omega) (hd.mono (fun b o nb e => sb4 b o (apart0 hP nb) e) (fun b o h _ => h)) hf hc hdd
    refine ⟨_, rfl, rfl, _, rfl, ite2 (fun e => ?_) (fun e => ?_)⟩
    · subst hN
      refine ⟨by show 2 ≤ sizeLine; decide, fun a1 n1 => ?_⟩
      have s1 := same_upd (o := .lst [V.str "a", V.str "b"]) n1
      have h1 := at_upd (o := .lst [V.str "a", V.str "b"]) n1
      have na1 := none_of2 sb pur n1
      have sb := sb.trans (SB2.of (p := p) (c := c) s1)
      have pur := pur.mono s1
      have d1 : DpN (upd _ a1 (.lst [V.str "a", V.str "b"])) (fun b => H b = none) (.ref a1) (.list [.str "a", .str "b"]) := .lst h1 na1 (by show 2 ≤ 100; decide) (.cons (.str _) (.cons (.str _) .nil))
      generalize (upd _ a1 (.lst [V.str "a", V.str "b"])) = G1 at *
      refine ⟨by show 2 ≤ sizeLine; decide, fun a2 n2 => ?_⟩
      have s2 := same_upd (o := .tup [V.str "ring", V.ref a1]) n2
      have h2 := at_upd (o := .tup [V.str "ring", V.ref a1]) n2
      have na2 := none_of2 sb pur n2
      have sb := sb.trans (SB2.of (p := p) (c := c) s2)
      have pur := pur.mono s2
      have d1 := d1.mono (fun b o _ e => s2 _ _ e) (fun b o h _ => h)
      have d2 : DpN (upd _ a2 (.tup [V.str "ring", V.ref a1])) (fun b => H b = none) (.ref a2) (.tuple [.str "ring", .list [.str "a", .str "b"]]) := .tup h2 na2 (by show 2 ≤ 100; decide) (.cons (.str _) (.cons (d1) .nil))
      generalize (upd _ a2 (.tup [V.str "ring", V.ref a1])) = G2 at *
      refine ⟨by show 2 ≤ sizeLine; decide, fun a3 n3 => ?_⟩
      have s3 := same_upd (o := .tup [V.str "inner", V.str "aa"]) n3
      have h3 := at_upd (o := .tup [V.str "inner", V.str "aa"]) n3
      have na3 := none_of2 sb pur n3
      have sb := sb.trans (SB2.of (p := p) (c := c) s3)
      have pur := pur.mono s3
      have d1 := d1.mono (fun b o _ e => s3 _ _ e) (fun b o h _ => h)
      have d2 := d2.mono (fun b o _ e => s3 _ _ e) (fun b o h _ => h)
      have d3 : DpN (upd _ a3 (.tup [V.str "inner", V.str "aa"])) (fun b => H b = none) (.ref a3) (.tuple [.str "inner", .str "aa"]) := .tup h3 na3 (by show 2 ≤ 100; decide) (.cons (.str _) (.cons (.str _) .nil))
      generalize (upd _ a3 (.tup [V.str "inner", V.str "aa"])) = G3 at *
      refine ⟨by show 1 ≤ sizeLine; decide, fun a4 n4 => ?_⟩
      have s4 := same_upd (o := .lst [V.str "x"]) n4
      have h4 := at_upd (o := .lst [V.str "x"]) n4
      have na4 := none_of2 sb pur n4
      have sb := sb.trans (SB2.of (p := p) (c := c) s4)
      have pur := pur.mono s4
      have d1 := d1.mono (fun b o _ e => s4 _ _ e) (fun b o h _ => h)
      have d2 := d2.mono (fun b o _ e => s4 _ _ e) (fun b o h _ => h)
      have d3 := d3.mono (fun b o _ e => s4 _ _ e) (fun b o h _ => h)
      have d4 : DpN (upd _ a4 (.lst [V.str "x"])) (fun b => H b = none) (.ref a4) (.list [.str "x"]) := .lst h4 na4 (by show 1 ≤ 100; decide) (.cons (.str _) .nil)
      generalize (upd _ a4 (.lst [V.str "x"])) = G4 at *
      refine ⟨by show 2 ≤ sizeLine; decide, fun a5 n5 => ?_⟩
      have s5 := same_upd (o := .tup [V.str "ring", V.ref a4]) n5
      have h5 := at_upd (o := .tup [V.str "ring", V.ref a4]) n5
      have na5 := none_of2 sb pur n5
      have sb := sb.trans (SB2.of (p := p) (c := c) s5)
      have pur := pur.mono s5
      have d1 := d1.mono (fun b o _ e => s5 _ _ e) (fun b o h _ => h)
      have d2 := d2.mono (fun b o _ e => s5 _ _ e) (fun b o h _ => h)
      have d3 := d3.mono (fun b o _ e => s5 _ _ e) (fun b o h _ => h)
      have d4 := d4.mono (fun b o _ e => s5 _ _ e) (fun b o h _ => h)
      have d5 : DpN (upd _ a5 (.tup [V.str "ring", V.ref a4])) (fun b => H b = none) (.ref a5) (.tuple [.str "ring", .list [.str "x"]]) := .tup h5 na5 (by show 2 ≤ 100; decide) (.cons (.str _) (.cons (d4) .nil))
      generalize (upd _ a5 (.tup [V.str "ring", V.ref a4])) = G5 at *
      refine ⟨by show 3 ≤ sizeLine; decide, fun a6 n6 => ?_⟩
      have s6 := same_upd (o := .tup [V.str "plain", V.int 2, V.int 0]) n6
      have h6 := at_upd (o := .tup [V.str "plain", V.int 2, V.int 0]) n6
      have na6 := none_of2 sb pur n6
      have sb := sb.trans (SB2.of (p := p) (c := c) s6)
      have pur := pur.mono s6
      have d1 := d1.mono (fun b o _ e => s6 _ _ e) (fun b o h _ => h)
      have d2 := d2.mono (fun b o _ e => s6 _ _ e) (fun b o h _ => h)
      have d3 := d3.mono (fun b o _ e => s6 _ _ e) (fun b o h _ => h)
      have d4 := d4.mono (fun b o _ e => s6 _ _ e) (fun b o h _ => h)
      have d5 := d5.mono (fun b o _ e => s6 _ _ e) (fun b o h _ => h)
      have d6 : DpN (upd _ a6 (.tup [V.str "plain", V.int 2, V.int 0])) (fun b => H b = none) (.ref a6) (.tuple [.str "plain", .int 2, .int 0]) := .tup h6 na6 (by show 3 ≤ 100; decide) (.cons (.str _) (.cons (.int _) (.cons (.int _) .nil)))
      generalize (upd _ a6 (.tup [V.str "plain", V.int 2, V.int 0])) = G6 at *
      refine ⟨by show 4 ≤ sizeLine; decide, fun a7 n7 => ?_⟩
      have s7 := same_upd (o := .lst [V.ref a2, V.ref a3, V.ref a5, V.ref a6]) n7
      have h7 := at_upd (o := .lst [V.ref a2, V.ref a3, V.ref a5, V.ref a6]) n7
      have na7 := none_of2 sb pur n7
      have sb := sb.trans (SB2.of (p := p) (c := c) s7)
      have pur := pur.mono s7
      have d1 := d1.mono (fun b o _ e => s7 _ _ e) (fun b o h _ => h)
      have d2 := d2.mono (fun b o _ e => s7 _ _ e) (fun b o h _ => h)
      have d3 := d3.mono (fun b o _ e => s7 _ _ e) (fun b o h _ => h)
      have d4 := d4.mono (fun b o _ e => s7 _ _ e) (fun b o h _ => h)
      have d5 := d5.mono (fun b o _ e => s7 _ _ e) (fun b o h _ => h)
      have d6 := d6.mono (fun b o _ e => s7 _ _ e) (fun b o h _ => h)
      generalize (upd _ a7 (.lst [V.ref a2, V.ref a3, V.ref a5, V.ref a6])) = G7 at *
      refine ⟨_, rfl, p, c, _, _, 4, rfl, pur, by omega, by decide, by decide, fun HZ cells4 r4 sb4 pur4 hr4 => ?_⟩
      obtain ⟨v, d, hv, hd, hf, hc, hdd⟩ : ∃ v d, ([V.ref a2, V.ref a3, V.ref a5, V.ref a6] : List V)[r4]? = some v ∧ DpN G7 (fun b => H b = none) v d ∧ fine d = true ∧ cost d ≤ 200 ∧ d.depth ≤ 3 := by
        rcases (show r4 = 0 ∨ r4 = 1 ∨ r4 = 2 ∨ r4 = 3 by omega) with rfl | rfl | rfl | rfl
        · exact ⟨_, .tuple [.str "ring", .list [.str "a", .str "b"]], rfl, d2, (fine_tup (fines_cons (by decide +kernel) (fines_cons (fine_lst (fines_cons (by decide +kernel) (fines_cons (by decide +kernel) fines_nil))) fines_nil))), by simp only [cost, costs]; decide +kernel, by simp only [PyData.depth, PyData.depthAll]; decide⟩
        · exact ⟨_, .tuple [.str "inner", .str "aa"], rfl, d3, (fine_tup (fines_cons (by decide +kernel) (fines_cons (by decide +kernel) fines_nil))), by simp only [cost, costs]; decide +kernel, by simp only [PyData.depth, PyData.depthAll]; decide⟩
        · exact ⟨_, .tuple [.str "ring", .list [.str "x"]], rfl, d5, (fine_tup (fines_cons (by decide +kernel) (fines_cons (fine_lst (fines_cons (by decide +kernel) fines_nil)) fines_nil))), by simp only [cost, costs]; decide +kernel, by simp only [PyData.depth, PyData.depthAll]; decide⟩
        · exact ⟨_, .tuple [.str "plain", .int 2, .int 0], rfl, d6, (fine_tup (fines_cons (by decide +kernel) (fines_cons (by decide +kernel) (fines_cons (by decide +kernel) fines_nil)))), by simp only [cost, costs]; decide +kernel, by simp only [PyData.depth, PyData.depthAll]; decide⟩
      have hlZ := sb4 _ _ (apart pur na7) h7
      refine ⟨a7, _, (r4 : Int), _, rfl, rfl, SqL.of hlZ, atI_nat hv, ?_⟩
      exact q HZ v d cells4 _ (sb.trans sb4) pur4 (by omega) (hd.mono (fun b o nb e => sb4 b o (apart0 hP nb) e) (fun b o h _ => h)) hf hc hdd
    refine ⟨_, rfl, rfl, _, rfl, ite2 (fun e => ?_) (fun e => ?_)⟩
    · subst hN
      refine ⟨_, rfl, by show 0 ≤ sizeLine; decide, fun a1 n1 => ?_⟩
      have s1 := same_upd (o := .tup []) n1
      have h1 := at_upd (o := .tup []) n1
      have na1 := none_of2 sb pur n1
      have sb := sb.trans (SB2.of (p := p) (c := c) s1)
      have pur := pur.mono s1
      have d1 : DpN (upd _ a1 (.tup [])) (fun b => H b = none) (.ref a1) (.tuple []) := .tup h1 na1 (by show 0 ≤ 100; decide) (.nil)
      generalize (upd _ a1 (.tup [])) = G1 at *
      refine ⟨by show 2 ≤ sizeLine; decide, fun a2 n2 => ?_⟩
      have s2 := same_upd (o := .tup [nV n, V.ref a1]) n2
      have h2 := at_upd (o := .tup [nV n, V.ref a1]) n2
      have na2 := none_of2 sb pur n2
      have sb := sb.trans (SB2.of (p := p) (c := c) s2)
      have pur := pur.mono s2
      have d1 := d1.mono (fun b o _ e => s2 _ _ e) (fun b o h _ => h)
      have d2 : DpN (upd _ a2 (.tup [nV n, V.ref a1])) (fun b => H b = none) (.ref a2) (.tuple [.int (n : Int), .tuple []]) := .tup h2 na2 (by show 2 ≤ 100; decide) (.cons (.int _) (.cons (d1) .nil))
      generalize (upd _ a2 (.tup [nV n, V.ref a1])) = G2 at *
      refine ⟨by show 2 ≤ sizeLine; decide, fun a3 n3 => ?_⟩
      have s3 := same_upd (o := .tup [V.int 1, V.int 0]) n3
      have h3 := at_upd (o := .tup [V.int 1, V.int 0]) n3
      have na3 := none_of2 sb pur n3
      have sb := sb.trans (SB2.of (p := p) (c := c) s3)
      have pur := pur.mono s3
      have d1 := d1.mono (fun b o _ e => s3 _ _ e) (fun b o h _ => h)
      have d2 := d2.mono (fun b o _ e => s3 _ _ e) (fun b o h _ => h)
      have d3 : DpN (upd _ a3 (.tup [V.int 1, V.int 0])) (fun b => H b = none) (.ref a3) (.tuple [.int 1, .int 0]) := .tup h3 na3 (by show 2 ≤ 100; decide) (.cons (.int _) (.cons (.int _) .nil))
      generalize (upd _ a3 (.tup [V.int 1, V.int 0])) = G3 at *
      refine ⟨by show 2 ≤ sizeLine; decide, fun a4 n4 => ?_⟩
      have s4 := same_upd (o := .tup [V.int 0, V.ref a3]) n4
      have h4 := at_upd (o := .tup [V.int 0, V.ref a3]) n4
      have na4 := none_of2 sb pur n4
      have sb := sb.trans (SB2.of (p := p) (c := c) s4)
      have pur := pur.mono s4
      have d1 := d1.mono (fun b o _ e => s4 _ _ e) (fun b o h _ => h)
      have d2 := d2.mono (fun b o _ e => s4 _ _ e) (fun b o h _ => h)
      have d3 := d3.mono (fun b o _ e => s4 _ _ e) (fun b o h _ => h)
      have d4 : DpN (upd _ a4 (.tup [V.int 0, V.ref a3])) (fun b => H b = none) (.ref a4) (.tuple [.int 0, .tuple [.int 1, .int 0]]) := .tup h4 na4 (by show 2 ≤ 100; decide) (.cons (.int _) (.cons (d3) .nil))
      generalize (upd _ a4 (.tup [V.int 0, V.ref a3])) = G4 at *
      refine ⟨_, rfl, by show 1 ≤ sizeLine; decide, fun a5 n5 => ?_⟩
      have s5 := same_upd (o := .tup [nV n]) n5
      have h5 := at_upd (o := .tup [nV n]) n5
      have na5 := none_of2 sb pur n5
      have sb := sb.trans (SB2.of (p := p) (c := c) s5)
      have pur := pur.mono s5
      have d1 := d1.mono (fun b o _ e => s5 _ _ e) (fun b o h _ => h)
      have d2 := d2.mono (fun b o _ e => s5 _ _ e) (fun b o h _ => h)
      have d3 := d3.mono (fun b o _ e => s5 _ _ e) (fun b o h _ => h)
      have d4 := d4.mono (fun b o _ e => s5 _ _ e) (fun b o h _ => h)
      have d5 : DpN (upd _ a5 (.tup [nV n])) (fun b => H b = none) (.ref a5) (.tuple [.int (n : Int)]) := .tup h5 na5 (by show 1 ≤ 100; decide) (.cons (.int _) .nil)
      generalize (upd _ a5 (.tup [nV n])) = G5 at *
      refine ⟨by show 2 ≤ sizeLine; decide, fun a6 n6 => ?_⟩
      have s6 := same_upd (o := .tup [V.int 3, V.ref a5]) n6
      have h6 := at_upd (o := .tup [V.int 3, V.ref a5]) n6
      have na6 := none_of2 sb pur n6
      have sb := sb.trans (SB2.of (p := p) (c := c) s6)
      have pur := pur.mono s6
      have d1 := d1.mono (fun b o _ e => s6 _ _ e) (fun b o h _ => h)
      have d2 := d2.mono (fun b o _ e => s6 _ _ e) (fun b o h _ => h)
      have d3 := d3.mono (fun b o _ e => s6 _ _ e) (fun b o h _ => h)
      have d4 := d4.mono (fun b o _ e => s6 _ _ e) (fun b o h _ => h)
      have d5 := d5.mono (fun b o _ e => s6 _ _ e) (fun b o h _ => h)
      have d6 : DpN (upd _ a6 (.tup [V.int 3, V.ref a5])) (fun b => H b = none) (.ref a6) (.tuple [.int 3, .tuple [.int (n : Int)]]) := .tup h6 na6 (by show 2 ≤ 100; decide) (.cons (.int _) (.cons (d5) .nil))
      generalize (upd _ a6 (.tup [V.int 3, V.ref a5])) = G6 at *
      refine ⟨by show 3 ≤ sizeLine; decide, fun a7 n7 => ?_⟩
      have s7 := same_upd (o := .lst [V.ref a2, V.ref a4, V.ref a6]) n7
      have h7 := at_upd (o := .lst [V.ref a2, V.ref a4, V.ref a6]) n7
      have na7 := none_of2 sb pur n7
      have sb := sb.trans (SB2.of (p := p) (c := c) s7)
      have pur := pur.mono s7
      have d1 := d1.mono (fun b o _ e => s7 _ _ e) (fun b o h _ => h)
      have d2 := d2.mono (fun b o _ e => s7 _ _ e) (fun b o h _ => h)
      have d3 := d3.mono (fun b o _ e => s7 _ _ e) (fun b o h _ => h)
      have d4 := d4.mono (fun b o _ e => s7 _ _ e) (fun b o h _ => h)
      have d5 := d5.mono (fun b o _ e => s7 _ _ e) (fun b o h _ => h)
      have d6 := d6.mono (fun b o _ e => s7 _ _ e) (fun b o h _ => h)
      generalize (upd _ a7 (.lst [V.ref a2, V.ref a4, V.ref a6])) = G7 at *
      refine ⟨_, rfl, p, c, _, _, 3, rfl, pur, by omega, by decide, by decide, fun HZ cells4 r4 sb4 pur4 hr4 => ?_⟩
      obtain ⟨v, d, hv, hd, hf, hc, hdd⟩ : ∃ v d, ([V.ref a2, V.ref a4, V.ref a6] : List V)[r4]? = some v ∧ DpN G7 (fun b => H b = none) v d ∧ fine d = true ∧ cost d ≤ 200 ∧ d.depth ≤ 3 := by
        rcases (show r4 = 0 ∨ r4 = 1 ∨ r4 = 2 by omega) with rfl | rfl | rfl
        · exact ⟨_, .tuple [.int (n : Int), .tuple []], rfl, d2, (fine_tup (fines_cons (fine_n hn30) (fines_cons (fine_tup fines_nil) fines_nil))), by simp only [cost, costs]; decide +kernel, by simp only [PyData.depth, PyData.depthAll]; decide⟩
        · exact ⟨_, .tuple [.int 0, .tuple [.int 1, .int 0]], rfl, d4, (fine_tup (fines_cons (by decide +kernel) (fines_cons (fine_tup (fines_cons (by decide +kernel) (fines_cons (by decide +kernel) fines_nil))) fines_nil))), by simp only [cost, costs]; decide +kernel, by simp only [PyData.depth, PyData.depthAll]; decide⟩
        · exact ⟨_, .tuple [.int 3, .tuple [.int (n : Int)]], rfl, d6, (fine_tup (fines_cons (by decide +kernel) (fines_cons (fine_tup (fines_cons (fine_n hn30) fines_nil)) fines_nil))), by simp only [cost, costs]; decide +kernel, by simp only [PyData.depth, PyData.depthAll]; decide⟩
      have hlZ := sb4 _ _ (apart pur na7) h7
      refine ⟨a7, _, (r4 : Int), _, rfl, rfl, SqL.of hlZ, atI_nat hv, ?_⟩
      exact q HZ v d cells4 _ (sb.trans sb4) pur4 (by omega) (hd.mono (fun b o nb e => sb4 b o (apart0 hP nb) e) (fun b o h _ => h)) hf hc hdd
    exact ⟨_, rfl, q H4 (nV n) (.int (n : Int)) cells3 _ sb pur (by omega) (.int _) (fine_n hn30) (by simp only [cost]; decide) (by simp only [PyData.depth]; decide)⟩
end
end WK
namespace WK
open PySem PySem.Spec PyProof.Rows L2
abbrev s_law_first : Stmt := topS 37
theorem sc_law_first : FnScope ["_law_which", "_law_one", "_law_two"] ["_law_which", "_law_one", "_law_two"] (defScope s_law_first) := ⟨rfl, rfl, rfl, by decide +kernel, rfl, by decide +kernel, by decide +kernel⟩
abbrev s_law_second : Stmt := topS 38
theorem sc_law_second : FnScope ["_law_which", "_law_one", "_law_two"] ["_law_which", "_law_one", "_law_two"] (defScope s_law_second) := ⟨rfl, rfl, rfl, by decide +kernel, rfl, by decide +kernel, by decide +kernel⟩
abbrev s_law_third : Stmt := topS 39
theorem sc_law_third : FnScope ["_law_which"] ["_law_which"] (defScope s_law_third) := ⟨rfl, rfl, rfl, by decide +kernel, rfl, by decide +kernel, by decide +kernel⟩
abbrev s_law_fourth : Stmt := topS 40
theorem sc_law_fourth : FnScope ["_law_which", "_law_line"] ["_law_which", "_law_line"] (defScope s_law_fourth) := ⟨rfl, rfl, rfl, by decide +kernel, rfl, by decide +kernel, by decide +kernel⟩
def clsN : List Str := ["NoBeat", "NoFlow", "NoName", "Twice", "NoBook", "NoLoop", "NoModule", "NoNet", "NoDeed", "NoState", "NoRoom", "Dry", "Over", "NoFace", "NoPlace", "NoText", "NoBack", "NoDrive", "NoLane", "NoLine", "NoMeasure", "NoPart", "NoTitle", "NoWait", "NoWay", "NoWord", "TooDeep", "TooLong"]
def fldN : List Str := ["name", "name", "name", "name", "wrong", "wrong", "wrong", "wrong", "at", "at", "lane", "lane", "lane", "paper", "place"]
theorem neI {i j : Int} (h : i ≠ j) : decide (V.int i = V.int j) = false := decide_eq_false fun z => h (V.int.inj z)
theorem eqI {i : Int} : decide (V.int i = V.int i) = true := decide_eq_true rfl
theorem exo_keep {H : Hp} {a C : Addr} {N : Addr → Prop} (na : H a = none) : Keeps N H (upd H a (exo a C none)) := fun b o _ e => by
  rw [upd_ne (fun z => by rw [z, na] at e; cases e)]
  exact e
/-- behind the making of a refusal -/
theorem fin_at {H H1 : Hp} {a dd C : Addr} {o1 o2 o3 : HO} (na : H a = none) (s1 : Same (upd H a (exo a C none)) H1) (nd : H1 dd = none) (ne : dd ≠ a) {b : Addr} (hb : b ≠ a) (hb2 : b ≠ dd) : (upd (del (upd (upd H1 dd o1) a o2) a) dd o3) b = H1 b := by
  rw [upd_ne hb2, del_ne hb, upd_ne hb, upd_ne hb2]
theorem fin_same {H H1 : Hp} {a dd C : Addr} {o1 o2 o3 : HO} (na : H a = none) (s1 : Same (upd H a (exo a C none)) H1) (nd : H1 dd = none) (ne : dd ≠ a) : Same H (upd (del (upd (upd H1 dd o1) a o2) a) dd o3) := fun b o e => by
  have hb : b ≠ a := fun z => by rw [z, na] at e; cases e
  have e1 : H1 b = some o := s1 _ _ (by rw [upd_ne hb]; exact e)
  have hb2 : b ≠ dd := fun z => by rw [z, nd] at e1; cases e1
  rw [fin_at na s1 nd ne hb hb2]
  exact e1
theorem fin_none {H H1 : Hp} {a dd C : Addr} (na : H a = none) (s1 : Same (upd H a (exo a C none)) H1) (nd : H1 dd = none) (ne : dd ≠ a) : H dd = none := by
  have := none_of s1 nd
  rw [upd_ne ne] at this
  exact this
theorem fin_dp {H H1 : Hp} {a dd C : Addr} {o1 o2 o3 : HO} {u : V} {d : PyData} (na : H a = none) (s1 : Same (upd H a (exo a C none)) H1) (nd : H1 dd = none) (ne : dd ≠ a) (hu : DpN H1 (fun b => (upd H a (exo a C none)) b = none) u d) : DpN (upd (del (upd (upd H1 dd o1) a o2) a) dd o3) (fun b => H b = none ∧ b ≠ dd) u d := by
  have far : ∀ b o, (upd H a (exo a C none)) b = none → H1 b = some o → b ≠ a ∧ b ≠ dd := fun b o h e => ⟨fun z => (by rw [z, upd_same] at h; cases h), fun z => (by rw [z, nd] at e; cases e)⟩
  refine hu.mono (fun b o h e => ?_) (fun b o h e => ?_)
  · rw [fin_at na s1 nd ne (far b o h e).1 (far b o h e).2]
    exact e
  · have f := far b o h e
    rw [upd_ne f.1] at h
    exact ⟨h, f.2⟩
section
variable {P : Program} {w : World} {K : PySem.W.Frag} {mg : Str → Option Value} {base : Heap}
def sp_raise16 (K : PySem.W.Frag) : Sp := fun vs H Q E => ∃ (k : Nat) (v1 v2 : V) (d1 d2 : PyData) (N : Addr → Prop), vs = [nV k, v1, v2] ∧ DpN H N v1 d1 ∧ d1.depth ≤ 5 ∧ DpN H N v2 d2 ∧ d2.depth ≤ 5 ∧ (16 ≤ k → Q .non H) ∧
  (k < 15 → ∀ x f C D H' u, clsN[k]? = some x → fldN[k]? = some f → PySem.W.nsIn K mainGlobals x = some (some (.ref C)) → Same H H' → H D = none → H' D = some (.xd [(f, u)]) → DpN H' (fun b => H b = none ∧ b ≠ D) u d1 → E (.ref C) (some D) H') ∧
  (k = 15 → ∀ C D H' u1 u2, PySem.W.nsIn K mainGlobals "NoText" = some (some (.ref C)) → Same H H' → H D = none → H' D = some (.xd [("at", u2), ("row", u1)]) → DpN H' (fun b => H b = none ∧ b ≠ D) u1 d1 → DpN H' (fun b => H b = none ∧ b ≠ D) u2 d2 → E (.ref C) (some D) H')
theorem one_end {E : XK} {H H1 : Hp} {a dd C : Addr} {f x : Str} {u : V} {d1 : PyData} {k : Nat} (na : H a = none) (s1 : Same (upd H a (exo a C none)) H1) (hu : DpN H1 (fun b => (upd H a (exo a C none)) b = none) u d1) (nd : H1 dd = none) (ne : dd ≠ a) (hC : PySem.W.nsIn K mainGlobals x = some (some (.ref C))) (hx : clsN[k]? = some x) (hf : fldN[k]? = some f)
    (qe : ∀ x f C D H' u, clsN[k]? = some x → fldN[k]? = some f → PySem.W.nsIn K mainGlobals x = some (some (.ref C)) → Same H H' → H D = none → H' D = some (.xd [(f, u)]) → DpN H' (fun b => H b = none ∧ b ≠ D) u d1 → E (.ref C) (some D) H') :
    V.non = V.non ∧ ∃ (d : Addr) (fs : List (Str × V)), (upd (upd H1 dd (exd dd [(f, u)])) a (exo a C (some dd))) a = some (exo a C (some d)) ∧ (upd (upd H1 dd (exd dd [(f, u)])) a (exo a C (some dd))) d = some (exd d fs) ∧ H d = none ∧ E (.ref C) (some d) (upd (del (upd (upd H1 dd (exd dd [(f, u)])) a (exo a C (some dd))) a) d (.xd fs)) := by
  refine ⟨rfl, dd, [(f, u)], upd_same, ?_, fin_none na s1 nd ne, ?_⟩
  · rw [upd_ne ne, upd_same]
  · exact qe x f C dd _ u hx hf hC (fin_same na s1 nd ne) (fin_none na s1 nd ne) upd_same (fin_dp na s1 nd ne hu)
theorem two_end {E : XK} {H H1 H2 : Hp} {a dd C : Addr} {u1 u2 : V} {d1 d2 : PyData} (na : H a = none) (s1 : Same (upd H a (exo a C none)) H1) (hu : DpN H1 (fun b => (upd H a (exo a C none)) b = none) u1 d1) (nd : H1 dd = none) (ne : dd ≠ a) (hC : PySem.W.nsIn K mainGlobals "NoText" = some (some (.ref C)))
    (s2 : Same (upd (upd H1 dd (exd dd [("row", u1)])) a (exo a C (some dd))) H2) (hu2 : DpN H2 (fun b => (upd (upd H1 dd (exd dd [("row", u1)])) a (exo a C (some dd))) b = none) u2 d2)
    (qe : ∀ C D H' u1 u2, PySem.W.nsIn K mainGlobals "NoText" = some (some (.ref C)) → Same H H' → H D = none → H' D = some (.xd [("at", u2), ("row", u1)]) → DpN H' (fun b => H b = none ∧ b ≠ D) u1 d1 → DpN H' (fun b => H b = none ∧ b ≠ D) u2 d2 → E (.ref C) (some D) H') :
    V.non = V.non ∧ ∃ (d : Addr) (fs : List (Str × V)), (upd H2 dd (exd dd [("at", u2), ("row", u1)])) a = some (exo a C (some d)) ∧ (upd H2 dd (exd dd [("at", u2), ("row", u1)])) d = some (exd d fs) ∧ H d = none ∧ E (.ref C) (some d) (upd (del (upd H2 dd (exd dd [("at", u2), ("row", u1)])) a) d (.xd fs)) := by
  have up : ∀ b o, b ≠ a → b ≠ dd → H1 b = some o → (upd (del (upd H2 dd (exd dd [("at", u2), ("row", u1)])) a) dd (.xd [("at", u2), ("row", u1)])) b = some o := fun b o n1 n2 e => by
    rw [upd_ne n2, del_ne n1, upd_ne n2]
    exact s2 _ _ (by rw [upd_ne n1, upd_ne n2]; exact e)
  have far : ∀ b o, (upd H a (exo a C none)) b = none → H1 b = some o → b ≠ a ∧ b ≠ dd := fun b o h e => ⟨fun z => (by rw [z, upd_same] at h; cases h), fun z => (by rw [z, nd] at e; cases e)⟩
  have far2 : ∀ b, (upd (upd H1 dd (exd dd [("row", u1)])) a (exo a C (some dd))) b = none → b ≠ a ∧ b ≠ dd := fun b h => by
    by_cases z : b = a
    · rw [z, upd_same] at h
      cases h
    · refine ⟨z, fun z2 => ?_⟩
      rw [z2, upd_ne ne, upd_same] at h
      cases h
  refine ⟨rfl, dd, _, ?_, upd_same, fin_none na s1 nd ne, qe C dd _ u1 u2 hC (fun b o e => ?_) (fin_none na s1 nd ne) upd_same (hu.mono (fun b o h e => up b o (far b o h e).1 (far b o h e).2 e) (fun b o h e => ?_)) (hu2.mono (fun b o h e => ?_) (fun b o h e => ?_))⟩
  · rw [upd_ne ne.symm]
    exact s2 _ _ upd_same
  · have hb : b ≠ a := fun z => by rw [z, na] at e; cases e
    have e1 : H1 b = some o := s1 _ _ (by rw [upd_ne hb]; exact e)
    exact up b o hb (fun z => by rw [z, nd] at e1; cases e1) e1
  · have f := far b o h e
    rw [upd_ne f.1] at h
    exact ⟨h, f.2⟩
  · have f := far2 b h
    rw [upd_ne f.2, del_ne f.1, upd_ne f.2]
    exact e
  · have f := far2 b h
    rw [upd_ne f.1, upd_ne f.2] at h
    have h2 := none_of s1 h
    rw [upd_ne f.1] at h2
    exact ⟨h2, f.2⟩
def sp_law_first (K : PySem.W.Frag) : Sp := sp_raise16 K
theorem ok_law_first {f : Addr} {fd : FuncData} (F : Fun K "_law_first" "_law_first" s_law_first f fd) {C_Dry f_Dryi : Addr} {fd_Dryi : FuncData} (x_Dry : XCal P w K mg base 7 "Dry" C_Dry f_Dryi fd_Dryi ["self", "lane"] ["lane"] (sp_Dry_init K)) {C_NoBeat f_NoBeati : Addr} {fd_NoBeati : FuncData} (x_NoBeat : XCal P w K mg base 7 "NoBeat" C_NoBeat f_NoBeati fd_NoBeati ["self", "name"] ["name"] (sp_NoBeat_init K)) {C_NoBook f_NoBooki : Addr} {fd_NoBooki : FuncData} (x_NoBook : XCal P w K mg base 7 "NoBook" C_NoBook f_NoBooki fd_NoBooki ["self", "wrong"] ["wrong"] (sp_NoBook_init K)) {C_NoDeed f_NoDeedi : Addr} {fd_NoDeedi : FuncData} (x_NoDeed : XCal P w K mg base 7 "NoDeed" C_NoDeed f_NoDeedi fd_NoDeedi ["self", "at"] ["at"] (sp_NoDeed_init K)) {C_NoFace f_NoFacei : Addr} {fd_NoFacei : FuncData} (x_NoFace : XCal P w K mg base 7 "NoFace" C_NoFace f_NoFacei fd_NoFacei ["self", "paper"] ["paper"] (sp_NoFace_init K)) {C_NoFlow f_NoFlowi : Addr} {fd_NoFlowi : FuncData} (x_NoFlow : XCal P w K mg base 7 "NoFlow" C_NoFlow f_NoFlowi fd_NoFlowi ["self", "name"] ["name"] (sp_NoFlow_init K)) {C_NoLoop f_NoLoopi : Addr} {fd_NoLoopi : FuncData} (x_NoLoop : XCal P w K mg base 7 "NoLoop" C_NoLoop f_NoLoopi fd_NoLoopi ["self", "wrong"] ["wrong"] (sp_NoLoop_init K)) {C_NoModule f_NoModulei : Addr} {fd_NoModulei : FuncData} (x_NoModule : XCal P w K mg base 7 "NoModule" C_NoModule f_NoModulei fd_NoModulei ["self", "wrong"] ["wrong"] (sp_NoModule_init K)) {C_NoName f_NoNamei : Addr} {fd_NoNamei : FuncData} (x_NoName : XCal P w K mg base 7 "NoName" C_NoName f_NoNamei fd_NoNamei ["self", "name"] ["name"] (sp_NoName_init K)) {C_NoNet f_NoNeti : Addr} {fd_NoNeti : FuncData} (x_NoNet : XCal P w K mg base 7 "NoNet" C_NoNet f_NoNeti fd_NoNeti ["self", "wrong"] ["wrong"] (sp_NoNet_init K)) {C_NoPlace f_NoPlacei : Addr} {fd_NoPlacei : FuncData} (x_NoPlace : XCal P w K mg base 7 "NoPlace" C_NoPlace f_NoPlacei fd_NoPlacei ["self", "place"] ["place"] (sp_NoPlace_init K)) {C_NoRoom f_NoRoomi : Addr} {fd_NoRoomi : FuncData} (x_NoRoom : XCal P w K mg base 7 "NoRoom" C_NoRoom f_NoRoomi fd_NoRoomi ["self", "lane"] ["lane"] (sp_NoRoom_init K)) {C_NoState f_NoStatei : Addr} {fd_NoStatei : FuncData} (x_NoState : XCal P w K mg base 7 "NoState" C_NoState f_NoStatei fd_NoStatei ["self", "at"] ["at"] (sp_NoState_init K)) {C_NoText f_NoTexti : Addr} {fd_NoTexti : FuncData} (x_NoText : XCal P w K mg base 7 "NoText" C_NoText f_NoTexti fd_NoTexti ["self", "row", "at"] ["row", "at"] (sp_NoText_init K)) {C_Over f_Overi : Addr} {fd_Overi : FuncData} (x_Over : XCal P w K mg base 7 "Over" C_Over f_Overi fd_Overi ["self", "lane"] ["lane"] (sp_Over_init K)) {C_Twice f_Twicei : Addr} {fd_Twicei : FuncData} (x_Twice : XCal P w K mg base 7 "Twice" C_Twice f_Twicei fd_Twicei ["self", "name"] ["name"] (sp_Twice_init K)) : FnOk P w K mg base (L2.CX P w) 9 f fd ["_law_which", "_law_one", "_law_two"] (sp_law_first K) := by
  refine F.okX sc_law_first (fun vs H Q E h => ?_) (fun cdv A outer s H vs Q E hr h => ?_)
  · obtain ⟨_, _, _, _, _, _, rfl, _⟩ := h
    rfl
  · obtain ⟨k, v1, v2, d1, d2, N, rfl, h1, hn1, h2, hn2, q16, qe, qt⟩ := h
    refine ⟨_, (pss_cons (ps_if (pt_cmpR op_eq (pv 0) pe_int (nomark _))
        (pss_one (ps_raise rfl (takes_of rfl rfl rfl rfl) (pmk_oex x_NoBeat.T x_NoBeat.iC x_NoBeat.tI x_NoBeat.G (hr.mono (by decide)) x_NoBeat.b .nil pass0 (by rfl) x_NoBeat.g (pa_cons (pv 1) pa_nil))))
        pss_nil)
      (pss_cons (ps_if (pt_cmpR op_eq (pv 0) pe_int (nomark _))
        (pss_one (ps_raise rfl (takes_of rfl rfl rfl rfl) (pmk_oex x_NoFlow.T x_NoFlow.iC x_NoFlow.tI x_NoFlow.G (hr.mono (by decide)) x_NoFlow.b .nil pass0 (by rfl) x_NoFlow.g (pa_cons (pv 1) pa_nil))))
        pss_nil)
      (pss_cons (ps_if (pt_cmpR op_eq (pv 0) pe_int (nomark _))
        (pss_one (ps_raise rfl (takes_of rfl rfl rfl rfl) (pmk_oex x_NoName.T x_NoName.iC x_NoName.tI x_NoName.G (hr.mono (by decide)) x_NoName.b .nil pass0 (by rfl) x_NoName.g (pa_cons (pv 1) pa_nil))))
        pss_nil)
      (pss_cons (ps_if (pt_cmpR op_eq (pv 0) pe_int (nomark _))
        (pss_one (ps_raise rfl (takes_of rfl rfl rfl rfl) (pmk_oex x_Twice.T x_Twice.iC x_Twice.tI x_Twice.G (hr.mono (by decide)) x_Twice.b .nil pass0 (by rfl) x_Twice.g (pa_cons (pv 1) pa_nil))))
        pss_nil)
      (pss_cons (ps_if (pt_cmpR op_eq (pv 0) pe_int (nomark _))
        (pss_one (ps_raise rfl (takes_of rfl rfl rfl rfl) (pmk_oex x_NoBook.T x_NoBook.iC x_NoBook.tI x_NoBook.G (hr.mono (by decide)) x_NoBook.b .nil pass0 (by rfl) x_NoBook.g (pa_cons (pv 1) pa_nil))))
        pss_nil)
      (pss_cons (ps_if (pt_cmpR op_eq (pv 0) pe_int (nomark _))
        (pss_one (ps_raise rfl (takes_of rfl rfl rfl rfl) (pmk_oex x_NoLoop.T x_NoLoop.iC x_NoLoop.tI x_NoLoop.G (hr.mono (by decide)) x_NoLoop.b .nil pass0 (by rfl) x_NoLoop.g (pa_cons (pv 1) pa_nil))))
        pss_nil)
      (pss_cons (ps_if (pt_cmpR op_eq (pv 0) pe_int (nomark _))
        (pss_one (ps_raise rfl (takes_of rfl rfl rfl rfl) (pmk_oex x_NoModule.T x_NoModule.iC x_NoModule.tI x_NoModule.G (hr.mono (by decide)) x_NoModule.b .nil pass0 (by rfl) x_NoModule.g (pa_cons (pv 1) pa_nil))))
        pss_nil)
      (pss_cons (ps_if (pt_cmpR op_eq (pv 0) pe_int (nomark _))
        (pss_one (ps_raise rfl (takes_of rfl rfl rfl rfl) (pmk_oex x_NoNet.T x_NoNet.iC x_NoNet.tI x_NoNet.G (hr.mono (by decide)) x_NoNet.b .nil pass0 (by rfl) x_NoNet.g (pa_cons (pv 1) pa_nil))))
        pss_nil)
      (pss_cons (ps_if (pt_cmpR op_eq (pv 0) pe_int (nomark _))
        (pss_one (ps_raise rfl (takes_of rfl rfl rfl rfl) (pmk_oex x_NoDeed.T x_NoDeed.iC x_NoDeed.tI x_NoDeed.G (hr.mono (by decide)) x_NoDeed.b .nil pass0 (by rfl) x_NoDeed.g (pa_cons (pv 1) pa_nil))))
        pss_nil)
      (pss_cons (ps_if (pt_cmpR op_eq (pv 0) pe_int (nomark _))
        (pss_one (ps_raise rfl (takes_of rfl rfl rfl rfl) (pmk_oex x_NoState.T x_NoState.iC x_NoState.tI x_NoState.G (hr.mono (by decide)) x_NoState.b .nil pass0 (by rfl) x_NoState.g (pa_cons (pv 1) pa_nil))))
        pss_nil)
      (pss_cons (ps_if (pt_cmpR op_eq (pv 0) pe_int (nomark _))
        (pss_one (ps_raise rfl (takes_of rfl rfl rfl rfl) (pmk_oex x_NoRoom.T x_NoRoom.iC x_NoRoom.tI x_NoRoom.G (hr.mono (by decide)) x_NoRoom.b .nil pass0 (by rfl) x_NoRoom.g (pa_cons (pv 1) pa_nil))))
        pss_nil)
      (pss_cons (ps_if (pt_cmpR op_eq (pv 0) pe_int (nomark _))
        (pss_one (ps_raise rfl (takes_of rfl rfl rfl rfl) (pmk_oex x_Dry.T x_Dry.iC x_Dry.tI x_Dry.G (hr.mono (by decide)) x_Dry.b .nil pass0 (by rfl) x_Dry.g (pa_cons (pv 1) pa_nil))))
        pss_nil)
      (pss_cons (ps_if (pt_cmpR op_eq (pv 0) pe_int (nomark _))
        (pss_one (ps_raise rfl (takes_of rfl rfl rfl rfl) (pmk_oex x_Over.T x_Over.iC x_Over.tI x_Over.G (hr.mono (by decide)) x_Over.b .nil pass0 (by rfl) x_Over.g (pa_cons (pv 1) pa_nil))))
        pss_nil)
      (pss_cons (ps_if (pt_cmpR op_eq (pv 0) pe_int (nomark _))
        (pss_one (ps_raise rfl (takes_of rfl rfl rfl rfl) (pmk_oex x_NoFace.T x_NoFace.iC x_NoFace.tI x_NoFace.G (hr.mono (by decide)) x_NoFace.b .nil pass0 (by rfl) x_NoFace.g (pa_cons (pv 1) pa_nil))))
        pss_nil)
      (pss_cons (ps_if (pt_cmpR op_eq (pv 0) pe_int (nomark _))
        (pss_one (ps_raise rfl (takes_of rfl rfl rfl rfl) (pmk_oex x_NoPlace.T x_NoPlace.iC x_NoPlace.tI x_NoPlace.G (hr.mono (by decide)) x_NoPlace.b .nil pass0 (by rfl) x_NoPlace.g (pa_cons (pv 1) pa_nil))))
        pss_nil)
      (pss_one (ps_if (pt_cmpR op_eq (pv 0) pe_int (nomark _))
        (pss_one (ps_raise rfl (takes_of rfl rfl rfl rfl) (pmk_oex x_NoText.T x_NoText.iC x_NoText.tI x_NoText.G (hr.mono (by decide)) x_NoText.b .nil pass0 (by rfl) x_NoText.g (pa_cons (pv 1) (pa_cons (pv 2) pa_nil)))))
        pss_nil))))))))))))))))), ?_⟩
    rcases (show k = 0 ∨ k = 1 ∨ k = 2 ∨ k = 3 ∨ k = 4 ∨ k = 5 ∨ k = 6 ∨ k = 7 ∨ k = 8 ∨ k = 9 ∨ k = 10 ∨ k = 11 ∨ k = 12 ∨ k = 13 ∨ k = 14 ∨ k = 15 ∨ 16 ≤ k by omega) with rfl | rfl | rfl | rfl | rfl | rfl | rfl | rfl | rfl | rfl | rfl | rfl | rfl | rfl | rfl | rfl | hk
    · clear q16 qt
      refine ⟨_, rfl, rfl, true, congrArg V.bl eqI, iteT ?_⟩
      exact ⟨_, rfl, by show 1 ≤ 1000; decide, fun a na => ⟨a, C_NoBeat, v1, d1, N, rfl, x_NoBeat.T, x_NoBeat.no _ List.mem_cons_self, upd_same, h1.mono (exo_keep na) (fun b o h _ => h), hn1, fun H1 u dd s1 hu nd ne => one_end (k := 0) na s1 hu nd ne x_NoBeat.a rfl rfl (qe (by decide))⟩⟩
    · clear q16 qt
      refine ⟨_, rfl, rfl, false, congrArg V.bl (neI (by decide)), iteF ?_⟩
      refine ⟨_, rfl, rfl, true, congrArg V.bl eqI, iteT ?_⟩
      exact ⟨_, rfl, by show 1 ≤ 1000; decide, fun a na => ⟨a, C_NoFlow, v1, d1, N, rfl, x_NoFlow.T, x_NoFlow.no _ List.mem_cons_self, upd_same, h1.mono (exo_keep na) (fun b o h _ => h), hn1, fun H1 u dd s1 hu nd ne => one_end (k := 1) na s1 hu nd ne x_NoFlow.a rfl rfl (qe (by decide))⟩⟩
    · clear q16 qt
      refine ⟨_, rfl, rfl, false, congrArg V.bl (neI (by decide)), iteF ?_⟩
      refine ⟨_, rfl, rfl, false, congrArg V.bl (neI (by decide)), iteF ?_⟩
      refine ⟨_, rfl, rfl, true, congrArg V.bl eqI, iteT ?_⟩
      exact ⟨_, rfl, by show 1 ≤ 1000; decide, fun a na => ⟨a, C_NoName, v1, d1, N, rfl, x_NoName.T, x_NoName.no _ List.mem_cons_self, upd_same, h1.mono (exo_keep na) (fun b o h _ => h), hn1, fun H1 u dd s1 hu nd ne => one_end (k := 2) na s1 hu nd ne x_NoName.a rfl rfl (qe (by decide))⟩⟩
    · clear q16 qt
      refine ⟨_, rfl, rfl, false, congrArg V.bl (neI (by decide)), iteF ?_⟩
      refine ⟨_, rfl, rfl, false, congrArg V.bl (neI (by decide)), iteF ?_⟩
      refine ⟨_, rfl, rfl, false, congrArg V.bl (neI (by decide)), iteF ?_⟩
      refine ⟨_, rfl, rfl, true, congrArg V.bl eqI, iteT ?_⟩
      exact ⟨_, rfl, by show 1 ≤ 1000; decide, fun a na => ⟨a, C_Twice, v1, d1, N, rfl, x_Twice.T, x_Twice.no _ List.mem_cons_self, upd_same, h1.mono (exo_keep na) (fun b o h _ => h), hn1, fun H1 u dd s1 hu nd ne => one_end (k := 3) na s1 hu nd ne x_Twice.a rfl rfl (qe (by decide))⟩⟩
    · clear q16 qt
      refine ⟨_, rfl, rfl, false, congrArg V.bl (neI (by decide)), iteF ?_⟩
      refine ⟨_, rfl, rfl, false, congrArg V.bl (neI (by decide)), iteF ?_⟩
      refine ⟨_, rfl, rfl, false, congrArg V.bl (neI (by decide)), iteF ?_⟩
      refine ⟨_, rfl, rfl, false, congrArg V.bl (neI (by decide)), iteF ?_⟩
      refine ⟨_, rfl, rfl, true, congrArg V.bl eqI, iteT ?_⟩
      exact ⟨_, rfl, by show 1 ≤ 1000; decide, fun a na => ⟨a, C_NoBook, v1, d1, N, rfl, x_NoBook.T, x_NoBook.no _ List.mem_cons_self, upd_same, h1.mono (exo_keep na) (fun b o h _ => h), hn1, fun H1 u dd s1 hu nd ne => one_end (k := 4) na s1 hu nd ne x_NoBook.a rfl rfl (qe (by decide))⟩⟩
    · clear q16 qt
      refine ⟨_, rfl, rfl, false, congrArg V.bl (neI (by decide)), iteF ?_⟩
      refine ⟨_, rfl, rfl, false, congrArg V.bl (neI (by decide)), iteF ?_⟩
      refine ⟨_, rfl, rfl, false, congrArg V.bl (neI (by decide)), iteF ?_⟩
      refine ⟨_, rfl, rfl, false, congrArg V.bl (neI (by decide)), iteF ?_⟩
      refine ⟨_, rfl, rfl, false, congrArg V.bl (neI (by decide)), iteF ?_⟩
      refine ⟨_, rfl, rfl, true, congrArg V.bl eqI, iteT ?_⟩
      exact ⟨_, rfl, by show 1 ≤ 1000; decide, fun a na => ⟨a, C_NoLoop, v1, d1, N, rfl, x_NoLoop.T, x_NoLoop.no _ List.mem_cons_self, upd_same, h1.mono (exo_keep na) (fun b o h _ => h), hn1, fun H1 u dd s1 hu nd ne => one_end (k := 5) na s1 hu nd ne x_NoLoop.a rfl rfl (qe (by decide))⟩⟩
    · clear q16 qt
      refine ⟨_, rfl, rfl, false, congrArg V.bl (neI (by decide)), iteF ?_⟩
      refine ⟨_, rfl, rfl, false, congrArg V.bl (neI (by decide)), iteF ?_⟩
      refine ⟨_, rfl, rfl, false, congrArg V.bl (neI (by decide)), iteF ?_⟩
      refine ⟨_, rfl, rfl, false, congrArg V.bl (neI (by decide)), iteF ?_⟩
      refine ⟨_, rfl, rfl, false, congrArg V.bl (neI (by decide)), iteF ?_⟩
      refine ⟨_, rfl, rfl, false, congrArg V.bl (neI (by decide)), iteF ?_⟩
      refine ⟨_, rfl, rfl, true, congrArg V.bl eqI, iteT ?_⟩
      exact ⟨_, rfl, by show 1 ≤ 1000; decide, fun a na => ⟨a, C_NoModule, v1, d1, N, rfl, x_NoModule.T, x_NoModule.no _ List.mem_cons_self, upd_same, h1.mono (exo_keep na) (fun b o h _ => h), hn1, fun H1 u dd s1 hu nd ne => one_end (k := 6) na s1 hu nd ne x_NoModule.a rfl rfl (qe (by decide))⟩⟩
    · clear q16 qt
      refine ⟨_, rfl, rfl, false, congrArg V.bl (neI (by decide)), iteF ?_⟩
      refine ⟨_, rfl, rfl, false, congrArg V.bl (neI (by decide)), iteF ?_⟩
      refine ⟨_, rfl, rfl, false, congrArg V.bl (neI (by decide)), iteF ?_⟩
      refine ⟨_, rfl, rfl, false, congrArg V.bl (neI (by decide)), iteF ?_⟩
      refine ⟨_, rfl, rfl, false, congrArg V.bl (neI (by decide)), iteF ?_⟩
      refine ⟨_, rfl, rfl, false, congrArg V.bl (neI (by decide)), iteF ?_⟩
      refine ⟨_, rfl, rfl, false, congrArg V.bl (neI (by decide)), iteF ?_⟩
      refine ⟨_, rfl, rfl, true, congrArg V.bl eqI, iteT ?_⟩
      exact ⟨_, rfl, by show 1 ≤ 1000; decide, fun a na => ⟨a, C_NoNet, v1, d1, N, rfl, x_NoNet.T, x_NoNet.no _ List.mem_cons_self, upd_same, h1.mono (exo_keep na) (fun b o h _ => h), hn1, fun H1 u dd s1 hu nd ne => one_end (k := 7) na s1 hu nd ne x_NoNet.a rfl rfl (qe (by decide))⟩⟩
    · clear q16 qt
      refine ⟨_, rfl, rfl, false, congrArg V.bl (neI (by decide)), iteF ?_⟩
      refine ⟨_, rfl, rfl, false, congrArg V.bl (neI (by decide)), iteF ?_⟩
      refine ⟨_, rfl, rfl, false, congrArg V.bl (neI (by decide)), iteF ?_⟩
      refine ⟨_, rfl, rfl, false, congrArg V.bl (neI (by decide)), iteF ?_⟩
      refine ⟨_, rfl, rfl, false, congrArg V.bl (neI (by decide)), iteF ?_⟩
      refine ⟨_, rfl, rfl, false, congrArg V.bl (neI (by decide)), iteF ?_⟩
      refine ⟨_, rfl, rfl, false, congrArg V.bl (neI (by decide)), iteF ?_⟩
      refine ⟨_, rfl, rfl, false, congrArg V.bl (neI (by decide)), iteF ?_⟩
      refine ⟨_, rfl, rfl, true, congrArg V.bl eqI, iteT ?_⟩
      exact ⟨_, rfl, by show 1 ≤ 1000; decide, fun a na => ⟨a, C_NoDeed, v1, d1, N, rfl, x_NoDeed.T, x_NoDeed.no _ List.mem_cons_self, upd_same, h1.mono (exo_keep na) (fun b o h _ => h), hn1, fun H1 u dd s1 hu nd ne => one_end (k := 8) na s1 hu nd ne x_NoDeed.a rfl rfl (qe (by decide))⟩⟩
    · clear q16 qt
      refine ⟨_, rfl, rfl, false, congrArg V.bl (neI (by decide)), iteF ?_⟩
      refine ⟨_, rfl, rfl, false, congrArg V.bl (neI (by decide)), iteF ?_⟩
      refine ⟨_, rfl, rfl, false, congrArg V.bl (neI (by decide)), iteF ?_⟩
      refine ⟨_, rfl, rfl, false, congrArg V.bl (neI (by decide)), iteF ?_⟩
      refine ⟨_, rfl, rfl, false, congrArg V.bl (neI (by decide)), iteF ?_⟩
      refine ⟨_, rfl, rfl, false, congrArg V.bl (neI (by decide)), iteF ?_⟩
      refine ⟨_, rfl, rfl, false, congrArg V.bl (neI (by decide)), iteF ?_⟩
      refine ⟨_, rfl, rfl, false, congrArg V.bl (neI (by decide)), iteF ?_⟩
      refine ⟨_, rfl, rfl, false, congrArg V.bl (neI (by decide)), iteF ?_⟩
      refine ⟨_, rfl, rfl, true, congrArg V.bl eqI, iteT ?_⟩
      exact ⟨_, rfl, by show 1 ≤ 1000; decide, fun a na => ⟨a, C_NoState, v1, d1, N, rfl, x_NoState.T, x_NoState.no _ List.mem_cons_self, upd_same, h1.mono (exo_keep na) (fun b o h _ => h), hn1, fun H1 u dd s1 hu nd ne => one_end (k := 9) na s1 hu nd ne x_NoState.a rfl rfl (qe (by decide))⟩⟩
    · clear q16 qt
      refine ⟨_, rfl, rfl, false, congrArg V.bl (neI (by decide)), iteF ?_⟩
      refine ⟨_, rfl, rfl, false, congrArg V.bl (neI (by decide)), iteF ?_⟩
      refine ⟨_, rfl, rfl, false, congrArg V.bl (neI (by decide)), iteF ?_⟩
      refine ⟨_, rfl, rfl, false, congrArg V.bl (neI (by decide)), iteF ?_⟩
      refine ⟨_, rfl, rfl, false, congrArg V.bl (neI (by decide)), iteF ?_⟩
      refine ⟨_, rfl, rfl, false, congrArg V.bl (neI (by decide)), iteF ?_⟩
      refine ⟨_, rfl, rfl, false, congrArg V.bl (neI (by decide)), iteF ?_⟩
      refine ⟨_, rfl, rfl, false, congrArg V.bl (neI (by decide)), iteF ?_⟩
      refine ⟨_, rfl, rfl, false, congrArg V.bl (neI (by decide)), iteF ?_⟩
      refine ⟨_, rfl, rfl, false, congrArg V.bl (neI (by decide)), iteF ?_⟩
      refine ⟨_, rfl, rfl, true, congrArg V.bl eqI, iteT ?_⟩
      exact ⟨_, rfl, by show 1 ≤ 1000; decide, fun a na => ⟨a, C_NoRoom, v1, d1, N, rfl, x_NoRoom.T, x_NoRoom.no _ List.mem_cons_self, upd_same, h1.mono (exo_keep na) (fun b o h _ => h), hn1, fun H1 u dd s1 hu nd ne => one_end (k := 10) na s1 hu nd ne x_NoRoom.a rfl rfl (qe (by decide))⟩⟩
    · clear q16 qt
      refine ⟨_, rfl, rfl, false, congrArg V.bl (neI (by decide)), iteF ?_⟩
      refine ⟨_, rfl, rfl, false, congrArg V.bl (neI (by decide)), iteF ?_⟩
      refine ⟨_, rfl, rfl, false, congrArg V.bl (neI (by decide)), iteF ?_⟩
      refine ⟨_, rfl, rfl, false, congrArg V.bl (neI (by decide)), iteF ?_⟩
      refine ⟨_, rfl, rfl, false, congrArg V.bl (neI (by decide)), iteF ?_⟩
      refine ⟨_, rfl, rfl, false, congrArg V.bl (neI (by decide)), iteF ?_⟩
      refine ⟨_, rfl, rfl, false, congrArg V.bl (neI (by decide)), iteF ?_⟩
      refine ⟨_, rfl, rfl, false, congrArg V.bl (neI (by decide)), iteF ?_⟩
      refine ⟨_, rfl, rfl, false, congrArg V.bl (neI (by decide)), iteF ?_⟩
      refine ⟨_, rfl, rfl, false, congrArg V.bl (neI (by decide)), iteF ?_⟩
      refine ⟨_, rfl, rfl, false, congrArg V.bl (neI (by decide)), iteF ?_⟩
      refine ⟨_, rfl, rfl, true, congrArg V.bl eqI, iteT ?_⟩
      exact ⟨_, rfl, by show 1 ≤ 1000; decide, fun a na => ⟨a, C_Dry, v1, d1, N, rfl, x_Dry.T, x_Dry.no _ List.mem_cons_self, upd_same, h1.mono (exo_keep na) (fun b o h _ => h), hn1, fun H1 u dd s1 hu nd ne => one_end (k := 11) na s1 hu nd ne x_Dry.a rfl rfl (qe (by decide))⟩⟩
    · clear q16 qt
      refine ⟨_, rfl, rfl, false, congrArg V.bl (neI (by decide)), iteF ?_⟩
      refine ⟨_, rfl, rfl, false, congrArg V.bl (neI (by decide)), iteF ?_⟩
      refine ⟨_, rfl, rfl, false, congrArg V.bl (neI (by decide)), iteF ?_⟩
      refine ⟨_, rfl, rfl, false, congrArg V.bl (neI (by decide)), iteF ?_⟩
      refine ⟨_, rfl, rfl, false, congrArg V.bl (neI (by decide)), iteF ?_⟩
      refine ⟨_, rfl, rfl, false, congrArg V.bl (neI (by decide)), iteF ?_⟩
      refine ⟨_, rfl, rfl, false, congrArg V.bl (neI (by decide)), iteF ?_⟩
      refine ⟨_, rfl, rfl, false, congrArg V.bl (neI (by decide)), iteF ?_⟩
      refine ⟨_, rfl, rfl, false, congrArg V.bl (neI (by decide)), iteF ?_⟩
      refine ⟨_, rfl, rfl, false, congrArg V.bl (neI (by decide)), iteF ?_⟩
      refine ⟨_, rfl, rfl, false, congrArg V.bl (neI (by decide)), iteF ?_⟩
      refine ⟨_, rfl, rfl, false, congrArg V.bl (neI (by decide)), iteF ?_⟩
      refine ⟨_, rfl, rfl, true, congrArg V.bl eqI, iteT ?_⟩
      exact ⟨_, rfl, by show 1 ≤ 1000; decide, fun a na => ⟨a, C_Over, v1, d1, N, rfl, x_Over.T, x_Over.no _ List.mem_cons_self, upd_same, h1.mono (exo_keep na) (fun b o h _ => h), hn1, fun H1 u dd s1 hu nd ne => one_end (k := 12) na s1 hu nd ne x_Over.a rfl rfl (qe (by decide))⟩⟩
    · clear q16 qt
      refine ⟨_, rfl, rfl, false, congrArg V.bl (neI (by decide)), iteF ?_⟩
      refine ⟨_, rfl, rfl, false, congrArg V.bl (neI (by decide)), iteF ?_⟩
      refine ⟨_, rfl, rfl, false, congrArg V.bl (neI (by decide)), iteF ?_⟩
      refine ⟨_, rfl, rfl, false, congrArg V.bl (neI (by decide)), iteF ?_⟩
      refine ⟨_, rfl, rfl, false, congrArg V.bl (neI (by decide)), iteF ?_⟩
      refine ⟨_, rfl, rfl, false, congrArg V.bl (neI (by decide)), iteF ?_⟩
      refine ⟨_, rfl, rfl, false, congrArg V.bl (neI (by decide)), iteF ?_⟩
      refine ⟨_, rfl, rfl, false, congrArg V.bl (neI (by decide)), iteF ?_⟩
      refine ⟨_, rfl, rfl, false, congrArg V.bl (neI (by decide)), iteF ?_⟩
      refine ⟨_, rfl, rfl, false, congrArg V.bl (neI (by decide)), iteF ?_⟩
      refine ⟨_, rfl, rfl, false, congrArg V.bl (neI (by decide)), iteF ?_⟩
      refine ⟨_, rfl, rfl, false, congrArg V.bl (neI (by decide)), iteF ?_⟩
      refine ⟨_, rfl, rfl, false, congrArg V.bl (neI (by decide)), iteF ?_⟩
      refine ⟨_, rfl, rfl, true, congrArg V.bl eqI, iteT ?_⟩
      exact ⟨_, rfl, by show 1 ≤ 1000; decide, fun a na => ⟨a, C_NoFace, v1, d1, N, rfl, x_NoFace.T, x_NoFace.no _ List.mem_cons_self, upd_same, h1.mono (exo_keep na) (fun b o h _ => h), hn1, fun H1 u dd s1 hu nd ne => one_end (k := 13) na s1 hu nd ne x_NoFace.a rfl rfl (qe (by decide))⟩⟩
    · clear q16 qt
      refine ⟨_, rfl, rfl, false, congrArg V.bl (neI (by decide)), iteF ?_⟩
      refine ⟨_, rfl, rfl, false, congrArg V.bl (neI (by decide)), iteF ?_⟩
      refine ⟨_, rfl, rfl, false, congrArg V.bl (neI (by decide)), iteF ?_⟩
      refine ⟨_, rfl, rfl, false, congrArg V.bl (neI (by decide)), iteF ?_⟩
      refine ⟨_, rfl, rfl, false, congrArg V.bl (neI (by decide)), iteF ?_⟩
      refine ⟨_, rfl, rfl, false, congrArg V.bl (neI (by decide)), iteF ?_⟩
      refine ⟨_, rfl, rfl, false, congrArg V.bl (neI (by decide)), iteF ?_⟩
      refine ⟨_, rfl, rfl, false, congrArg V.bl (neI (by decide)), iteF ?_⟩
      refine ⟨_, rfl, rfl, false, congrArg V.bl (neI (by decide)), iteF ?_⟩
      refine ⟨_, rfl, rfl, false, congrArg V.bl (neI (by decide)), iteF ?_⟩
      refine ⟨_, rfl, rfl, false, congrArg V.bl (neI (by decide)), iteF ?_⟩
      refine ⟨_, rfl, rfl, false, congrArg V.bl (neI (by decide)), iteF ?_⟩
      refine ⟨_, rfl, rfl, false, congrArg V.bl (neI (by decide)), iteF ?_⟩
      refine ⟨_, rfl, rfl, false, congrArg V.bl (neI (by decide)), iteF ?_⟩
      refine ⟨_, rfl, rfl, true, congrArg V.bl eqI, iteT ?_⟩
      exact ⟨_, rfl, by show 1 ≤ 1000; decide, fun a na => ⟨a, C_NoPlace, v1, d1, N, rfl, x_NoPlace.T, x_NoPlace.no _ List.mem_cons_self, upd_same, h1.mono (exo_keep na) (fun b o h _ => h), hn1, fun H1 u dd s1 hu nd ne => one_end (k := 14) na s1 hu nd ne x_NoPlace.a rfl rfl (qe (by decide))⟩⟩
    · clear q16 qe
      refine ⟨_, rfl, rfl, false, congrArg V.bl (neI (by decide)), iteF ?_⟩
      refine ⟨_, rfl, rfl, false, congrArg V.bl (neI (by decide)), iteF ?_⟩
      refine ⟨_, rfl, rfl, false, congrArg V.bl (neI (by decide)), iteF ?_⟩
      refine ⟨_, rfl, rfl, false, congrArg V.bl (neI (by decide)), iteF ?_⟩
      refine ⟨_, rfl, rfl, false, congrArg V.bl (neI (by decide)), iteF ?_⟩
      refine ⟨_, rfl, rfl, false, congrArg V.bl (neI (by decide)), iteF ?_⟩
      refine ⟨_, rfl, rfl, false, congrArg V.bl (neI (by decide)), iteF ?_⟩
      refine ⟨_, rfl, rfl, false, congrArg V.bl (neI (by decide)), iteF ?_⟩
      refine ⟨_, rfl, rfl, false, congrArg V.bl (neI (by decide)), iteF ?_⟩
      refine ⟨_, rfl, rfl, false, congrArg V.bl (neI (by decide)), iteF ?_⟩
      refine ⟨_, rfl, rfl, false, congrArg V.bl (neI (by decide)), iteF ?_⟩
      refine ⟨_, rfl, rfl, false, congrArg V.bl (neI (by decide)), iteF ?_⟩
      refine ⟨_, rfl, rfl, false, congrArg V.bl (neI (by decide)), iteF ?_⟩
      refine ⟨_, rfl, rfl, false, congrArg V.bl (neI (by decide)), iteF ?_⟩
      refine ⟨_, rfl, rfl, false, congrArg V.bl (neI (by decide)), iteF ?_⟩
      refine ⟨_, rfl, rfl, true, congrArg V.bl eqI, iteT ?_⟩
      exact ⟨_, rfl, _, rfl, by show 2 ≤ 1000; decide, fun a na => ⟨a, C_NoText, v1, v2, d1, d2, fun b => N b ∧ b ≠ a, rfl, x_NoText.T, x_NoText.no _ List.mem_cons_self, x_NoText.no _ (by simp), upd_same, h1.mono (exo_keep na) (fun b o h e => ⟨h, fun z => by rw [z, na] at e; cases e⟩), hn1, h2.mono (exo_keep na) (fun b o h e => ⟨h, fun z => by rw [z, na] at e; cases e⟩), hn2, fun b h => h.2, fun H1 u1 H2 u2 dd s1 hu nd ne s2 hu2 => two_end na s1 hu nd ne x_NoText.a s2 hu2 (qt rfl)⟩⟩
    · clear qe qt
      have ne : ∀ i : Nat, i < 16 → decide (nV k = V.int (i : Int)) = false := fun i hi => neI (by omega)
      refine ⟨_, rfl, rfl, false, congrArg V.bl (ne 0 (by decide)), iteF ?_⟩
      refine ⟨_, rfl, rfl, false, congrArg V.bl (ne 1 (by decide)), iteF ?_⟩
      refine ⟨_, rfl, rfl, false, congrArg V.bl (ne 2 (by decide)), iteF ?_⟩
      refine ⟨_, rfl, rfl, false, congrArg V.bl (ne 3 (by decide)), iteF ?_⟩
      refine ⟨_, rfl, rfl, false, congrArg V.bl (ne 4 (by decide)), iteF ?_⟩
      refine ⟨_, rfl, rfl, false, congrArg V.bl (ne 5 (by decide)), iteF ?_⟩
      refine ⟨_, rfl, rfl, false, congrArg V.bl (ne 6 (by decide)), iteF ?_⟩
      refine ⟨_, rfl, rfl, false, congrArg V.bl (ne 7 (by decide)), iteF ?_⟩
      refine ⟨_, rfl, rfl, false, congrArg V.bl (ne 8 (by decide)), iteF ?_⟩
      refine ⟨_, rfl, rfl, false, congrArg V.bl (ne 9 (by decide)), iteF ?_⟩
      refine ⟨_, rfl, rfl, false, congrArg V.bl (ne 10 (by decide)), iteF ?_⟩
      refine ⟨_, rfl, rfl, false, congrArg V.bl (ne 11 (by decide)), iteF ?_⟩
      refine ⟨_, rfl, rfl, false, congrArg V.bl (ne 12 (by decide)), iteF ?_⟩
      refine ⟨_, rfl, rfl, false, congrArg V.bl (ne 13 (by decide)), iteF ?_⟩
      refine ⟨_, rfl, rfl, false, congrArg V.bl (ne 14 (by decide)), iteF ?_⟩
      exact ⟨_, rfl, rfl, false, congrArg V.bl (ne 15 (by decide)), iteF (q16 hk)⟩
def sp_law_second (K : PySem.W.Frag) : Sp := sp_raise16 K
theorem ok_law_second {f : Addr} {fd : FuncData} (F : Fun K "_law_second" "_law_second" s_law_second f fd) {C_Dry f_Dryi : Addr} {fd_Dryi : FuncData} (x_Dry : XCal P w K mg base 7 "Dry" C_Dry f_Dryi fd_Dryi ["self", "lane"] ["lane"] (sp_Dry_init K)) {C_NoBeat f_NoBeati : Addr} {fd_NoBeati : FuncData} (x_NoBeat : XCal P w K mg base 7 "NoBeat" C_NoBeat f_NoBeati fd_NoBeati ["self", "name"] ["name"] (sp_NoBeat_init K)) {C_NoBook f_NoBooki : Addr} {fd_NoBooki : FuncData} (x_NoBook : XCal P w K mg base 7 "NoBook" C_NoBook f_NoBooki fd_NoBooki ["self", "wrong"] ["wrong"] (sp_NoBook_init K)) {C_NoDeed f_NoDeedi : Addr} {fd_NoDeedi : FuncData} (x_NoDeed : XCal P w K mg base 7 "NoDeed" C_NoDeed f_NoDeedi fd_NoDeedi ["self", "at"] ["at"] (sp_NoDeed_init K)) {C_NoFace f_NoFacei : Addr} {fd_NoFacei : FuncData} (x_NoFace : XCal P w K mg base 7 "NoFace" C_NoFace f_NoFacei fd_NoFacei ["self", "paper"] ["paper"] (sp_NoFace_init K)) {C_NoFlow f_NoFlowi : Addr} {fd_NoFlowi : FuncData} (x_NoFlow : XCal P w K mg base 7 "NoFlow" C_NoFlow f_NoFlowi fd_NoFlowi ["self", "name"] ["name"] (sp_NoFlow_init K)) {C_NoLoop f_NoLoopi : Addr} {fd_NoLoopi : FuncData} (x_NoLoop : XCal P w K mg base 7 "NoLoop" C_NoLoop f_NoLoopi fd_NoLoopi ["self", "wrong"] ["wrong"] (sp_NoLoop_init K)) {C_NoModule f_NoModulei : Addr} {fd_NoModulei : FuncData} (x_NoModule : XCal P w K mg base 7 "NoModule" C_NoModule f_NoModulei fd_NoModulei ["self", "wrong"] ["wrong"] (sp_NoModule_init K)) {C_NoName f_NoNamei : Addr} {fd_NoNamei : FuncData} (x_NoName : XCal P w K mg base 7 "NoName" C_NoName f_NoNamei fd_NoNamei ["self", "name"] ["name"] (sp_NoName_init K)) {C_NoNet f_NoNeti : Addr} {fd_NoNeti : FuncData} (x_NoNet : XCal P w K mg base 7 "NoNet" C_NoNet f_NoNeti fd_NoNeti ["self", "wrong"] ["wrong"] (sp_NoNet_init K)) {C_NoPlace f_NoPlacei : Addr} {fd_NoPlacei : FuncData} (x_NoPlace : XCal P w K mg base 7 "NoPlace" C_NoPlace f_NoPlacei fd_NoPlacei ["self", "place"] ["place"] (sp_NoPlace_init K)) {C_NoRoom f_NoRoomi : Addr} {fd_NoRoomi : FuncData} (x_NoRoom : XCal P w K mg base 7 "NoRoom" C_NoRoom f_NoRoomi fd_NoRoomi ["self", "lane"] ["lane"] (sp_NoRoom_init K)) {C_NoState f_NoStatei : Addr} {fd_NoStatei : FuncData} (x_NoState : XCal P w K mg base 7 "NoState" C_NoState f_NoStatei fd_NoStatei ["self", "at"] ["at"] (sp_NoState_init K)) {C_NoText f_NoTexti : Addr} {fd_NoTexti : FuncData} (x_NoText : XCal P w K mg base 7 "NoText" C_NoText f_NoTexti fd_NoTexti ["self", "row", "at"] ["row", "at"] (sp_NoText_init K)) {C_Over f_Overi : Addr} {fd_Overi : FuncData} (x_Over : XCal P w K mg base 7 "Over" C_Over f_Overi fd_Overi ["self", "lane"] ["lane"] (sp_Over_init K)) {C_Twice f_Twicei : Addr} {fd_Twicei : FuncData} (x_Twice : XCal P w K mg base 7 "Twice" C_Twice f_Twicei fd_Twicei ["self", "name"] ["name"] (sp_Twice_init K)) : FnOk P w K mg base (L2.CX P w) 9 f fd ["_law_which", "_law_one", "_law_two"] (sp_law_second K) := by
  refine F.okX sc_law_second (fun vs H Q E h => ?_) (fun cdv A outer s H vs Q E hr h => ?_)
  · obtain ⟨_, _, _, _, _, _, rfl, _⟩ := h
    rfl
  · obtain ⟨k, v1, v2, d1, d2, N, rfl, h1, hn1, h2, hn2, q16, qe, qt⟩ := h
    refine ⟨_, (pss_cons (ps_if (pt_cmpR op_eq (pv 0) pe_int (nomark _))
        (pss_one (ps_raise rfl (takes_of rfl rfl rfl rfl) (WX.pmk_oexK x_NoBeat.T x_NoBeat.iC x_NoBeat.tI x_NoBeat.G (hr.mono (by decide)) x_NoBeat.kb pass0 (by rfl) x_NoBeat.g (pk_cons (pv 1) pk_nil))))
        pss_nil)
      (pss_cons (ps_if (pt_cmpR op_eq (pv 0) pe_int (nomark _))
        (pss_one (ps_raise rfl (takes_of rfl rfl rfl rfl) (WX.pmk_oexK x_NoFlow.T x_NoFlow.iC x_NoFlow.tI x_NoFlow.G (hr.mono (by decide)) x_NoFlow.kb pass0 (by rfl) x_NoFlow.g (pk_cons (pv 1) pk_nil))))
        pss_nil)
      (pss_cons (ps_if (pt_cmpR op_eq (pv 0) pe_int (nomark _))
        (pss_one (ps_raise rfl (takes_of rfl rfl rfl rfl) (WX.pmk_oexK x_NoName.T x_NoName.iC x_NoName.tI x_NoName.G (hr.mono (by decide)) x_NoName.kb pass0 (by rfl) x_NoName.g (pk_cons (pv 1) pk_nil))))
        pss_nil)
      (pss_cons (ps_if (pt_cmpR op_eq (pv 0) pe_int (nomark _))
        (pss_one (ps_raise rfl (takes_of rfl rfl rfl rfl) (WX.pmk_oexK x_Twice.T x_Twice.iC x_Twice.tI x_Twice.G (hr.mono (by decide)) x_Twice.kb pass0 (by rfl) x_Twice.g (pk_cons (pv 1) pk_nil))))
        pss_nil)
      (pss_cons (ps_if (pt_cmpR op_eq (pv 0) pe_int (nomark _))
        (pss_one (ps_raise rfl (takes_of rfl rfl rfl rfl) (WX.pmk_oexK x_NoBook.T x_NoBook.iC x_NoBook.tI x_NoBook.G (hr.mono (by decide)) x_NoBook.kb pass0 (by rfl) x_NoBook.g (pk_cons (pv 1) pk_nil))))
        pss_nil)
      (pss_cons (ps_if (pt_cmpR op_eq (pv 0) pe_int (nomark _))
        (pss_one (ps_raise rfl (takes_of rfl rfl rfl rfl) (WX.pmk_oexK x_NoLoop.T x_NoLoop.iC x_NoLoop.tI x_NoLoop.G (hr.mono (by decide)) x_NoLoop.kb pass0 (by rfl) x_NoLoop.g (pk_cons (pv 1) pk_nil))))
        pss_nil)
      (pss_cons (ps_if (pt_cmpR op_eq (pv 0) pe_int (nomark _))
        (pss_one (ps_raise rfl (takes_of rfl rfl rfl rfl) (WX.pmk_oexK x_NoModule.T x_NoModule.iC x_NoModule.tI x_NoModule.G (hr.mono (by decide)) x_NoModule.kb pass0 (by rfl) x_NoModule.g (pk_cons (pv 1) pk_nil))))
        pss_nil)
      (pss_cons (ps_if (pt_cmpR op_eq (pv 0) pe_int (nomark _))
        (pss_one (ps_raise rfl (takes_of rfl rfl rfl rfl) (WX.pmk_oexK x_NoNet.T x_NoNet.iC x_NoNet.tI x_NoNet.G (hr.mono (by decide)) x_NoNet.kb pass0 (by rfl) x_NoNet.g (pk_cons (pv 1) pk_nil))))
        pss_nil)
      (pss_cons (ps_if (pt_cmpR op_eq (pv 0) pe_int (nomark _))
        (pss_one (ps_raise rfl (takes_of rfl rfl rfl rfl) (WX.pmk_oexK x_NoDeed.T x_NoDeed.iC x_NoDeed.tI x_NoDeed.G (hr.mono (by decide)) x_NoDeed.kb pass0 (by rfl) x_NoDeed.g (pk_cons (pv 1) pk_nil))))
        pss_nil)
      (pss_cons (ps_if (pt_cmpR op_eq (pv 0) pe_int (nomark _))
        (pss_one (ps_raise rfl (takes_of rfl rfl rfl rfl) (WX.pmk_oexK x_NoState.T x_NoState.iC x_NoState.tI x_NoState.G (hr.mono (by decide)) x_NoState.kb pass0 (by rfl) x_NoState.g (pk_cons (pv 1) pk_nil))))
        pss_nil)
      (pss_cons (ps_if (pt_cmpR op_eq (pv 0) pe_int (nomark _))
        (pss_one (ps_raise rfl (takes_of rfl rfl rfl rfl) (WX.pmk_oexK x_NoRoom.T x_NoRoom.iC x_NoRoom.tI x_NoRoom.G (hr.mono (by decide)) x_NoRoom.kb pass0 (by rfl) x_NoRoom.g (pk_cons (pv 1) pk_nil))))
        pss_nil)
      (pss_cons (ps_if (pt_cmpR op_eq (pv 0) pe_int (nomark _))
        (pss_one (ps_raise rfl (takes_of rfl rfl rfl rfl) (WX.pmk_oexK x_Dry.T x_Dry.iC x_Dry.tI x_Dry.G (hr.mono (by decide)) x_Dry.kb pass0 (by rfl) x_Dry.g (pk_cons (pv 1) pk_nil))))
        pss_nil)
      (pss_cons (ps_if (pt_cmpR op_eq (pv 0) pe_int (nomark _))
        (pss_one (ps_raise rfl (takes_of rfl rfl rfl rfl) (WX.pmk_oexK x_Over.T x_Over.iC x_Over.tI x_Over.G (hr.mono (by decide)) x_Over.kb pass0 (by rfl) x_Over.g (pk_cons (pv 1) pk_nil))))
        pss_nil)
      (pss_cons (ps_if (pt_cmpR op_eq (pv 0) pe_int (nomark _))
        (pss_one (ps_raise rfl (takes_of rfl rfl rfl rfl) (WX.pmk_oexK x_NoFace.T x_NoFace.iC x_NoFace.tI x_NoFace.G (hr.mono (by decide)) x_NoFace.kb pass0 (by rfl) x_NoFace.g (pk_cons (pv 1) pk_nil))))
        pss_nil)
      (pss_cons (ps_if (pt_cmpR op_eq (pv 0) pe_int (nomark _))
        (pss_one (ps_raise rfl (takes_of rfl rfl rfl rfl) (WX.pmk_oexK x_NoPlace.T x_NoPlace.iC x_NoPlace.tI x_NoPlace.G (hr.mono (by decide)) x_NoPlace.kb pass0 (by rfl) x_NoPlace.g (pk_cons (pv 1) pk_nil))))
        pss_nil)
      (pss_one (ps_if (pt_cmpR op_eq (pv 0) pe_int (nomark _))
        (pss_one (ps_raise rfl (takes_of rfl rfl rfl rfl) (WX.pmk_oexK x_NoText.T x_NoText.iC x_NoText.tI x_NoText.G (hr.mono (by decide)) x_NoText.kb pass0 (by rfl) x_NoText.g (pk_cons (pv 2) (pk_cons (pv 1) pk_nil)))))
        pss_nil))))))))))))))))), ?_⟩
    rcases (show k = 0 ∨ k = 1 ∨ k = 2 ∨ k = 3 ∨ k = 4 ∨ k = 5 ∨ k = 6 ∨ k = 7 ∨ k = 8 ∨ k = 9 ∨ k = 10 ∨ k = 11 ∨ k = 12 ∨ k = 13 ∨ k = 14 ∨ k = 15 ∨ 16 ≤ k by omega) with rfl | rfl | rfl | rfl | rfl | rfl | rfl | rfl | rfl | rfl | rfl | rfl | rfl | rfl | rfl | rfl | hk
    · clear q16 qt
      refine ⟨_, rfl, rfl, true, congrArg V.bl eqI, iteT ?_⟩
      exact ⟨_, rfl, rfl, fun a na => ⟨a, C_NoBeat, v1, d1, N, rfl, x_NoBeat.T, x_NoBeat.no _ List.mem_cons_self, upd_same, h1.mono (exo_keep na) (fun b o h _ => h), hn1, fun H1 u dd s1 hu nd ne => one_end (k := 0) na s1 hu nd ne x_NoBeat.a rfl rfl (qe (by decide))⟩⟩
    · clear q16 qt
      refine ⟨_, rfl, rfl, false, congrArg V.bl (neI (by decide)), iteF ?_⟩
      refine ⟨_, rfl, rfl, true, congrArg V.bl eqI, iteT ?_⟩
      exact ⟨_, rfl, rfl, fun a na => ⟨a, C_NoFlow, v1, d1, N, rfl, x_NoFlow.T, x_NoFlow.no _ List.mem_cons_self, upd_same, h1.mono (exo_keep na) (fun b o h _ => h), hn1, fun H1 u dd s1 hu nd ne => one_end (k := 1) na s1 hu nd ne x_NoFlow.a rfl rfl (qe (by decide))⟩⟩
    · clear q16 qt
      refine ⟨_, rfl, rfl, false, congrArg V.bl (neI (by decide)), iteF ?_⟩
      refine ⟨_, rfl, rfl, false, congrArg V.bl (neI (by decide)), iteF ?_⟩
      refine ⟨_, rfl, rfl, true, congrArg V.bl eqI, iteT ?_⟩
      exact ⟨_, rfl, rfl, fun a na => ⟨a, C_NoName, v1, d1, N, rfl, x_NoName.T, x_NoName.no _ List.mem_cons_self, upd_same, h1.mono (exo_keep na) (fun b o h _ => h), hn1, fun H1 u dd s1 hu nd ne => one_end (k := 2) na s1 hu nd ne x_NoName.a rfl rfl (qe (by decide))⟩⟩
    · clear q16 qt
      refine ⟨_, rfl, rfl, false, congrArg V.bl (neI (by decide)), iteF ?_⟩
      refine ⟨_, rfl, rfl, false, congrArg V.bl (neI (by decide)), iteF ?_⟩
      refine ⟨_, rfl, rfl, false, congrArg V.bl (neI (by decide)), iteF ?_⟩
      refine ⟨_, rfl, rfl, true, congrArg V.bl eqI, iteT ?_⟩
      exact ⟨_, rfl, rfl, fun a na => ⟨a, C_Twice, v1, d1, N, rfl, x_Twice.T, x_Twice.no _ List.mem_cons_self, upd_same, h1.mono (exo_keep na) (fun b o h _ => h), hn1, fun H1 u dd s1 hu nd ne => one_end (k := 3) na s1 hu nd ne x_Twice.a rfl rfl (qe (by decide))⟩⟩
    · clear q16 qt
      refine ⟨_, rfl, rfl, false, congrArg V.bl (neI (by decide)), iteF ?_⟩
      refine ⟨_, rfl, rfl, false, congrArg V.bl (neI (by decide)), iteF ?_⟩
      refine ⟨_, rfl, rfl, false, congrArg V.bl (neI (by decide)), iteF ?_⟩
      refine ⟨_, rfl, rfl, false, congrArg V.bl (neI (by decide)), iteF ?_⟩
      refine ⟨_, rfl, rfl, true, congrArg V.bl eqI, iteT ?_⟩
      exact ⟨_, rfl, rfl, fun a na => ⟨a, C_NoBook, v1, d1, N, rfl, x_NoBook.T, x_NoBook.no _ List.mem_cons_self, upd_same, h1.mono (exo_keep na) (fun b o h _ => h), hn1, fun H1 u dd s1 hu nd ne => one_end (k := 4) na s1 hu nd ne x_NoBook.a rfl rfl (qe (by decide))⟩⟩
    · clear q16 qt
      refine ⟨_, rfl, rfl, false, congrArg V.bl (neI (by decide)), iteF ?_⟩
      refine ⟨_, rfl, rfl, false, congrArg V.bl (neI (by decide)), iteF ?_⟩
      refine ⟨_, rfl, rfl, false, congrArg V.bl (neI (by decide)), iteF ?_⟩
      refine ⟨_, rfl, rfl, false, congrArg V.bl (neI (by decide)), iteF ?_⟩
      refine ⟨_, rfl, rfl, false, congrArg V.bl (neI (by decide)), iteF ?_⟩
      refine ⟨_, rfl, rfl, true, congrArg V.bl eqI, iteT ?_⟩
      exact ⟨_, rfl, rfl, fun a na => ⟨a, C_NoLoop, v1, d1, N, rfl, x_NoLoop.T, x_NoLoop.no _ List.mem_cons_self, upd_same, h1.mono (exo_keep na) (fun b o h _ => h), hn1, fun H1 u dd s1 hu nd ne => one_end (k := 5) na s1 hu nd ne x_NoLoop.a rfl rfl (qe (by decide))⟩⟩
    · clear q16 qt
      refine ⟨_, rfl, rfl, false, congrArg V.bl (neI (by decide)), iteF ?_⟩
      refine ⟨_, rfl, rfl, false, congrArg V.bl (neI (by decide)), iteF ?_⟩
      refine ⟨_, rfl, rfl, false, congrArg V.bl (neI (by decide)), iteF ?_⟩
      refine ⟨_, rfl, rfl, false, congrArg V.bl (neI (by decide)), iteF ?_⟩
      refine ⟨_, rfl, rfl, false, congrArg V.bl (neI (by decide)), iteF ?_⟩
      refine ⟨_, rfl, rfl, false, congrArg V.bl (neI (by decide)), iteF ?_⟩
      refine ⟨_, rfl, rfl, true, congrArg V.bl eqI, iteT ?_⟩
      exact ⟨_, rfl, rfl, fun a na => ⟨a, C_NoModule, v1, d1, N, rfl, x_NoModule.T, x_NoModule.no _ List.mem_cons_self, upd_same, h1.mono (exo_keep na) (fun b o h _ => h), hn1, fun H1 u dd s1 hu nd ne => one_end (k := 6) na s1 hu nd ne x_NoModule.a rfl rfl (qe (by decide))⟩⟩
    · clear q16 qt
      refine ⟨_, rfl, rfl, false, congrArg V.bl (neI (by decide)), iteF ?_⟩
      refine ⟨_, rfl, rfl, false, congrArg V.bl (neI (by decide)), iteF ?_⟩
      refine ⟨_, rfl, rfl, false, congrArg V.bl (neI (by decide)), iteF ?_⟩
      refine ⟨_, rfl, rfl, false, congrArg V.bl (neI (by decide)), iteF ?_⟩
      refine ⟨_, rfl, rfl, false, congrArg V.bl (neI (by decide)), iteF ?_⟩
      refine ⟨_, rfl, rfl, false, congrArg V.bl (neI (by decide)), iteF ?_⟩
      refine ⟨_, rfl, rfl, false, congrArg V.bl (neI (by decide)), iteF ?_⟩
      refine ⟨_, rfl, rfl, true, congrArg V.bl eqI, iteT ?_⟩
      exact ⟨_, rfl, rfl, fun a na => ⟨a, C_NoNet, v1, d1, N, rfl, x_NoNet.T, x_NoNet.no _ List.mem_cons_self, upd_same, h1.mono (exo_keep na) (fun b o h _ => h), hn1, fun H1 u dd s1 hu nd ne => one_end (k := 7) na s1 hu nd ne x_NoNet.a rfl rfl (qe (by decide))⟩⟩
    · clear q16 qt
      refine ⟨_, rfl, rfl, false, congrArg V.bl (neI (by decide)), iteF ?_⟩
      refine ⟨_, rfl, rfl, false, congrArg V.bl (neI (by decide)), iteF ?_⟩
      refine ⟨_, rfl, rfl, false, congrArg V.bl (neI (by decide)), iteF ?_⟩
      refine ⟨_, rfl, rfl, false, congrArg V.bl (neI (by decide)), iteF ?_⟩
      refine ⟨_, rfl, rfl, false, congrArg V.bl (neI (by decide)), iteF ?_⟩
      refine ⟨_, rfl, rfl, false, congrArg V.bl (neI (by decide)), iteF ?_⟩
      refine ⟨_, rfl, rfl, false, congrArg V.bl (neI (by decide)), iteF ?_⟩
      refine ⟨_, rfl, rfl, false, congrArg V.bl (neI (by decide)), iteF ?_⟩
      refine ⟨_, rfl, rfl, true, congrArg V.bl eqI, iteT ?_⟩
      exact ⟨_, rfl, rfl, fun a na => ⟨a, C_NoDeed, v1, d1, N, rfl, x_NoDeed.T, x_NoDeed.no _ List.mem_cons_self, upd_same, h1.mono (exo_keep na) (fun b o h _ => h), hn1, fun H1 u dd s1 hu nd ne => one_end (k := 8) na s1 hu nd ne x_NoDeed.a rfl rfl (qe (by decide))⟩⟩
    · clear q16 qt
      refine ⟨_, rfl, rfl, false, congrArg V.bl (neI (by decide)), iteF ?_⟩
      refine ⟨_, rfl, rfl, false, congrArg V.bl (neI (by decide)), iteF ?_⟩
      refine ⟨_, rfl, rfl, false, congrArg V.bl (neI (by decide)), iteF ?_⟩
      refine ⟨_, rfl, rfl, false, congrArg V.bl (neI (by decide)), iteF ?_⟩
      refine ⟨_, rfl, rfl, false, congrArg V.bl (neI (by decide)), iteF ?_⟩
      refine ⟨_, rfl, rfl, false, congrArg V.bl (neI (by decide)), iteF ?_⟩
      refine ⟨_, rfl, rfl, false, congrArg V.bl (neI (by decide)), iteF ?_⟩
      refine ⟨_, rfl, rfl, false, congrArg V.bl (neI (by decide)), iteF ?_⟩
      refine ⟨_, rfl, rfl, false, congrArg V.bl (neI (by decide)), iteF ?_⟩
      refine ⟨_, rfl, rfl, true, congrArg V.bl eqI, iteT ?_⟩
      exact ⟨_, rfl, rfl, fun a na => ⟨a, C_NoState, v1, d1, N, rfl, x_NoState.T, x_NoState.no _ List.mem_cons_self, upd_same, h1.mono (exo_keep na) (fun b o h _ => h), hn1, fun H1 u dd s1 hu nd ne => one_end (k := 9) na s1 hu nd ne x_NoState.a rfl rfl (qe (by decide))⟩⟩
    · clear q16 qt
      refine ⟨_, rfl, rfl, false, congrArg V.bl (neI (by decide)), iteF ?_⟩
      refine ⟨_, rfl, rfl, false, congrArg V.bl (neI (by decide)), iteF ?_⟩
      refine ⟨_, rfl, rfl, false, congrArg V.bl (neI (by decide)), iteF ?_⟩
      refine ⟨_, rfl, rfl, false, congrArg V.bl (neI (by decide)), iteF ?_⟩
      refine ⟨_, rfl, rfl, false, congrArg V.bl (neI (by decide)), iteF ?_⟩
      refine ⟨_, rfl, rfl, false, congrArg V.bl (neI (by decide)), iteF ?_⟩
      refine ⟨_, rfl, rfl, false, congrArg V.bl (neI (by decide)), iteF ?_⟩
      refine ⟨_, rfl, rfl, false, congrArg V.bl (neI (by decide)), iteF ?_⟩
      refine ⟨_, rfl, rfl, false, congrArg V.bl (neI (by decide)), iteF ?_⟩
      refine ⟨_, rfl, rfl, false, congrArg V.bl (neI (by decide)), iteF ?_⟩
      refine ⟨_, rfl, rfl, true, congrArg V.bl eqI, iteT ?_⟩
      exact ⟨_, rfl, rfl, fun a na => ⟨a, C_NoRoom, v1, d1, N, rfl, x_NoRoom.T, x_NoRoom.no _ List.mem_cons_self, upd_same, h1.mono (exo_keep na) (fun b o h _ => h), hn1, fun H1 u dd s1 hu nd ne => one_end (k := 10) na s1 hu nd ne x_NoRoom.a rfl rfl (qe (by decide))⟩⟩
    · clear q16 qt
      refine ⟨_, rfl, rfl, false, congrArg V.bl (neI (by decide)), iteF ?_⟩
      refine ⟨_, rfl, rfl, false, congrArg V.bl (neI (by decide)), iteF ?_⟩
      refine ⟨_, rfl, rfl, false, congrArg V.bl (neI (by decide)), iteF ?_⟩
      refine ⟨_, rfl, rfl, false, congrArg V.bl (neI (by decide)), iteF ?_⟩
      refine ⟨_, rfl, rfl, false, congrArg V.bl (neI (by decide)), iteF ?_⟩
      refine ⟨_, rfl, rfl, false, congrArg V.bl (neI (by decide)), iteF ?_⟩
      refine ⟨_, rfl, rfl, false, congrArg V.bl (neI (by decide)), iteF ?_⟩
      refine ⟨_, rfl, rfl, false, congrArg V.bl (neI (by decide)), iteF ?_⟩
      refine ⟨_, rfl, rfl, false, congrArg V.bl (neI (by decide)), iteF ?_⟩
      refine ⟨_, rfl, rfl, false, congrArg V.bl (neI (by decide)), iteF ?_⟩
      refine ⟨_, rfl, rfl, false, congrArg V.bl (neI (by decide)), iteF ?_⟩
      refine ⟨_, rfl, rfl, true, congrArg V.bl eqI, iteT ?_⟩
      exact ⟨_, rfl, rfl, fun a na => ⟨a, C_Dry, v1, d1, N, rfl, x_Dry.T, x_Dry.no _ List.mem_cons_self, upd_same, h1.mono (exo_keep na) (fun b o h _ => h), hn1, fun H1 u dd s1 hu nd ne => one_end (k := 11) na s1 hu nd ne x_Dry.a rfl rfl (qe (by decide))⟩⟩
    · clear q16 qt
      refine ⟨_, rfl, rfl, false, congrArg V.bl (neI (by decide)), iteF ?_⟩
      refine ⟨_, rfl, rfl, false, congrArg V.bl (neI (by decide)), iteF ?_⟩
      refine ⟨_, rfl, rfl, false, congrArg V.bl (neI (by decide)), iteF ?_⟩
      refine ⟨_, rfl, rfl, false, congrArg V.bl (neI (by decide)), iteF ?_⟩
      refine ⟨_, rfl, rfl, false, congrArg V.bl (neI (by decide)), iteF ?_⟩
      refine ⟨_, rfl, rfl, false, congrArg V.bl (neI (by decide)), iteF ?_⟩
      refine ⟨_, rfl, rfl, false, congrArg V.bl (neI (by decide)), iteF ?_⟩
      refine ⟨_, rfl, rfl, false, congrArg V.bl (neI (by decide)), iteF ?_⟩
      refine ⟨_, rfl, rfl, false, congrArg V.bl (neI (by decide)), iteF ?_⟩
      refine ⟨_, rfl, rfl, false, congrArg V.bl (neI (by decide)), iteF ?_⟩
      refine ⟨_, rfl, rfl, false, congrArg V.bl (neI (by decide)), iteF ?_⟩
      refine ⟨_, rfl, rfl, false, congrArg V.bl (neI (by decide)), iteF ?_⟩
      refine ⟨_, rfl, rfl, true, congrArg V.bl eqI, iteT ?_⟩
      exact ⟨_, rfl, rfl, fun a na => ⟨a, C_Over, v1, d1, N, rfl, x_Over.T, x_Over.no _ List.mem_cons_self, upd_same, h1.mono (exo_keep na) (fun b o h _ => h), hn1, fun H1 u dd s1 hu nd ne => one_end (k := 12) na s1 hu nd ne x_Over.a rfl rfl (qe (by decide))⟩⟩
    · clear q16 qt
      refine ⟨_, rfl, rfl, false, congrArg V.bl (neI (by decide)), iteF ?_⟩
      refine ⟨_, rfl, rfl, false, congrArg V.bl (neI (by decide)), iteF ?_⟩
      refine ⟨_, rfl, rfl, false, congrArg V.bl (neI (by decide)), iteF ?_⟩
      refine ⟨_, rfl, rfl, false, congrArg V.bl (neI (by decide)), iteF ?_⟩
      refine ⟨_, rfl, rfl, false, congrArg V.bl (neI (by decide)), iteF ?_⟩
      refine ⟨_, rfl, rfl, false, congrArg V.bl (neI (by decide)), iteF ?_⟩
      refine ⟨_, rfl, rfl, false, congrArg V.bl (neI (by decide)), iteF ?_⟩
      refine ⟨_, rfl, rfl, false, congrArg V.bl (neI (by decide)), iteF ?_⟩
      refine ⟨_, rfl, rfl, false, congrArg V.bl (neI (by decide)), iteF ?_⟩
      refine ⟨_, rfl, rfl, false, congrArg V.bl (neI (by decide)), iteF ?_⟩
      refine ⟨_, rfl, rfl, false, congrArg V.bl (neI (by decide)), iteF ?_⟩
      refine ⟨_, rfl, rfl, false, congrArg V.bl (neI (by decide)), iteF ?_⟩
      refine ⟨_, rfl, rfl, false, congrArg V.bl (neI (by decide)), iteF ?_⟩
      refine ⟨_, rfl, rfl, true, congrArg V.bl eqI, iteT ?_⟩
      exact ⟨_, rfl, rfl, fun a na => ⟨a, C_NoFace, v1, d1, N, rfl, x_NoFace.T, x_NoFace.no _ List.mem_cons_self, upd_same, h1.mono (exo_keep na) (fun b o h _ => h), hn1, fun H1 u dd s1 hu nd ne => one_end (k := 13) na s1 hu nd ne x_NoFace.a rfl rfl (qe (by decide))⟩⟩
    · clear q16 qt
      refine ⟨_, rfl, rfl, false, congrArg V.bl (neI (by decide)), iteF ?_⟩
      refine ⟨_, rfl, rfl, false, congrArg V.bl (neI (by decide)), iteF ?_⟩
      refine ⟨_, rfl, rfl, false, congrArg V.bl (neI (by decide)), iteF ?_⟩
      refine ⟨_, rfl, rfl, false, congrArg V.bl (neI (by decide)), iteF ?_⟩
      refine ⟨_, rfl, rfl, false, congrArg V.bl (neI (by decide)), iteF ?_⟩
      refine ⟨_, rfl, rfl, false, congrArg V.bl (neI (by decide)), iteF ?_⟩
      refine ⟨_, rfl, rfl, false, congrArg V.bl (neI (by decide)), iteF ?_⟩
      refine ⟨_, rfl, rfl, false, congrArg V.bl (neI (by decide)), iteF ?_⟩
      refine ⟨_, rfl, rfl, false, congrArg V.bl (neI (by decide)), iteF ?_⟩
      refine ⟨_, rfl, rfl, false, congrArg V.bl (neI (by decide)), iteF ?_⟩
      refine ⟨_, rfl, rfl, false, congrArg V.bl (neI (by decide)), iteF ?_⟩
      refine ⟨_, rfl, rfl, false, congrArg V.bl (neI (by decide)), iteF ?_⟩
      refine ⟨_, rfl, rfl, false, congrArg V.bl (neI (by decide)), iteF ?_⟩
      refine ⟨_, rfl, rfl, false, congrArg V.bl (neI (by decide)), iteF ?_⟩
      refine ⟨_, rfl, rfl, true, congrArg V.bl eqI, iteT ?_⟩
      exact ⟨_, rfl, rfl, fun a na => ⟨a, C_NoPlace, v1, d1, N, rfl, x_NoPlace.T, x_NoPlace.no _ List.mem_cons_self, upd_same, h1.mono (exo_keep na) (fun b o h _ => h), hn1, fun H1 u dd s1 hu nd ne => one_end (k := 14) na s1 hu nd ne x_NoPlace.a rfl rfl (qe (by decide))⟩⟩
    · clear q16 qe
      refine ⟨_, rfl, rfl, false, congrArg V.bl (neI (by decide)), iteF ?_⟩
      refine ⟨_, rfl, rfl, false, congrArg V.bl (neI (by decide)), iteF ?_⟩
      refine ⟨_, rfl, rfl, false, congrArg V.bl (neI (by decide)), iteF ?_⟩
      refine ⟨_, rfl, rfl, false, congrArg V.bl (neI (by decide)), iteF ?_⟩
      refine ⟨_, rfl, rfl, false, congrArg V.bl (neI (by decide)), iteF ?_⟩
      refine ⟨_, rfl, rfl, false, congrArg V.bl (neI (by decide)), iteF ?_⟩
      refine ⟨_, rfl, rfl, false, congrArg V.bl (neI (by decide)), iteF ?_⟩
      refine ⟨_, rfl, rfl, false, congrArg V.bl (neI (by decide)), iteF ?_⟩
      refine ⟨_, rfl, rfl, false, congrArg V.bl (neI (by decide)), iteF ?_⟩
      refine ⟨_, rfl, rfl, false, congrArg V.bl (neI (by decide)), iteF ?_⟩
      refine ⟨_, rfl, rfl, false, congrArg V.bl (neI (by decide)), iteF ?_⟩
      refine ⟨_, rfl, rfl, false, congrArg V.bl (neI (by decide)), iteF ?_⟩
      refine ⟨_, rfl, rfl, false, congrArg V.bl (neI (by decide)), iteF ?_⟩
      refine ⟨_, rfl, rfl, false, congrArg V.bl (neI (by decide)), iteF ?_⟩
      refine ⟨_, rfl, rfl, false, congrArg V.bl (neI (by decide)), iteF ?_⟩
      refine ⟨_, rfl, rfl, true, congrArg V.bl eqI, iteT ?_⟩
      exact ⟨_, rfl, _, rfl, rfl, fun a na => ⟨a, C_NoText, v1, v2, d1, d2, fun b => N b ∧ b ≠ a, rfl, x_NoText.T, x_NoText.no _ List.mem_cons_self, x_NoText.no _ (by simp), upd_same, h1.mono (exo_keep na) (fun b o h e => ⟨h, fun z => by rw [z, na] at e; cases e⟩), hn1, h2.mono (exo_keep na) (fun b o h e => ⟨h, fun z => by rw [z, na] at e; cases e⟩), hn2, fun b h => h.2, fun H1 u1 H2 u2 dd s1 hu nd ne s2 hu2 => two_end na s1 hu nd ne x_NoText.a s2 hu2 (qt rfl)⟩⟩
    · clear qe qt
      have ne : ∀ i : Nat, i < 16 → decide (nV k = V.int (i : Int)) = false := fun i hi => neI (by omega)
      refine ⟨_, rfl, rfl, false, congrArg V.bl (ne 0 (by decide)), iteF ?_⟩
      refine ⟨_, rfl, rfl, false, congrArg V.bl (ne 1 (by decide)), iteF ?_⟩
      refine ⟨_, rfl, rfl, false, congrArg V.bl (ne 2 (by decide)), iteF ?_⟩
      refine ⟨_, rfl, rfl, false, congrArg V.bl (ne 3 (by decide)), iteF ?_⟩
      refine ⟨_, rfl, rfl, false, congrArg V.bl (ne 4 (by decide)), iteF ?_⟩
      refine ⟨_, rfl, rfl, false, congrArg V.bl (ne 5 (by decide)), iteF ?_⟩
      refine ⟨_, rfl, rfl, false, congrArg V.bl (ne 6 (by decide)), iteF ?_⟩
      refine ⟨_, rfl, rfl, false, congrArg V.bl (ne 7 (by decide)), iteF ?_⟩
      refine ⟨_, rfl, rfl, false, congrArg V.bl (ne 8 (by decide)), iteF ?_⟩
      refine ⟨_, rfl, rfl, false, congrArg V.bl (ne 9 (by decide)), iteF ?_⟩
      refine ⟨_, rfl, rfl, false, congrArg V.bl (ne 10 (by decide)), iteF ?_⟩
      refine ⟨_, rfl, rfl, false, congrArg V.bl (ne 11 (by decide)), iteF ?_⟩
      refine ⟨_, rfl, rfl, false, congrArg V.bl (ne 12 (by decide)), iteF ?_⟩
      refine ⟨_, rfl, rfl, false, congrArg V.bl (ne 13 (by decide)), iteF ?_⟩
      refine ⟨_, rfl, rfl, false, congrArg V.bl (ne 14 (by decide)), iteF ?_⟩
      exact ⟨_, rfl, rfl, false, congrArg V.bl (ne 15 (by decide)), iteF (q16 hk)⟩
def sp_law_third (K : PySem.W.Frag) : Sp := fun vs H Q E => ∃ k : Nat, vs = [nV k] ∧ k < 28 ∧ (k < 16 → Q .non H) ∧ (16 ≤ k → ∀ x C, clsN[k]? = some x → PySem.W.nsIn K mainGlobals x = some (some (.ref C)) → E (.ref C) none H)
theorem ok_law_third {f : Addr} {fd : FuncData} (F : Fun K "_law_third" "_law_third" s_law_third f fd) {C_NoBack : Addr} (y_NoBack : YCal K mg "NoBack" C_NoBack) {C_NoDrive : Addr} (y_NoDrive : YCal K mg "NoDrive" C_NoDrive) {C_NoLane : Addr} (y_NoLane : YCal K mg "NoLane" C_NoLane) {C_NoLine : Addr} (y_NoLine : YCal K mg "NoLine" C_NoLine) {C_NoMeasure : Addr} (y_NoMeasure : YCal K mg "NoMeasure" C_NoMeasure) {C_NoPart : Addr} (y_NoPart : YCal K mg "NoPart" C_NoPart) {C_NoTitle : Addr} (y_NoTitle : YCal K mg "NoTitle" C_NoTitle) {C_NoWait : Addr} (y_NoWait : YCal K mg "NoWait" C_NoWait) {C_NoWay : Addr} (y_NoWay : YCal K mg "NoWay" C_NoWay) {C_NoWord : Addr} (y_NoWord : YCal K mg "NoWord" C_NoWord) {C_TooDeep : Addr} (y_TooDeep : YCal K mg "TooDeep" C_TooDeep) {C_TooLong : Addr} (y_TooLong : YCal K mg "TooLong" C_TooLong) : FnOk P w K mg base (L2.CX P w) 1 f fd ["_law_which"] (sp_law_third K) := by
  refine F.okX sc_law_third (fun vs H Q E h => ?_) (fun cdv A outer s H vs Q E hr h => ?_)
  · obtain ⟨_, rfl, _⟩ := h
    rfl
  · obtain ⟨k, rfl, hk, q16, qe⟩ := h
    refine ⟨_, (pss_cons (ps_if (pt_cmpR op_eq (pv 0) pe_int (nomark _))
        (pss_one (ps_raise rfl (takes_of rfl rfl rfl rfl) (WX.pmk_own0 PySem.F.excBase_ValueError y_NoBack.x y_NoBack.g y_NoBack.k (raises_own y_NoBack.b y_NoBack.t) (by rfl))))
        pss_nil)
      (pss_cons (ps_if (pt_cmpR op_eq (pv 0) pe_int (nomark _))
        (pss_one (ps_raise rfl (takes_of rfl rfl rfl rfl) (WX.pmk_own0 PySem.F.excBase_ValueError y_NoDrive.x y_NoDrive.g y_NoDrive.k (raises_own y_NoDrive.b y_NoDrive.t) (by rfl))))
        pss_nil)
      (pss_cons (ps_if (pt_cmpR op_eq (pv 0) pe_int (nomark _))
        (pss_one (ps_raise rfl (takes_of rfl rfl rfl rfl) (WX.pmk_own0 PySem.F.excBase_ValueError y_NoLane.x y_NoLane.g y_NoLane.k (raises_own y_NoLane.b y_NoLane.t) (by rfl))))
        pss_nil)
      (pss_cons (ps_if (pt_cmpR op_eq (pv 0) pe_int (nomark _))
        (pss_one (ps_raise rfl (takes_of rfl rfl rfl rfl) (WX.pmk_own0 PySem.F.excBase_ValueError y_NoLine.x y_NoLine.g y_NoLine.k (raises_own y_NoLine.b y_NoLine.t) (by rfl))))
        pss_nil)
      (pss_cons (ps_if (pt_cmpR op_eq (pv 0) pe_int (nomark _))
        (pss_one (ps_raise rfl (takes_of rfl rfl rfl rfl) (WX.pmk_own0 PySem.F.excBase_ValueError y_NoMeasure.x y_NoMeasure.g y_NoMeasure.k (raises_own y_NoMeasure.b y_NoMeasure.t) (by rfl))))
        pss_nil)
      (pss_cons (ps_if (pt_cmpR op_eq (pv 0) pe_int (nomark _))
        (pss_one (ps_raise rfl (takes_of rfl rfl rfl rfl) (WX.pmk_own0 PySem.F.excBase_ValueError y_NoPart.x y_NoPart.g y_NoPart.k (raises_own y_NoPart.b y_NoPart.t) (by rfl))))
        pss_nil)
      (pss_cons (ps_if (pt_cmpR op_eq (pv 0) pe_int (nomark _))
        (pss_one (ps_raise rfl (takes_of rfl rfl rfl rfl) (WX.pmk_own0 PySem.F.excBase_ValueError y_NoTitle.x y_NoTitle.g y_NoTitle.k (raises_own y_NoTitle.b y_NoTitle.t) (by rfl))))
        pss_nil)
      (pss_cons (ps_if (pt_cmpR op_eq (pv 0) pe_int (nomark _))
        (pss_one (ps_raise rfl (takes_of rfl rfl rfl rfl) (WX.pmk_own0 PySem.F.excBase_ValueError y_NoWait.x y_NoWait.g y_NoWait.k (raises_own y_NoWait.b y_NoWait.t) (by rfl))))
        pss_nil)
      (pss_cons (ps_if (pt_cmpR op_eq (pv 0) pe_int (nomark _))
        (pss_one (ps_raise rfl (takes_of rfl rfl rfl rfl) (WX.pmk_own0 PySem.F.excBase_ValueError y_NoWay.x y_NoWay.g y_NoWay.k (raises_own y_NoWay.b y_NoWay.t) (by rfl))))
        pss_nil)
      (pss_cons (ps_if (pt_cmpR op_eq (pv 0) pe_int (nomark _))
        (pss_one (ps_raise rfl (takes_of rfl rfl rfl rfl) (WX.pmk_own0 PySem.F.excBase_ValueError y_NoWord.x y_NoWord.g y_NoWord.k (raises_own y_NoWord.b y_NoWord.t) (by rfl))))
        pss_nil)
      (pss_cons (ps_if (pt_cmpR op_eq (pv 0) pe_int (nomark _))
        (pss_one (ps_raise rfl (takes_of rfl rfl rfl rfl) (WX.pmk_own0 PySem.F.excBase_ValueError y_TooDeep.x y_TooDeep.g y_TooDeep.k (raises_own y_TooDeep.b y_TooDeep.t) (by rfl))))
        pss_nil)
      (pss_one (ps_if (pt_cmpR op_eq (pv 0) pe_int (nomark _))
        (pss_one (ps_raise rfl (takes_of rfl rfl rfl rfl) (WX.pmk_own0 PySem.F.excBase_ValueError y_TooLong.x y_TooLong.g y_TooLong.k (raises_own y_TooLong.b y_TooLong.t) (by rfl))))
        pss_nil))))))))))))), ?_⟩
    rcases (show k = 16 ∨ k = 17 ∨ k = 18 ∨ k = 19 ∨ k = 20 ∨ k = 21 ∨ k = 22 ∨ k = 23 ∨ k = 24 ∨ k = 25 ∨ k = 26 ∨ k = 27 ∨ k < 16 by omega) with rfl | rfl | rfl | rfl | rfl | rfl | rfl | rfl | rfl | rfl | rfl | rfl | h16
    · clear q16
      exact ⟨_, rfl, rfl, true, congrArg V.bl eqI, iteT (qe (by decide) _ C_NoBack rfl y_NoBack.a)⟩
    · clear q16
      refine ⟨_, rfl, rfl, false, congrArg V.bl (neI (by decide)), iteF ?_⟩
      exact ⟨_, rfl, rfl, true, congrArg V.bl eqI, iteT (qe (by decide) _ C_NoDrive rfl y_NoDrive.a)⟩
    · clear q16
      refine ⟨_, rfl, rfl, false, congrArg V.bl (neI (by decide)), iteF ?_⟩
      refine ⟨_, rfl, rfl, false, congrArg V.bl (neI (by decide)), iteF ?_⟩
      exact ⟨_, rfl, rfl, true, congrArg V.bl eqI, iteT (qe (by decide) _ C_NoLane rfl y_NoLane.a)⟩
    · clear q16
      refine ⟨_, rfl, rfl, false, congrArg V.bl (neI (by decide)), iteF ?_⟩
      refine ⟨_, rfl, rfl, false, congrArg V.bl (neI (by decide)), iteF ?_⟩
      refine ⟨_, rfl, rfl, false, congrArg V.bl (neI (by decide)), iteF ?_⟩
      exact ⟨_, rfl, rfl, true, congrArg V.bl eqI, iteT (qe (by decide) _ C_NoLine rfl y_NoLine.a)⟩
    · clear q16
      refine ⟨_, rfl, rfl, false, congrArg V.bl (neI (by decide)), iteF ?_⟩
      refine ⟨_, rfl, rfl, false, congrArg V.bl (neI (by decide)), iteF ?_⟩
      refine ⟨_, rfl, rfl, false, congrArg V.bl (neI (by decide)), iteF ?_⟩
      refine ⟨_, rfl, rfl, false, congrArg V.bl (neI (by decide)), iteF ?_⟩
      exact ⟨_, rfl, rfl, true, congrArg V.bl eqI, iteT (qe (by decide) _ C_NoMeasure rfl y_NoMeasure.a)⟩
    · clear q16
      refine ⟨_, rfl, rfl, false, congrArg V.bl (neI (by decide)), iteF ?_⟩
      refine ⟨_, rfl, rfl, false, congrArg V.bl (neI (by decide)), iteF ?_⟩
      refine ⟨_, rfl, rfl, false, congrArg V.bl (neI (by decide)), iteF ?_⟩
      refine ⟨_, rfl, rfl, false, congrArg V.bl (neI (by decide)), iteF ?_⟩
      refine ⟨_, rfl, rfl, false, congrArg V.bl (neI (by decide)), iteF ?_⟩
      exact ⟨_, rfl, rfl, true, congrArg V.bl eqI, iteT (qe (by decide) _ C_NoPart rfl y_NoPart.a)⟩
    · clear q16
      refine ⟨_, rfl, rfl, false, congrArg V.bl (neI (by decide)), iteF ?_⟩
      refine ⟨_, rfl, rfl, false, congrArg V.bl (neI (by decide)), iteF ?_⟩
      refine ⟨_, rfl, rfl, false, congrArg V.bl (neI (by decide)), iteF ?_⟩
      refine ⟨_, rfl, rfl, false, congrArg V.bl (neI (by decide)), iteF ?_⟩
      refine ⟨_, rfl, rfl, false, congrArg V.bl (neI (by decide)), iteF ?_⟩
      refine ⟨_, rfl, rfl, false, congrArg V.bl (neI (by decide)), iteF ?_⟩
      exact ⟨_, rfl, rfl, true, congrArg V.bl eqI, iteT (qe (by decide) _ C_NoTitle rfl y_NoTitle.a)⟩
    · clear q16
      refine ⟨_, rfl, rfl, false, congrArg V.bl (neI (by decide)), iteF ?_⟩
      refine ⟨_, rfl, rfl, false, congrArg V.bl (neI (by decide)), iteF ?_⟩
      refine ⟨_, rfl, rfl, false, congrArg V.bl (neI (by decide)), iteF ?_⟩
      refine ⟨_, rfl, rfl, false, congrArg V.bl (neI (by decide)), iteF ?_⟩
      refine ⟨_, rfl, rfl, false, congrArg V.bl (neI (by decide)), iteF ?_⟩
      refine ⟨_, rfl, rfl, false, congrArg V.bl (neI (by decide)), iteF ?_⟩
      refine ⟨_, rfl, rfl, false, congrArg V.bl (neI (by decide)), iteF ?_⟩
      exact ⟨_, rfl, rfl, true, congrArg V.bl eqI, iteT (qe (by decide) _ C_NoWait rfl y_NoWait.a)⟩
    · clear q16
      refine ⟨_, rfl, rfl, false, congrArg V.bl (neI (by decide)), iteF ?_⟩
      refine ⟨_, rfl, rfl, false, congrArg V.bl (neI (by decide)), iteF ?_⟩
      refine ⟨_, rfl, rfl, false, congrArg V.bl (neI (by decide)), iteF ?_⟩
      refine ⟨_, rfl, rfl, false, congrArg V.bl (neI (by decide)), iteF ?_⟩
      refine ⟨_, rfl, rfl, false, congrArg V.bl (neI (by decide)), iteF ?_⟩
      refine ⟨_, rfl, rfl, false, congrArg V.bl (neI (by decide)), iteF ?_⟩
      refine ⟨_, rfl, rfl, false, congrArg V.bl (neI (by decide)), iteF ?_⟩
      refine ⟨_, rfl, rfl, false, congrArg V.bl (neI (by decide)), iteF ?_⟩
      exact ⟨_, rfl, rfl, true, congrArg V.bl eqI, iteT (qe (by decide) _ C_NoWay rfl y_NoWay.a)⟩
    · clear q16
      refine ⟨_, rfl, rfl, false, congrArg V.bl (neI (by decide)), iteF ?_⟩
      refine ⟨_, rfl, rfl, false, congrArg V.bl (neI (by decide)), iteF ?_⟩
      refine ⟨_, rfl, rfl, false, congrArg V.bl (neI (by decide)), iteF ?_⟩
      refine ⟨_, rfl, rfl, false, congrArg V.bl (neI (by decide)), iteF ?_⟩
      refine ⟨_, rfl, rfl, false, congrArg V.bl (neI (by decide)), iteF ?_⟩
      refine ⟨_, rfl, rfl, false, congrArg V.bl (neI (by decide)), iteF ?_⟩
      refine ⟨_, rfl, rfl, false, congrArg V.bl (neI (by decide)), iteF ?_⟩
      refine ⟨_, rfl, rfl, false, congrArg V.bl (neI (by decide)), iteF ?_⟩
      refine ⟨_, rfl, rfl, false, congrArg V.bl (neI (by decide)), iteF ?_⟩
      exact ⟨_, rfl, rfl, true, congrArg V.bl eqI, iteT (qe (by decide) _ C_NoWord rfl y_NoWord.a)⟩
    · clear q16
      refine ⟨_, rfl, rfl, false, congrArg V.bl (neI (by decide)), iteF ?_⟩
      refine ⟨_, rfl, rfl, false, congrArg V.bl (neI (by decide)), iteF ?_⟩
      refine ⟨_, rfl, rfl, false, congrArg V.bl (neI (by decide)), iteF ?_⟩
      refine ⟨_, rfl, rfl, false, congrArg V.bl (neI (by decide)), iteF ?_⟩
      refine ⟨_, rfl, rfl, false, congrArg V.bl (neI (by decide)), iteF ?_⟩
      refine ⟨_, rfl, rfl, false, congrArg V.bl (neI (by decide)), iteF ?_⟩
      refine ⟨_, rfl, rfl, false, congrArg V.bl (neI (by decide)), iteF ?_⟩
      refine ⟨_, rfl, rfl, false, congrArg V.bl (neI (by decide)), iteF ?_⟩
      refine ⟨_, rfl, rfl, false, congrArg V.bl (neI (by decide)), iteF ?_⟩
      refine ⟨_, rfl, rfl, false, congrArg V.bl (neI (by decide)), iteF ?_⟩
      exact ⟨_, rfl, rfl, true, congrArg V.bl eqI, iteT (qe (by decide) _ C_TooDeep rfl y_TooDeep.a)⟩
    · clear q16
      refine ⟨_, rfl, rfl, false, congrArg V.bl (neI (by decide)), iteF ?_⟩
      refine ⟨_, rfl, rfl, false, congrArg V.bl (neI (by decide)), iteF ?_⟩
      refine ⟨_, rfl, rfl, false, congrArg V.bl (neI (by decide)), iteF ?_⟩
      refine ⟨_, rfl, rfl, false, congrArg V.bl (neI (by decide)), iteF ?_⟩
      refine ⟨_, rfl, rfl, false, congrArg V.bl (neI (by decide)), iteF ?_⟩
      refine ⟨_, rfl, rfl, false, congrArg V.bl (neI (by decide)), iteF ?_⟩
      refine ⟨_, rfl, rfl, false, congrArg V.bl (neI (by decide)), iteF ?_⟩
      refine ⟨_, rfl, rfl, false, congrArg V.bl (neI (by decide)), iteF ?_⟩
      refine ⟨_, rfl, rfl, false, congrArg V.bl (neI (by decide)), iteF ?_⟩
      refine ⟨_, rfl, rfl, false, congrArg V.bl (neI (by decide)), iteF ?_⟩
      refine ⟨_, rfl, rfl, false, congrArg V.bl (neI (by decide)), iteF ?_⟩
      exact ⟨_, rfl, rfl, true, congrArg V.bl eqI, iteT (qe (by decide) _ C_TooLong rfl y_TooLong.a)⟩
    · clear qe
      have ne : ∀ i : Nat, 16 ≤ i → decide (nV k = V.int (i : Int)) = false := fun i hi => neI (by omega)
      refine ⟨_, rfl, rfl, false, congrArg V.bl (ne 16 (by decide)), iteF ?_⟩
      refine ⟨_, rfl, rfl, false, congrArg V.bl (ne 17 (by decide)), iteF ?_⟩
      refine ⟨_, rfl, rfl, false, congrArg V.bl (ne 18 (by decide)), iteF ?_⟩
      refine ⟨_, rfl, rfl, false, congrArg V.bl (ne 19 (by decide)), iteF ?_⟩
      refine ⟨_, rfl, rfl, false, congrArg V.bl (ne 20 (by decide)), iteF ?_⟩
      refine ⟨_, rfl, rfl, false, congrArg V.bl (ne 21 (by decide)), iteF ?_⟩
      refine ⟨_, rfl, rfl, false, congrArg V.bl (ne 22 (by decide)), iteF ?_⟩
      refine ⟨_, rfl, rfl, false, congrArg V.bl (ne 23 (by decide)), iteF ?_⟩
      refine ⟨_, rfl, rfl, false, congrArg V.bl (ne 24 (by decide)), iteF ?_⟩
      refine ⟨_, rfl, rfl, false, congrArg V.bl (ne 25 (by decide)), iteF ?_⟩
      refine ⟨_, rfl, rfl, false, congrArg V.bl (ne 26 (by decide)), iteF ?_⟩
      exact ⟨_, rfl, rfl, false, congrArg V.bl (ne 27 (by decide)), iteF (q16 h16)⟩
def sp_law_fourth (K : PySem.W.Frag) : Sp := fun vs H Q E => ∃ (k : Nat) (v : V), vs = [nV k, v] ∧ k < 28 ∧ (k < 16 → Q .non H) ∧ (16 ≤ k → ∀ x C, clsN[k]? = some x → PySem.W.nsIn K mainGlobals x = some (some (.ref C)) → E (.ref C) none H)
theorem ok_law_fourth {f : Addr} {fd : FuncData} (F : Fun K "_law_fourth" "_law_fourth" s_law_fourth f fd) {C_NoBack : Addr} (y_NoBack : YCal K mg "NoBack" C_NoBack) {C_NoDrive : Addr} (y_NoDrive : YCal K mg "NoDrive" C_NoDrive) {C_NoLane : Addr} (y_NoLane : YCal K mg "NoLane" C_NoLane) {C_NoLine : Addr} (y_NoLine : YCal K mg "NoLine" C_NoLine) {C_NoMeasure : Addr} (y_NoMeasure : YCal K mg "NoMeasure" C_NoMeasure) {C_NoPart : Addr} (y_NoPart : YCal K mg "NoPart" C_NoPart) {C_NoTitle : Addr} (y_NoTitle : YCal K mg "NoTitle" C_NoTitle) {C_NoWait : Addr} (y_NoWait : YCal K mg "NoWait" C_NoWait) {C_NoWay : Addr} (y_NoWay : YCal K mg "NoWay" C_NoWay) {C_NoWord : Addr} (y_NoWord : YCal K mg "NoWord" C_NoWord) {C_TooDeep : Addr} (y_TooDeep : YCal K mg "TooDeep" C_TooDeep) {C_TooLong : Addr} (y_TooLong : YCal K mg "TooLong" C_TooLong) : FnOk P w K mg base (L2.CX P w) 1 f fd ["_law_which", "_law_line"] (sp_law_fourth K) := by
  refine F.okX sc_law_fourth (fun vs H Q E h => ?_) (fun cdv A outer s H vs Q E hr h => ?_)
  · obtain ⟨_, _, rfl, _⟩ := h
    rfl
  · obtain ⟨k, v, rfl, hk, q16, qe⟩ := h
    refine ⟨_, (pss_cons (ps_if (pt_cmpR op_eq (pv 0) pe_int (nomark _))
        (pss_one (ps_raise rfl (takes_of rfl rfl rfl rfl) (pmk_ownA PySem.F.excBase_ValueError y_NoBack.x y_NoBack.g y_NoBack.k (raises_own y_NoBack.b y_NoBack.t) (by rfl) (pa_cons (pv 1) pa_nil))))
        pss_nil)
      (pss_cons (ps_if (pt_cmpR op_eq (pv 0) pe_int (nomark _))
        (pss_one (ps_raise rfl (takes_of rfl rfl rfl rfl) (pmk_ownA PySem.F.excBase_ValueError y_NoDrive.x y_NoDrive.g y_NoDrive.k (raises_own y_NoDrive.b y_NoDrive.t) (by rfl) (pa_cons (pv 1) pa_nil))))
        pss_nil)
      (pss_cons (ps_if (pt_cmpR op_eq (pv 0) pe_int (nomark _))
        (pss_one (ps_raise rfl (takes_of rfl rfl rfl rfl) (pmk_ownA PySem.F.excBase_ValueError y_NoLane.x y_NoLane.g y_NoLane.k (raises_own y_NoLane.b y_NoLane.t) (by rfl) (pa_cons (pv 1) pa_nil))))
        pss_nil)
      (pss_cons (ps_if (pt_cmpR op_eq (pv 0) pe_int (nomark _))
        (pss_one (ps_raise rfl (takes_of rfl rfl rfl rfl) (pmk_ownA PySem.F.excBase_ValueError y_NoLine.x y_NoLine.g y_NoLine.k (raises_own y_NoLine.b y_NoLine.t) (by rfl) (pa_cons (pv 1) pa_nil))))
        pss_nil)
      (pss_cons (ps_if (pt_cmpR op_eq (pv 0) pe_int (nomark _))
        (pss_one (ps_raise rfl (takes_of rfl rfl rfl rfl) (pmk_ownA PySem.F.excBase_ValueError y_NoMeasure.x y_NoMeasure.g y_NoMeasure.k (raises_own y_NoMeasure.b y_NoMeasure.t) (by rfl) (pa_cons (pv 1) pa_nil))))
        pss_nil)
      (pss_cons (ps_if (pt_cmpR op_eq (pv 0) pe_int (nomark _))
        (pss_one (ps_raise rfl (takes_of rfl rfl rfl rfl) (pmk_ownA PySem.F.excBase_ValueError y_NoPart.x y_NoPart.g y_NoPart.k (raises_own y_NoPart.b y_NoPart.t) (by rfl) (pa_cons (pv 1) pa_nil))))
        pss_nil)
      (pss_cons (ps_if (pt_cmpR op_eq (pv 0) pe_int (nomark _))
        (pss_one (ps_raise rfl (takes_of rfl rfl rfl rfl) (pmk_ownA PySem.F.excBase_ValueError y_NoTitle.x y_NoTitle.g y_NoTitle.k (raises_own y_NoTitle.b y_NoTitle.t) (by rfl) (pa_cons (pv 1) pa_nil))))
        pss_nil)
      (pss_cons (ps_if (pt_cmpR op_eq (pv 0) pe_int (nomark _))
        (pss_one (ps_raise rfl (takes_of rfl rfl rfl rfl) (pmk_ownA PySem.F.excBase_ValueError y_NoWait.x y_NoWait.g y_NoWait.k (raises_own y_NoWait.b y_NoWait.t) (by rfl) (pa_cons (pv 1) pa_nil))))
        pss_nil)
      (pss_cons (ps_if (pt_cmpR op_eq (pv 0) pe_int (nomark _))
        (pss_one (ps_raise rfl (takes_of rfl rfl rfl rfl) (pmk_ownA PySem.F.excBase_ValueError y_NoWay.x y_NoWay.g y_NoWay.k (raises_own y_NoWay.b y_NoWay.t) (by rfl) (pa_cons (pv 1) pa_nil))))
        pss_nil)
      (pss_cons (ps_if (pt_cmpR op_eq (pv 0) pe_int (nomark _))
        (pss_one (ps_raise rfl (takes_of rfl rfl rfl rfl) (pmk_ownA PySem.F.excBase_ValueError y_NoWord.x y_NoWord.g y_NoWord.k (raises_own y_NoWord.b y_NoWord.t) (by rfl) (pa_cons (pv 1) pa_nil))))
        pss_nil)
      (pss_cons (ps_if (pt_cmpR op_eq (pv 0) pe_int (nomark _))
        (pss_one (ps_raise rfl (takes_of rfl rfl rfl rfl) (pmk_ownA PySem.F.excBase_ValueError y_TooDeep.x y_TooDeep.g y_TooDeep.k (raises_own y_TooDeep.b y_TooDeep.t) (by rfl) (pa_cons (pv 1) pa_nil))))
        pss_nil)
      (pss_one (ps_if (pt_cmpR op_eq (pv 0) pe_int (nomark _))
        (pss_one (ps_raise rfl (takes_of rfl rfl rfl rfl) (pmk_ownA PySem.F.excBase_ValueError y_TooLong.x y_TooLong.g y_TooLong.k (raises_own y_TooLong.b y_TooLong.t) (by rfl) (pa_cons (pv 1) pa_nil))))
        pss_nil))))))))))))), ?_⟩
    rcases (show k = 16 ∨ k = 17 ∨ k = 18 ∨ k = 19 ∨ k = 20 ∨ k = 21 ∨ k = 22 ∨ k = 23 ∨ k = 24 ∨ k = 25 ∨ k = 26 ∨ k = 27 ∨ k < 16 by omega) with rfl | rfl | rfl | rfl | rfl | rfl | rfl | rfl | rfl | rfl | rfl | rfl | h16
    · clear q16
      exact ⟨_, rfl, rfl, true, congrArg V.bl eqI, iteT ⟨_, rfl, by show 1 ≤ sizeLine; decide, qe (by decide) _ C_NoBack rfl y_NoBack.a⟩⟩
    · clear q16
      refine ⟨_, rfl, rfl, false, congrArg V.bl (neI (by decide)), iteF ?_⟩
      exact ⟨_, rfl, rfl, true, congrArg V.bl eqI, iteT ⟨_, rfl, by show 1 ≤ sizeLine; decide, qe (by decide) _ C_NoDrive rfl y_NoDrive.a⟩⟩
    · clear q16
      refine ⟨_, rfl, rfl, false, congrArg V.bl (neI (by decide)), iteF ?_⟩
      refine ⟨_, rfl, rfl, false, congrArg V.bl (neI (by decide)), iteF ?_⟩
      exact ⟨_, rfl, rfl, true, congrArg V.bl eqI, iteT ⟨_, rfl, by show 1 ≤ sizeLine; decide, qe (by decide) _ C_NoLane rfl y_NoLane.a⟩⟩
    · clear q16
      refine ⟨_, rfl, rfl, false, congrArg V.bl (neI (by decide)), iteF ?_⟩
      refine ⟨_, rfl, rfl, false, congrArg V.bl (neI (by decide)), iteF ?_⟩
      refine ⟨_, rfl, rfl, false, congrArg V.bl (neI (by decide)), iteF ?_⟩
      exact ⟨_, rfl, rfl, true, congrArg V.bl eqI, iteT ⟨_, rfl, by show 1 ≤ sizeLine; decide, qe (by decide) _ C_NoLine rfl y_NoLine.a⟩⟩
    · clear q16
      refine ⟨_, rfl, rfl, false, congrArg V.bl (neI (by decide)), iteF ?_⟩
      refine ⟨_, rfl, rfl, false, congrArg V.bl (neI (by decide)), iteF ?_⟩
      refine ⟨_, rfl, rfl, false, congrArg V.bl (neI (by decide)), iteF ?_⟩
      refine ⟨_, rfl, rfl, false, congrArg V.bl (neI (by decide)), iteF ?_⟩
      exact ⟨_, rfl, rfl, true, congrArg V.bl eqI, iteT ⟨_, rfl, by show 1 ≤ sizeLine; decide, qe (by decide) _ C_NoMeasure rfl y_NoMeasure.a⟩⟩
    · clear q16
      refine ⟨_, rfl, rfl, false, congrArg V.bl (neI (by decide)), iteF ?_⟩
      refine ⟨_, rfl, rfl, false, congrArg V.bl (neI (by decide)), iteF ?_⟩
      refine ⟨_, rfl, rfl, false, congrArg V.bl (neI (by decide)), iteF ?_⟩
      refine ⟨_, rfl, rfl, false, congrArg V.bl (neI (by decide)), iteF ?_⟩
      refine ⟨_, rfl, rfl, false, congrArg V.bl (neI (by decide)), iteF ?_⟩
      exact ⟨_, rfl, rfl, true, congrArg V.bl eqI, iteT ⟨_, rfl, by show 1 ≤ sizeLine; decide, qe (by decide) _ C_NoPart rfl y_NoPart.a⟩⟩
    · clear q16
      refine ⟨_, rfl, rfl, false, congrArg V.bl (neI (by decide)), iteF ?_⟩
      refine ⟨_, rfl, rfl, false, congrArg V.bl (neI (by decide)), iteF ?_⟩
      refine ⟨_, rfl, rfl, false, congrArg V.bl (neI (by decide)), iteF ?_⟩
      refine ⟨_, rfl, rfl, false, congrArg V.bl (neI (by decide)), iteF ?_⟩
      refine ⟨_, rfl, rfl, false, congrArg V.bl (neI (by decide)), iteF ?_⟩
      refine ⟨_, rfl, rfl, false, congrArg V.bl (neI (by decide)), iteF ?_⟩
      exact ⟨_, rfl, rfl, true, congrArg V.bl eqI, iteT ⟨_, rfl, by show 1 ≤ sizeLine; decide, qe (by decide) _ C_NoTitle rfl y_NoTitle.a⟩⟩
    · clear q16
      refine ⟨_, rfl, rfl, false, congrArg V.bl (neI (by decide)), iteF ?_⟩
      refine ⟨_, rfl, rfl, false, congrArg V.bl (neI (by decide)), iteF ?_⟩
      refine ⟨_, rfl, rfl, false, congrArg V.bl (neI (by decide)), iteF ?_⟩
      refine ⟨_, rfl, rfl, false, congrArg V.bl (neI (by decide)), iteF ?_⟩
      refine ⟨_, rfl, rfl, false, congrArg V.bl (neI (by decide)), iteF ?_⟩
      refine ⟨_, rfl, rfl, false, congrArg V.bl (neI (by decide)), iteF ?_⟩
      refine ⟨_, rfl, rfl, false, congrArg V.bl (neI (by decide)), iteF ?_⟩
      exact ⟨_, rfl, rfl, true, congrArg V.bl eqI, iteT ⟨_, rfl, by show 1 ≤ sizeLine; decide, qe (by decide) _ C_NoWait rfl y_NoWait.a⟩⟩
    · clear q16
      refine ⟨_, rfl, rfl, false, congrArg V.bl (neI (by decide)), iteF ?_⟩
      refine ⟨_, rfl, rfl, false, congrArg V.bl (neI (by decide)), iteF ?_⟩
      refine ⟨_, rfl, rfl, false, congrArg V.bl (neI (by decide)), iteF ?_⟩
      refine ⟨_, rfl, rfl, false, congrArg V.bl (neI (by decide)), iteF ?_⟩
      refine ⟨_, rfl, rfl, false, congrArg V.bl (neI (by decide)), iteF ?_⟩
      refine ⟨_, rfl, rfl, false, congrArg V.bl (neI (by decide)), iteF ?_⟩
      refine ⟨_, rfl, rfl, false, congrArg V.bl (neI (by decide)), iteF ?_⟩
      refine ⟨_, rfl, rfl, false, congrArg V.bl (neI (by decide)), iteF ?_⟩
      exact ⟨_, rfl, rfl, true, congrArg V.bl eqI, iteT ⟨_, rfl, by show 1 ≤ sizeLine; decide, qe (by decide) _ C_NoWay rfl y_NoWay.a⟩⟩
    · clear q16
      refine ⟨_, rfl, rfl, false, congrArg V.bl (neI (by decide)), iteF ?_⟩
      refine ⟨_, rfl, rfl, false, congrArg V.bl (neI (by decide)), iteF ?_⟩
      refine ⟨_, rfl, rfl, false, congrArg V.bl (neI (by decide)), iteF ?_⟩
      refine ⟨_, rfl, rfl, false, congrArg V.bl (neI (by decide)), iteF ?_⟩
      refine ⟨_, rfl, rfl, false, congrArg V.bl (neI (by decide)), iteF ?_⟩
      refine ⟨_, rfl, rfl, false, congrArg V.bl (neI (by decide)), iteF ?_⟩
      refine ⟨_, rfl, rfl, false, congrArg V.bl (neI (by decide)), iteF ?_⟩
      refine ⟨_, rfl, rfl, false, congrArg V.bl (neI (by decide)), iteF ?_⟩
      refine ⟨_, rfl, rfl, false, congrArg V.bl (neI (by decide)), iteF ?_⟩
      exact ⟨_, rfl, rfl, true, congrArg V.bl eqI, iteT ⟨_, rfl, by show 1 ≤ sizeLine; decide, qe (by decide) _ C_NoWord rfl y_NoWord.a⟩⟩
    · clear q16
      refine ⟨_, rfl, rfl, false, congrArg V.bl (neI (by decide)), iteF ?_⟩
      refine ⟨_, rfl, rfl, false, congrArg V.bl (neI (by decide)), iteF ?_⟩
      refine ⟨_, rfl, rfl, false, congrArg V.bl (neI (by decide)), iteF ?_⟩
      refine ⟨_, rfl, rfl, false, congrArg V.bl (neI (by decide)), iteF ?_⟩
      refine ⟨_, rfl, rfl, false, congrArg V.bl (neI (by decide)), iteF ?_⟩
      refine ⟨_, rfl, rfl, false, congrArg V.bl (neI (by decide)), iteF ?_⟩
      refine ⟨_, rfl, rfl, false, congrArg V.bl (neI (by decide)), iteF ?_⟩
      refine ⟨_, rfl, rfl, false, congrArg V.bl (neI (by decide)), iteF ?_⟩
      refine ⟨_, rfl, rfl, false, congrArg V.bl (neI (by decide)), iteF ?_⟩
      refine ⟨_, rfl, rfl, false, congrArg V.bl (neI (by decide)), iteF ?_⟩
      exact ⟨_, rfl, rfl, true, congrArg V.bl eqI, iteT ⟨_, rfl, by show 1 ≤ sizeLine; decide, qe (by decide) _ C_TooDeep rfl y_TooDeep.a⟩⟩
    · clear q16
      refine ⟨_, rfl, rfl, false, congrArg V.bl (neI (by decide)), iteF ?_⟩
      refine ⟨_, rfl, rfl, false, congrArg V.bl (neI (by decide)), iteF ?_⟩
      refine ⟨_, rfl, rfl, false, congrArg V.bl (neI (by decide)), iteF ?_⟩
      refine ⟨_, rfl, rfl, false, congrArg V.bl (neI (by decide)), iteF ?_⟩
      refine ⟨_, rfl, rfl, false, congrArg V.bl (neI (by decide)), iteF ?_⟩
      refine ⟨_, rfl, rfl, false, congrArg V.bl (neI (by decide)), iteF ?_⟩
      refine ⟨_, rfl, rfl, false, congrArg V.bl (neI (by decide)), iteF ?_⟩
      refine ⟨_, rfl, rfl, false, congrArg V.bl (neI (by decide)), iteF ?_⟩
      refine ⟨_, rfl, rfl, false, congrArg V.bl (neI (by decide)), iteF ?_⟩
      refine ⟨_, rfl, rfl, false, congrArg V.bl (neI (by decide)), iteF ?_⟩
      refine ⟨_, rfl, rfl, false, congrArg V.bl (neI (by decide)), iteF ?_⟩
      exact ⟨_, rfl, rfl, true, congrArg V.bl eqI, iteT ⟨_, rfl, by show 1 ≤ sizeLine; decide, qe (by decide) _ C_TooLong rfl y_TooLong.a⟩⟩
    · clear qe
      have ne : ∀ i : Nat, 16 ≤ i → decide (nV k = V.int (i : Int)) = false := fun i hi => neI (by omega)
      refine ⟨_, rfl, rfl, false, congrArg V.bl (ne 16 (by decide)), iteF ?_⟩
      refine ⟨_, rfl, rfl, false, congrArg V.bl (ne 17 (by decide)), iteF ?_⟩
      refine ⟨_, rfl, rfl, false, congrArg V.bl (ne 18 (by decide)), iteF ?_⟩
      refine ⟨_, rfl, rfl, false, congrArg V.bl (ne 19 (by decide)), iteF ?_⟩
      refine ⟨_, rfl, rfl, false, congrArg V.bl (ne 20 (by decide)), iteF ?_⟩
      refine ⟨_, rfl, rfl, false, congrArg V.bl (ne 21 (by decide)), iteF ?_⟩
      refine ⟨_, rfl, rfl, false, congrArg V.bl (ne 22 (by decide)), iteF ?_⟩
      refine ⟨_, rfl, rfl, false, congrArg V.bl (ne 23 (by decide)), iteF ?_⟩
      refine ⟨_, rfl, rfl, false, congrArg V.bl (ne 24 (by decide)), iteF ?_⟩
      refine ⟨_, rfl, rfl, false, congrArg V.bl (ne 25 (by decide)), iteF ?_⟩
      refine ⟨_, rfl, rfl, false, congrArg V.bl (ne 26 (by decide)), iteF ?_⟩
      exact ⟨_, rfl, rfl, false, congrArg V.bl (ne 27 (by decide)), iteF (q16 h16)⟩
end
end WK
namespace WK
open PySem PySem.Spec PyProof.Rows L2
abbrev s_law_marks : Stmt := topS 36
theorem sc_law_marks : FnScope ["_law_caught_here", "_law_found", "_law_k"] ["_law_caught_here"] (defScope s_law_marks) := ⟨rfl, rfl, rfl, by decide +kernel, rfl, by decide +kernel, by decide +kernel⟩
/-- of two refusals none stands under the other one -/
def SubK (K : PySem.W.Frag) : Prop := ∀ (i j : Nat) (x y : Str) (C D : Addr), clsN[i]? = some x → clsN[j]? = some y → PySem.W.nsIn K mainGlobals x = some (some (.ref C)) → PySem.W.nsIn K mainGlobals y = some (some (.ref D)) → PySem.W.subIn K (.ref C) (.ref D) = some (decide (i = j))
structure ExOk (K : PySem.W.Frag) (C : Addr) (i : Nat) : Prop where
  ex : WX.ExK K C
  ty : PySem.W.typeIn K (.ref C) = some (.type "type")
  ve : PySem.W.subIn K (.ref C) (.type "ValueError") = some true
  lo : ∀ L, PySem.W.nsIn K mainGlobals "LoomError" = some (some (.ref L)) → PySem.W.subIn K (.ref C) (.ref L) = some true
  no : ∀ f, fldN[i]? = some f → PySem.W.findIn K (.ref C) f = some none
  no2 : i = 15 → PySem.W.findIn K (.ref C) "row" = some none ∧ PySem.W.findIn K (.ref C) "at" = some none
def ExAll (K : PySem.W.Frag) : Prop := ∀ (i : Nat) (x : Str) (C : Addr), clsN[i]? = some x → PySem.W.nsIn K mainGlobals x = some (some (.ref C)) → ExOk K C i
theorem exd_mono {H H' : Hp} {d : Option Addr} (s : Same H H') (h : WX.ExD H d) : WX.ExD H' d := by
  rcases h with h | ⟨dd, fs, h1, h2⟩
  · exact .inl h
  · exact .inr ⟨dd, fs, h1, s _ _ h2⟩
def hitL (k m : Nat) : List V := (List.range m).map fun j => V.bl (decide (k = j))
theorem hitL_at {k m j : Nat} (h : j < m) : (hitL k m)[j]? = some (V.bl (decide (k = j))) := by
  unfold hitL
  rw [List.getElem?_map, List.getElem?_range h]
  rfl
theorem hitL_len (k m : Nat) : (hitL k m).length = m := by
  unfold hitL
  rw [List.length_map, List.length_range]
theorem one_left {k : Nat} (h : k < 28) : (List.range 28).filter (fun j => decide (k = j)) = [k] := by
  have : ∀ q : Fin 28, (List.range 28).filter (fun j => decide (q.val = j)) = [q.val] := by decide +kernel
  exact this ⟨k, h⟩
theorem ns_is {K : PySem.W.Frag} {mg : Str → Option Value} {x : Str} {D : Addr} (e : DCal K mg x D) : PySem.W.nsIn K mainGlobals x = some (some (.ref D)) := e.a
section
variable {P : Program} {w : World} {K : PySem.W.Frag} {mg : Str → Option Value} {base : Heap}
def sp_law_marks (K : PySem.W.Frag) : Sp := fun vs H Q _ => ∃ (a C : Addr) (d : Option Addr) (k : Nat) (x : Str), vs = [.ref a] ∧ H a = some (WX.ExT a (.ref C) d) ∧ WX.ExD H d ∧ k < 28 ∧ clsN[k]? = some x ∧ PySem.W.nsIn K mainGlobals x = some (some (.ref C)) ∧
  ∀ H' p, Same H H' → H' p = some (.lst [nV k]) → Q (.ref p) H'
theorem ok_law_marks {f : Addr} {fd : FuncData} (F : Fun K "_law_marks" "_law_marks" s_law_marks f fd) (m_isinstance : mg "isinstance" = none) (m_len : mg "len" = none) (m_range : mg "range" = none) {C_Dry : Addr} (e_Dry : DCal K mg "Dry" C_Dry) {C_NoBack : Addr} (e_NoBack : DCal K mg "NoBack" C_NoBack) {C_NoBeat : Addr} (e_NoBeat : DCal K mg "NoBeat" C_NoBeat) {C_NoBook : Addr} (e_NoBook : DCal K mg "NoBook" C_NoBook) {C_NoDeed : Addr} (e_NoDeed : DCal K mg "NoDeed" C_NoDeed) {C_NoDrive : Addr} (e_NoDrive : DCal K mg "NoDrive" C_NoDrive) {C_NoFace : Addr} (e_NoFace : DCal K mg "NoFace" C_NoFace) {C_NoFlow : Addr} (e_NoFlow : DCal K mg "NoFlow" C_NoFlow) {C_NoLane : Addr} (e_NoLane : DCal K mg "NoLane" C_NoLane) {C_NoLine : Addr} (e_NoLine : DCal K mg "NoLine" C_NoLine) {C_NoLoop : Addr} (e_NoLoop : DCal K mg "NoLoop" C_NoLoop) {C_NoMeasure : Addr} (e_NoMeasure : DCal K mg "NoMeasure" C_NoMeasure) {C_NoModule : Addr} (e_NoModule : DCal K mg "NoModule" C_NoModule) {C_NoName : Addr} (e_NoName : DCal K mg "NoName" C_NoName) {C_NoNet : Addr} (e_NoNet : DCal K mg "NoNet" C_NoNet) {C_NoPart : Addr} (e_NoPart : DCal K mg "NoPart" C_NoPart) {C_NoPlace : Addr} (e_NoPlace : DCal K mg "NoPlace" C_NoPlace) {C_NoRoom : Addr} (e_NoRoom : DCal K mg "NoRoom" C_NoRoom) {C_NoState : Addr} (e_NoState : DCal K mg "NoState" C_NoState) {C_NoText : Addr} (e_NoText : DCal K mg "NoText" C_NoText) {C_NoTitle : Addr} (e_NoTitle : DCal K mg "NoTitle" C_NoTitle) {C_NoWait : Addr} (e_NoWait : DCal K mg "NoWait" C_NoWait) {C_NoWay : Addr} (e_NoWay : DCal K mg "NoWay" C_NoWay) {C_NoWord : Addr} (e_NoWord : DCal K mg "NoWord" C_NoWord) {C_Over : Addr} (e_Over : DCal K mg "Over" C_Over) {C_TooDeep : Addr} (e_TooDeep : DCal K mg "TooDeep" C_TooDeep) {C_TooLong : Addr} (e_TooLong : DCal K mg "TooLong" C_TooLong) {C_Twice : Addr} (e_Twice : DCal K mg "Twice" C_Twice) (f_subk : SubK K) (f_exk : ExAll K) : FnOk P w K mg base CX0 1 f fd ["_law_caught_here"] (sp_law_marks K) := by
  refine F.ok sc_law_marks (fun vs H Q E h => ?_) (fun cdv A outer s H vs Q E hr h => ?_)
  · obtain ⟨_, _, _, _, _, rfl, _⟩ := h
    rfl
  · obtain ⟨a, C, d, k, xk, rfl, ha, hd, hk, hx, hC, q⟩ := h
    have hz := szl
    have ex := (f_exk k xk C hx hC).ex
    have kt : ∀ {j : Nat} {y : Str} {D : Addr}, clsN[j]? = some y → DCal K mg y D → PySem.W.kitOne K (.ref C) (.ref D) = some (decide (k = j)) := by
      intro j y D hy e
      have u := f_subk k j xk y C D hx hy hC e.a
      refine e.kit u fun z => ?_
      have z : C = D := by simpa using z
      subst z
      have u2 := f_subk k k xk xk C C hx hx hC hC
      rw [u] at u2
      have u3 := Option.some.inj u2
      rw [u3]
      exact decide_eq_true rfl
    clear f_subk f_exk
    refine ⟨_, (C8.pss_cut (ps_set (i := 1) sc_law_marks.nd rfl (Or.inr rfl) (pe_lst (pa_cons (pe_callB WX.call_isX (by rfl) m_isinstance (by decide +kernel) (pa_cons (pv 0) (pa_cons (pe_glob (v := .ref C_NoBeat) (by rfl) e_NoBeat.g rfl) pa_nil))) (pa_cons (pe_callB WX.call_isX (by rfl) m_isinstance (by decide +kernel) (pa_cons (pv 0) (pa_cons (pe_glob (v := .ref C_NoFlow) (by rfl) e_NoFlow.g rfl) pa_nil))) (pa_cons (pe_callB WX.call_isX (by rfl) m_isinstance (by decide +kernel) (pa_cons (pv 0) (pa_cons (pe_glob (v := .ref C_NoName) (by rfl) e_NoName.g rfl) pa_nil))) pa_nil)))))
      (C8.pss_cut (ps_set (i := 1) sc_law_marks.nd rfl (Or.inr rfl) (pe_op op_cat (pv 1) (pe_lst (pa_cons (pe_callB WX.call_isX (by rfl) m_isinstance (by decide +kernel) (pa_cons (pv 0) (pa_cons (pe_glob (v := .ref C_Twice) (by rfl) e_Twice.g rfl) pa_nil))) (pa_cons (pe_callB WX.call_isX (by rfl) m_isinstance (by decide +kernel) (pa_cons (pv 0) (pa_cons (pe_glob (v := .ref C_NoBook) (by rfl) e_NoBook.g rfl) pa_nil))) (pa_cons (pe_callB WX.call_isX (by rfl) m_isinstance (by decide +kernel) (pa_cons (pv 0) (pa_cons (pe_glob (v := .ref C_NoLoop) (by rfl) e_NoLoop.g rfl) pa_nil))) pa_nil))))))
      (C8.pss_cut (ps_set (i := 1) sc_law_marks.nd rfl (Or.inr rfl) (pe_op op_cat (pv 1) (pe_lst (pa_cons (pe_callB WX.call_isX (by rfl) m_isinstance (by decide +kernel) (pa_cons (pv 0) (pa_cons (pe_glob (v := .ref C_NoModule) (by rfl) e_NoModule.g rfl) pa_nil))) (pa_cons (pe_callB WX.call_isX (by rfl) m_isinstance (by decide +kernel) (pa_cons (pv 0) (pa_cons (pe_glob (v := .ref C_NoNet) (by rfl) e_NoNet.g rfl) pa_nil))) (pa_cons (pe_callB WX.call_isX (by rfl) m_isinstance (by decide +kernel) (pa_cons (pv 0) (pa_cons (pe_glob (v := .ref C_NoDeed) (by rfl) e_NoDeed.g rfl) pa_nil))) pa_nil))))))
      (C8.pss_cut (ps_set (i := 1) sc_law_marks.nd rfl (Or.inr rfl) (pe_op op_cat (pv 1) (pe_lst (pa_cons (pe_callB WX.call_isX (by rfl) m_isinstance (by decide +kernel) (pa_cons (pv 0) (pa_cons (pe_glob (v := .ref C_NoState) (by rfl) e_NoState.g rfl) pa_nil))) (pa_cons (pe_callB WX.call_isX (by rfl) m_isinstance (by decide +kernel) (pa_cons (pv 0) (pa_cons (pe_glob (v := .ref C_NoRoom) (by rfl) e_NoRoom.g rfl) pa_nil))) (pa_cons (pe_callB WX.call_isX (by rfl) m_isinstance (by decide +kernel) (pa_cons (pv 0) (pa_cons (pe_glob (v := .ref C_Dry) (by rfl) e_Dry.g rfl) pa_nil))) pa_nil))))))
      (C8.pss_cut (ps_set (i := 1) sc_law_marks.nd rfl (Or.inr rfl) (pe_op op_cat (pv 1) (pe_lst (pa_cons (pe_callB WX.call_isX (by rfl) m_isinstance (by decide +kernel) (pa_cons (pv 0) (pa_cons (pe_glob (v := .ref C_Over) (by rfl) e_Over.g rfl) pa_nil))) (pa_cons (pe_callB WX.call_isX (by rfl) m_isinstance (by decide +kernel) (pa_cons (pv 0) (pa_cons (pe_glob (v := .ref C_NoFace) (by rfl) e_NoFace.g rfl) pa_nil))) (pa_cons (pe_callB WX.call_isX (by rfl) m_isinstance (by decide +kernel) (pa_cons (pv 0) (pa_cons (pe_glob (v := .ref C_NoPlace) (by rfl) e_NoPlace.g rfl) pa_nil))) pa_nil))))))
      (C8.pss_cut (ps_set (i := 1) sc_law_marks.nd rfl (Or.inr rfl) (pe_op op_cat (pv 1) (pe_lst (pa_cons (pe_callB WX.call_isX (by rfl) m_isinstance (by decide +kernel) (pa_cons (pv 0) (pa_cons (pe_glob (v := .ref C_NoText) (by rfl) e_NoText.g rfl) pa_nil))) (pa_cons (pe_callB WX.call_isX (by rfl) m_isinstance (by decide +kernel) (pa_cons (pv 0) (pa_cons (pe_glob (v := .ref C_NoBack) (by rfl) e_NoBack.g rfl) pa_nil))) (pa_cons (pe_callB WX.call_isX (by rfl) m_isinstance (by decide +kernel) (pa_cons (pv 0) (pa_cons (pe_glob (v := .ref C_NoDrive) (by rfl) e_NoDrive.g rfl) pa_nil))) pa_nil))))))
      (C8.pss_cut (ps_set (i := 1) sc_law_marks.nd rfl (Or.inr rfl) (pe_op op_cat (pv 1) (pe_lst (pa_cons (pe_callB WX.call_isX (by rfl) m_isinstance (by decide +kernel) (pa_cons (pv 0) (pa_cons (pe_glob (v := .ref C_NoLane) (by rfl) e_NoLane.g rfl) pa_nil))) (pa_cons (pe_callB WX.call_isX (by rfl) m_isinstance (by decide +kernel) (pa_cons (pv 0) (pa_cons (pe_glob (v := .ref C_NoLine) (by rfl) e_NoLine.g rfl) pa_nil))) (pa_cons (pe_callB WX.call_isX (by rfl) m_isinstance (by decide +kernel) (pa_cons (pv 0) (pa_cons (pe_glob (v := .ref C_NoMeasure) (by rfl) e_NoMeasure.g rfl) pa_nil))) pa_nil))))))
      (C8.pss_cut (ps_set (i := 1) sc_law_marks.nd rfl (Or.inr rfl) (pe_op op_cat (pv 1) (pe_lst (pa_cons (pe_callB WX.call_isX (by rfl) m_isinstance (by decide +kernel) (pa_cons (pv 0) (pa_cons (pe_glob (v := .ref C_NoPart) (by rfl) e_NoPart.g rfl) pa_nil))) (pa_cons (pe_callB WX.call_isX (by rfl) m_isinstance (by decide +kernel) (pa_cons (pv 0) (pa_cons (pe_glob (v := .ref C_NoTitle) (by rfl) e_NoTitle.g rfl) pa_nil))) (pa_cons (pe_callB WX.call_isX (by rfl) m_isinstance (by decide +kernel) (pa_cons (pv 0) (pa_cons (pe_glob (v := .ref C_NoWait) (by rfl) e_NoWait.g rfl) pa_nil))) pa_nil))))))
      (C8.pss_cut (ps_set (i := 1) sc_law_marks.nd rfl (Or.inr rfl) (pe_op op_cat (pv 1) (pe_lst (pa_cons (pe_callB WX.call_isX (by rfl) m_isinstance (by decide +kernel) (pa_cons (pv 0) (pa_cons (pe_glob (v := .ref C_NoWay) (by rfl) e_NoWay.g rfl) pa_nil))) (pa_cons (pe_callB WX.call_isX (by rfl) m_isinstance (by decide +kernel) (pa_cons (pv 0) (pa_cons (pe_glob (v := .ref C_NoWord) (by rfl) e_NoWord.g rfl) pa_nil))) (pa_cons (pe_callB WX.call_isX (by rfl) m_isinstance (by decide +kernel) (pa_cons (pv 0) (pa_cons (pe_glob (v := .ref C_TooDeep) (by rfl) e_TooDeep.g rfl) pa_nil))) pa_nil))))))
      (C8.pss_cut (ps_set (i := 1) sc_law_marks.nd rfl (Or.inr rfl) (pe_op op_cat (pv 1) (pe_lst (pa_cons (pe_callB WX.call_isX (by rfl) m_isinstance (by decide +kernel) (pa_cons (pv 0) (pa_cons (pe_glob (v := .ref C_TooLong) (by rfl) e_TooLong.g rfl) pa_nil))) pa_nil))))
      (pss_one (ps_ret (pe_lc (own := [("_law_k", 2)]) (g := gName 2) (by rfl) sc_law_marks.nd (pi_range1 (by rfl) m_range (pa_cons (pe_callB call_len_seq (by rfl) m_len PySem.boot_len (pa_cons (pv 1) pa_nil)) pa_nil)) (blkOk_by (N := ["_law_caught_here", "_law_found", "_law_k"]) (sc := defScope s_law_marks) (by decide +kernel)) (fun _ _ _ _ _ => pg_name (i := 2) sc_law_marks.nd rfl (Or.inl rfl)) (fun _ _ _ _ _ => pts_one (pt_val (pe_ix (r := rIxL K) ix_list (pv 1) (pv 2) (fun _ _ => rfl)))) (fun _ _ _ _ _ => (pv 2))))))))))))))), ?_⟩
    have haK := ha
    have hdK := hd
    refine ⟨fun σ H' => Same H H' ∧ ∃ l, H' l = some (.lst (hitL k 3)) ∧ σ = [some (.ref a), some (.ref l), none], ?_, fun σ H1 hm => ?_⟩
    · exact ⟨_, rfl, a, C, d, _, .ref C_NoBeat, decide (k = 0), rfl, ha, hd, ex, .own C_NoBeat, kt (j := 0) rfl e_NoBeat, _, rfl, a, C, d, _, .ref C_NoFlow, decide (k = 1), rfl, ha, hd, ex, .own C_NoFlow, kt (j := 1) rfl e_NoFlow, _, rfl, a, C, d, _, .ref C_NoName, decide (k = 2), rfl, ha, hd, ex, .own C_NoName, kt (j := 2) rfl e_NoName, by show 3 ≤ sizeLine; decide, fun l nl => ⟨same_upd nl, l, at_upd nl, rfl⟩⟩
    clear ha hd
    obtain ⟨s0, l1, hl, rfl⟩ := hm
    have ha := s0 _ _ haK
    have hd := exd_mono s0 hdK
    refine ⟨fun σ H' => Same H H' ∧ ∃ l, H' l = some (.lst (hitL k 6)) ∧ σ = [some (.ref a), some (.ref l), none], ?_, fun σ H2 hm => ?_⟩
    · refine ⟨_, rfl, _, rfl, a, C, d, _, .ref C_Twice, decide (k = 3), rfl, ha, hd, ex, .own C_Twice, kt (j := 3) rfl e_Twice, _, rfl, a, C, d, _, .ref C_NoBook, decide (k = 4), rfl, ha, hd, ex, .own C_NoBook, kt (j := 4) rfl e_NoBook, _, rfl, a, C, d, _, .ref C_NoLoop, decide (k = 5), rfl, ha, hd, ex, .own C_NoLoop, kt (j := 5) rfl e_NoLoop, by show 3 ≤ sizeLine; decide, fun l nl => ?_⟩
      have t := same_upd (o := .lst [V.bl (decide (k = 3)), V.bl (decide (k = 4)), V.bl (decide (k = 5))]) nl
      refine ⟨_, _, _, _, rfl, rfl, t _ _ hl, at_upd nl, ?_, fun g ng => ⟨s0.trans (t.trans (same_upd ng)), g, at_upd ng, rfl⟩⟩
      rw [hitL_len]
      show 3 + 3 ≤ sizeLine
      decide
    clear ha hd s0 hl
    obtain ⟨s0, l2, hl, rfl⟩ := hm
    have ha := s0 _ _ haK
    have hd := exd_mono s0 hdK
    refine ⟨fun σ H' => Same H H' ∧ ∃ l, H' l = some (.lst (hitL k 9)) ∧ σ = [some (.ref a), some (.ref l), none], ?_, fun σ H3 hm => ?_⟩
    · refine ⟨_, rfl, _, rfl, a, C, d, _, .ref C_NoModule, decide (k = 6), rfl, ha, hd, ex, .own C_NoModule, kt (j := 6) rfl e_NoModule, _, rfl, a, C, d, _, .ref C_NoNet, decide (k = 7), rfl, ha, hd, ex, .own C_NoNet, kt (j := 7) rfl e_NoNet, _, rfl, a, C, d, _, .ref C_NoDeed, decide (k = 8), rfl, ha, hd, ex, .own C_NoDeed, kt (j := 8) rfl e_NoDeed, by show 3 ≤ sizeLine; decide, fun l nl => ?_⟩
      have t := same_upd (o := .lst [V.bl (decide (k = 6)), V.bl (decide (k = 7)), V.bl (decide (k = 8))]) nl
      refine ⟨_, _, _, _, rfl, rfl, t _ _ hl, at_upd nl, ?_, fun g ng => ⟨s0.trans (t.trans (same_upd ng)), g, at_upd ng, rfl⟩⟩
      rw [hitL_len]
      show 6 + 3 ≤ sizeLine
      decide
    clear ha hd s0 hl
    obtain ⟨s0, l3, hl, rfl⟩ := hm
    have ha := s0 _ _ haK
    have hd := exd_mono s0 hdK
    refine ⟨fun σ H' => Same H H' ∧ ∃ l, H' l = some (.lst (hitL k 12)) ∧ σ = [some (.ref a), some (.ref l), none], ?_, fun σ H4 hm => ?_⟩
    · refine ⟨_, rfl, _, rfl, a, C, d, _, .ref C_NoState, decide (k = 9), rfl, ha, hd, ex, .own C_NoState, kt (j := 9) rfl e_NoState, _, rfl, a, C, d, _, .ref C_NoRoom, decide (k = 10), rfl, ha, hd, ex, .own C_NoRoom, kt (j := 10) rfl e_NoRoom, _, rfl, a, C, d, _, .ref C_Dry, decide (k = 11), rfl, ha, hd, ex, .own C_Dry, kt (j := 11) rfl e_Dry, by show 3 ≤ sizeLine; decide, fun l nl => ?_⟩
      have t := same_upd (o := .lst [V.bl (decide (k = 9)), V.bl (decide (k = 10)), V.bl (decide (k = 11))]) nl
      refine ⟨_, _, _, _, rfl, rfl, t _ _ hl, at_upd nl, ?_, fun g ng => ⟨s0.trans (t.trans (same_upd ng)), g, at_upd ng, rfl⟩⟩
      rw [hitL_len]
      show 9 + 3 ≤ sizeLine
      decide
    clear ha hd s0 hl
    obtain ⟨s0, l4, hl, rfl⟩ := hm
    have ha := s0 _ _ haK
    have hd := exd_mono s0 hdK
    refine ⟨fun σ H' => Same H H' ∧ ∃ l, H' l = some (.lst (hitL k 15)) ∧ σ = [some (.ref a), some (.ref l), none], ?_, fun σ H5 hm => ?_⟩
    · refine ⟨_, rfl, _, rfl, a, C, d, _, .ref C_Over, decide (k = 12), rfl, ha, hd, ex, .own C_Over, kt (j := 12) rfl e_Over, _, rfl, a, C, d, _, .ref C_NoFace, decide (k = 13), rfl, ha, hd, ex, .own C_NoFace, kt (j := 13) rfl e_NoFace, _, rfl, a, C, d, _, .ref C_NoPlace, decide (k = 14), rfl, ha, hd, ex, .own C_NoPlace, kt (j := 14) rfl e_NoPlace, by show 3 ≤ sizeLine; decide, fun l nl => ?_⟩
      have t := same_upd (o := .lst [V.bl (decide (k = 12)), V.bl (decide (k = 13)), V.bl (decide (k = 14))]) nl
      refine ⟨_, _, _, _, rfl, rfl, t _ _ hl, at_upd nl, ?_, fun g ng => ⟨s0.trans (t.trans (same_upd ng)), g, at_upd ng, rfl⟩⟩
      rw [hitL_len]
      show 12 + 3 ≤ sizeLine
      decide
    clear ha hd s0 hl
    obtain ⟨s0, l5, hl, rfl⟩ := hm
    have ha := s0 _ _ haK
    have hd := exd_mono s0 hdK
    refine ⟨fun σ H' => Same H H' ∧ ∃ l, H' l = some (.lst (hitL k 18)) ∧ σ = [some (.ref a), some (.ref l), none], ?_, fun σ H6 hm => ?_⟩
    · refine ⟨_, rfl, _, rfl, a, C, d, _, .ref C_NoText, decide (k = 15), rfl, ha, hd, ex, .own C_NoText, kt (j := 15) rfl e_NoText, _, rfl, a, C, d, _, .ref C_NoBack, decide (k = 16), rfl, ha, hd, ex, .own C_NoBack, kt (j := 16) rfl e_NoBack, _, rfl, a, C, d, _, .ref C_NoDrive, decide (k = 17), rfl, ha, hd, ex, .own C_NoDrive, kt (j := 17) rfl e_NoDrive, by show 3 ≤ sizeLine; decide, fun l nl => ?_⟩
      have t := same_upd (o := .lst [V.bl (decide (k = 15)), V.bl (decide (k = 16)), V.bl (decide (k = 17))]) nl
      refine ⟨_, _, _, _, rfl, rfl, t _ _ hl, at_upd nl, ?_, fun g ng => ⟨s0.trans (t.trans (same_upd ng)), g, at_upd ng, rfl⟩⟩
      rw [hitL_len]
      show 15 + 3 ≤ sizeLine
      decide
    clear ha hd s0 hl
    obtain ⟨s0, l6, hl, rfl⟩ := hm
    have ha := s0 _ _ haK
    have hd := exd_mono s0 hdK
    refine ⟨fun σ H' => Same H H' ∧ ∃ l, H' l = some (.lst (hitL k 21)) ∧ σ = [some (.ref a), some (.ref l), none], ?_, fun σ H7 hm => ?_⟩
    · refine ⟨_, rfl, _, rfl, a, C, d, _, .ref C_NoLane, decide (k = 18), rfl, ha, hd, ex, .own C_NoLane, kt (j := 18) rfl e_NoLane, _, rfl, a, C, d, _, .ref C_NoLine, decide (k = 19), rfl, ha, hd, ex, .own C_NoLine, kt (j := 19) rfl e_NoLine, _, rfl, a, C, d, _, .ref C_NoMeasure, decide (k = 20), rfl, ha, hd, ex, .own C_NoMeasure, kt (j := 20) rfl e_NoMeasure, by show 3 ≤ sizeLine; decide, fun l nl => ?_⟩
      have t := same_upd (o := .lst [V.bl (decide (k = 18)), V.bl (decide (k = 19)), V.bl (decide (k = 20))]) nl
      refine ⟨_, _, _, _, rfl, rfl, t _ _ hl, at_upd nl, ?_, fun g ng => ⟨s0.trans (t.trans (same_upd ng)), g, at_upd ng, rfl⟩⟩
      rw [hitL_len]
      show 18 + 3 ≤ sizeLine
      decide
    clear ha hd s0 hl
    obtain ⟨s0, l7, hl, rfl⟩ := hm
    have ha := s0 _ _ haK
    have hd := exd_mono s0 hdK
    refine ⟨fun σ H' => Same H H' ∧ ∃ l, H' l = some (.lst (hitL k 24)) ∧ σ = [some (.ref a), some (.ref l), none], ?_, fun σ H8 hm => ?_⟩
    · refine ⟨_, rfl, _, rfl, a, C, d, _, .ref C_NoPart, decide (k = 21), rfl, ha, hd, ex, .own C_NoPart, kt (j := 21) rfl e_NoPart, _, rfl, a, C, d, _, .ref C_NoTitle, decide (k = 22), rfl, ha, hd, ex, .own C_NoTitle, kt (j := 22) rfl e_NoTitle, _, rfl, a, C, d, _, .ref C_NoWait, decide (k = 23), rfl, ha, hd, ex, .own C_NoWait, kt (j := 23) rfl e_NoWait, by show 3 ≤ sizeLine; decide, fun l nl => ?_⟩
      have t := same_upd (o := .lst [V.bl (decide (k = 21)), V.bl (decide (k = 22)), V.bl (decide (k = 23))]) nl
      refine ⟨_, _, _, _, rfl, rfl, t _ _ hl, at_upd nl, ?_, fun g ng => ⟨s0.trans (t.trans (same_upd ng)), g, at_upd ng, rfl⟩⟩
      rw [hitL_len]
      show 21 + 3 ≤ sizeLine
      decide
    clear ha hd s0 hl
    obtain ⟨s0, l8, hl, rfl⟩ := hm
    have ha := s0 _ _ haK
    have hd := exd_mono s0 hdK
    refine ⟨fun σ H' => Same H H' ∧ ∃ l, H' l = some (.lst (hitL k 27)) ∧ σ = [some (.ref a), some (.ref l), none], ?_, fun σ H9 hm => ?_⟩
    · refine ⟨_, rfl, _, rfl, a, C, d, _, .ref C_NoWay, decide (k = 24), rfl, ha, hd, ex, .own C_NoWay, kt (j := 24) rfl e_NoWay, _, rfl, a, C, d, _, .ref C_NoWord, decide (k = 25), rfl, ha, hd, ex, .own C_NoWord, kt (j := 25) rfl e_NoWord, _, rfl, a, C, d, _, .ref C_TooDeep, decide (k = 26), rfl, ha, hd, ex, .own C_TooDeep, kt (j := 26) rfl e_TooDeep, by show 3 ≤ sizeLine; decide, fun l nl => ?_⟩
      have t := same_upd (o := .lst [V.bl (decide (k = 24)), V.bl (decide (k = 25)), V.bl (decide (k = 26))]) nl
      refine ⟨_, _, _, _, rfl, rfl, t _ _ hl, at_upd nl, ?_, fun g ng => ⟨s0.trans (t.trans (same_upd ng)), g, at_upd ng, rfl⟩⟩
      rw [hitL_len]
      show 24 + 3 ≤ sizeLine
      decide
    clear ha hd s0 hl
    obtain ⟨s0, l9, hl, rfl⟩ := hm
    have ha := s0 _ _ haK
    have hd := exd_mono s0 hdK
    refine ⟨fun σ H' => Same H H' ∧ ∃ l, H' l = some (.lst (hitL k 28)) ∧ σ = [some (.ref a), some (.ref l), none], ?_, fun σ H10 hm => ?_⟩
    · refine ⟨_, rfl, _, rfl, a, C, d, _, .ref C_TooLong, decide (k = 27), rfl, ha, hd, ex, .own C_TooLong, kt (j := 27) rfl e_TooLong, by show 1 ≤ sizeLine; decide, fun l nl => ?_⟩
      have t := same_upd (o := .lst [V.bl (decide (k = 27))]) nl
      refine ⟨_, _, _, _, rfl, rfl, t _ _ hl, at_upd nl, ?_, fun g ng => ⟨s0.trans (t.trans (same_upd ng)), g, at_upd ng, rfl⟩⟩
      rw [hitL_len]
      show 27 + 1 ≤ sizeLine
      decide
    clear ha hd s0 hl
    obtain ⟨s0, l10, hl, rfl⟩ := hm
    have ha := s0 _ _ haK
    have hd := exd_mono s0 hdK
    refine ⟨_, rfl, l10, _, rfl, .inl (SqL.of hl), ?_⟩
    rw [hitL_len]
    refine ⟨28, rfl, by decide, by decide, fun D nD => ?_⟩
    have nlD : l10 ≠ D := ne_of_none hl nD
    refine lc_range (lo := 0) (n := 28) (fun i H' => H' = upd H10 D (.lst (((List.range i).filter fun j => decide (k = j)).map nV))) rfl (fun i H' hi hP => ?_) (fun H' hP => ?_)
    · subst hP
      refine ⟨rfl, ?_⟩
      rw [Int.zero_add]
      have hlD : (upd H10 D (.lst (((List.range i).filter fun j => decide (k = j)).map nV))) l10 = some (.lst (hitL k 28)) := by
        rw [upd_ne nlD]
        exact hl
      refine ⟨_, rfl, _, rfl, l10, _, (i : Int), _, rfl, rfl, SqL.of hlD, atI_nat (hitL_at hi), decide (k = i), rfl, ?_⟩
      rw [List.range_succ, List.filter_append]
      by_cases h : k = i
      · rw [decide_eq_true h]
        refine iteT ⟨_, rfl, _, upd_same, ?_, ?_⟩
        · rw [List.length_map]
          have := List.length_filter_le (fun j => decide (k = j)) (List.range i)
          rw [List.length_range] at this
          omega
        · rw [upd_upd, show ([i].filter fun j => decide (k = j)) = [i] by simp [h], List.map_append]
          rfl
      · rw [decide_eq_false h, show ([i].filter fun j => decide (k = j)) = [] by simp [h], List.append_nil]
        exact iteF rfl
    · subst hP
      rw [one_left hk]
      exact q _ D (s0.trans (same_upd nD)) (at_upd nD)
end
end WK
namespace WK
open PySem PySem.Spec PyProof.Rows L2
abbrev s_law_caught : Stmt := topS 41
theorem sc_law_caught : FnScope ["_law_which", "_law_way", "_law_one", "_law_two", "_law_caught_here", "e"] ["_law_which", "_law_way", "_law_one", "_law_two"] (defScope s_law_caught) := ⟨rfl, rfl, rfl, by decide +kernel, rfl, by decide +kernel, by decide +kernel⟩
abbrev s_law_borne : Stmt := topS 42
theorem sc_law_borne : FnScope ["_law_which", "_law_caught_here"] ["_law_which", "_law_caught_here"] (defScope s_law_borne) := ⟨rfl, rfl, rfl, by decide +kernel, rfl, by decide +kernel, by decide +kernel⟩
/-- what the k-th refusal bears -/
def Bears (H : Hp) (N : Addr → Prop) (dd : Option Addr) (k : Nat) (d1 d2 : PyData) : Prop :=
  (k < 15 → ∃ (D : Addr) (f : Str) (u : V), dd = some D ∧ N D ∧ fldN[k]? = some f ∧ H D = some (.xd [(f, u)]) ∧ DpN H N u d1) ∧
  (k = 15 → ∃ (D : Addr) (u1 u2 : V), dd = some D ∧ N D ∧ H D = some (.xd [("at", u2), ("row", u1)]) ∧ DpN H N u1 d1 ∧ DpN H N u2 d2)
def due (k : Nat) (d1 d2 : PyData) : List PyData := if k < 15 then [d1] else if k = 15 then [d1, d2] else []
theorem Bears.mono {H H' : Hp} {N N' : Addr → Prop} {dd : Option Addr} {k : Nat} {d1 d2 : PyData} (s : Keeps N H H') (i : ∀ b o, N b → H b = some o → N' b) (h : Bears H N dd k d1 d2) : Bears H' N' dd k d1 d2 := by
  refine ⟨fun hk => ?_, fun hk => ?_⟩
  · obtain ⟨D, f, u, h1, h2, h3, h4, h5⟩ := h.1 hk
    exact ⟨D, f, u, h1, i _ _ h2 h4, h3, s _ _ h2 h4, h5.mono s i⟩
  · obtain ⟨D, u1, u2, h1, h2, h3, h4, h5⟩ := h.2 hk
    exact ⟨D, u1, u2, h1, i _ _ h2 h3, s _ _ h2 h3, h4.mono s i, h5.mono s i⟩
section
variable {P : Program} {w : World} {K : PySem.W.Frag} {mg : Str → Option Value} {base : Heap}
def sp_law_caught (K : PySem.W.Frag) : Sp := fun vs H Q _ => ∃ (k way : Nat) (v1 v2 : V) (d1 d2 : PyData) (N : Addr → Prop), vs = [nV k, nV way, v1, v2] ∧ k < 28 ∧ way < 4 ∧ DpN H N v1 d1 ∧ d1.depth ≤ 5 ∧ DpN H N v2 d2 ∧ d2.depth ≤ 5 ∧
  ∀ H' ea C dd x, clsN[k]? = some x → PySem.W.nsIn K mainGlobals x = some (some (.ref C)) → Same H H' → H ea = none → H' ea = some (WX.ExT ea (.ref C) dd) → WX.ExD H' dd → Bears H' (fun b => H b = none) dd k d1 d2 → Q (.ref ea) H'
theorem ok_law_caught {f : Addr} {fd : FuncData} (F : Fun K "_law_caught" "_law_caught" s_law_caught f fd) {f_law_first : Addr} {fd_law_first : FuncData} (c_law_first : Cal P w K mg base (L2.CX P w) 9 f_law_first fd_law_first "_law_first" ["_law_which", "_law_one", "_law_two"] (sp_law_first K)) {f_law_third : Addr} {fd_law_third : FuncData} (c_law_third : Cal P w K mg base (L2.CX P w) 1 f_law_third fd_law_third "_law_third" ["_law_which"] (sp_law_third K)) {f_law_second : Addr} {fd_law_second : FuncData} (c_law_second : Cal P w K mg base (L2.CX P w) 9 f_law_second fd_law_second "_law_second" ["_law_which", "_law_one", "_law_two"] (sp_law_second K)) {f_law_fourth : Addr} {fd_law_fourth : FuncData} (c_law_fourth : Cal P w K mg base (L2.CX P w) 1 f_law_fourth fd_law_fourth "_law_fourth" ["_law_which", "_law_line"] (sp_law_fourth K)) {C_LoomError : Addr} (e_LoomError : ECal K mg "LoomError" C_LoomError) (f_exk : ExAll K) : FnOk P w K mg base CX0 10 f fd ["_law_which", "_law_way", "_law_one", "_law_two"] (sp_law_caught K) := by
  refine F.ok sc_law_caught (fun vs H Q E h => ?_) (fun cdv A outer s H vs Q E hr h => ?_)
  · obtain ⟨_, _, _, _, _, _, _, rfl, _⟩ := h
    rfl
  · obtain ⟨k, way, v1, v2, d1, d2, N, rfl, hk, hw, h1, hn1, h2, hn2, q⟩ := h
    have hz := szl
    have fin : ∀ {x : Str} {C : Addr} {dd : Option Addr} {H' : Hp}, clsN[k]? = some x → PySem.W.nsIn K mainGlobals x = some (some (.ref C)) → Same H H' → WX.ExD H' dd → Bears H' (fun b => H b = none) dd k d1 d2 → ∀ ea, H' ea = none → Q (.ref ea) (upd H' ea (WX.ExT ea (.ref C) dd)) := by
      intro x C dd H' hx hC s hd hb ea nea
      have t := same_upd (o := WX.ExT ea (.ref C) dd) nea
      refine q _ ea C dd x hx hC (s.trans t) (none_of s nea) (at_upd nea) ?_ (hb.mono (fun b o _ e => t _ _ e) fun b o h _ => h)
      rcases hd with h | ⟨D, fs, h3, h4⟩
      · exact .inl h
      · exact .inr ⟨D, fs, h3, t _ _ h4⟩
    have lo : ∀ {x : Str} {C : Addr}, clsN[k]? = some x → PySem.W.nsIn K mainGlobals x = some (some (.ref C)) → PySem.W.exmOne K (.ref C) (.ref C_LoomError) = some true := fun hx hC => e_LoomError.exm ((f_exk k _ _ hx hC).lo _ e_LoomError.a)
    have b1 : ∀ {D : Addr} {f : Str} {u : V} {H' : Hp}, k < 15 → fldN[k]? = some f → H D = none → H' D = some (.xd [(f, u)]) → DpN H' (fun b => H b = none ∧ b ≠ D) u d1 → Bears H' (fun b => H b = none) (some D) k d1 d2 := fun hk2 hf nD hD hu =>
      ⟨fun _ => ⟨_, _, _, rfl, nD, hf, hD, hu.mono (fun _ _ _ e => e) fun b o h _ => h.1⟩, fun z => absurd z (by omega)⟩
    have b2 : ∀ {D : Addr} {u1 u2 : V} {H' : Hp}, k = 15 → H D = none → H' D = some (.xd [("at", u2), ("row", u1)]) → DpN H' (fun b => H b = none ∧ b ≠ D) u1 d1 → DpN H' (fun b => H b = none ∧ b ≠ D) u2 d2 → Bears H' (fun b => H b = none) (some D) k d1 d2 := fun hk2 nD hD hu hu2 =>
      ⟨fun z => absurd hk2 (by omega), fun _ => ⟨_, _, _, rfl, nD, hD, hu.mono (fun _ _ _ e => e) fun b o h _ => h.1, hu2.mono (fun _ _ _ e => e) fun b o h _ => h.1⟩⟩
    have b3 : ∀ {H' : Hp}, 16 ≤ k → Bears H' (fun b => H b = none) none k d1 d2 := fun h => ⟨fun z => absurd z (by omega), fun z => absurd z (by omega)⟩
    refine ⟨_, (pss_cons (ps_set (i := 4) sc_law_caught.nd rfl (Or.inl rfl) pe_non)
      (pss_cons (WX.ps_try_keep (i := 5) (j := 4) rfl rfl rfl sc_law_caught.nd rfl rfl rfl (Or.inl rfl) (Or.inl rfl) ⟨rfl, by decide, Or.inl e_LoomError.g⟩ rfl (Or.inl rfl) (by decide) (by decide) (fun W pn xe tk _ => 
        (pss_one (ps_if (pt_cmpR op_eq (pv 1) pe_int (nomark _))
          (pss_cons (ps_expr (pe_callS c_law_first.G (hr.mono (by decide)) (by rfl) c_law_first.g c_law_first.kp c_law_first.b (fun σ => passAt tk σ) (pa_cons (pv 0) (pa_cons (pv 2) (pa_cons (pv 3) pa_nil)))))
          (pss_one (ps_expr (pe_callS c_law_third.G (hr.mono (by decide)) (by rfl) c_law_third.g c_law_third.kp c_law_third.b (fun σ => passAt tk σ) (pa_cons (pv 0) pa_nil)))))
          (pss_cons (ps_expr (pe_callS c_law_second.G (hr.mono (by decide)) (by rfl) c_law_second.g c_law_second.kp c_law_second.b (fun σ => passAt tk σ) (pa_cons (pv 0) (pa_cons (pv 2) (pa_cons (pv 3) pa_nil)))))
          (pss_one (ps_expr (pe_callS c_law_fourth.G (hr.mono (by decide)) (by rfl) c_law_fourth.g c_law_fourth.kp c_law_fourth.b (fun σ => passAt tk σ) (pa_cons (pv 0) (pa_cons (pe_ix (r := rIxL K) ix_list (pe_lst (pa_cons pe_str (pa_cons pe_str (pa_cons pe_str pa_nil)))) (pe_op op_sub (pv 1) pe_int) (fun _ _ => rfl)) pa_nil))))))))))
      (pss_one (ps_ret (pv 4))))), ?_⟩
    refine ⟨_, rfl, rfl, _, rfl, ite2 (fun e => ?_) (fun e => ?_)⟩
    · refine ⟨_, rfl, _, rfl, _, rfl, k, v1, v2, d1, d2, N, rfl, h1, hn1, h2, hn2, fun h16 => ?_, fun h15 x f2 C D H' u hx hf hC s nD hD hu => ?_, fun h15 C D H' u1 u2 hC s nD hD hu hu2 => ?_⟩
      · refine ⟨_, rfl, k, rfl, hk, fun z => absurd z (by omega), fun _ x C hx hC => ?_⟩
        exact ⟨lo hx hC, fun ea nea => ⟨_, rfl, fin hx hC (Same.refl _) (.inl rfl) (b3 h16) ea nea⟩⟩
      · exact ⟨lo hx hC, fun ea nea => ⟨_, rfl, fin hx hC s (.inr ⟨D, _, rfl, hD⟩) (b1 h15 hf nD hD hu) ea nea⟩⟩
      · have hx : clsN[k]? = some "NoText" := by rw [h15]; rfl
        exact ⟨lo hx hC, fun ea nea => ⟨_, rfl, fin hx hC s (.inr ⟨D, _, rfl, hD⟩) (b2 h15 nD hD hu hu2) ea nea⟩⟩
    · have w0 : way ≠ 0 := fun z => by
        subst z
        exact e (decide_eq_true rfl)
      refine ⟨_, rfl, _, rfl, _, rfl, k, v1, v2, d1, d2, N, rfl, h1, hn1, h2, hn2, fun h16 => ?_, fun h15 x f2 C D H' u hx hf hC s nD hD hu => ?_, fun h15 C D H' u1 u2 hC s nD hD hu hu2 => ?_⟩
      · refine ⟨_, rfl, by show 3 ≤ sizeLine; decide, fun l nl => ?_⟩
        have sl := same_upd (o := .lst [V.str "", V.str "aa", V.str "no such thing"]) nl
        obtain ⟨z, hz2⟩ : ∃ z : Str, ([V.str "", V.str "aa", V.str "no such thing"] : List V)[way - 1]? = some (.str z) := by
          rcases (show way = 1 ∨ way = 2 ∨ way = 3 by omega) with rfl | rfl | rfl
          · exact ⟨_, rfl⟩
          · exact ⟨_, rfl⟩
          · exact ⟨_, rfl⟩
        refine ⟨_, rfl, _, _, rfl, rfl, l, _, ((way - 1 : Nat) : Int), _, rfl, ?_, SqL.of (at_upd nl), atI_nat hz2, ?_⟩
        · show V.int ((way : Int) - 1) = _
          rw [show ((way : Int) - 1) = ((way - 1 : Nat) : Int) by omega]
        refine ⟨k, .str z, rfl, hk, fun z => absurd z (by omega), fun _ x C hx hC => ?_⟩
        exact ⟨lo hx hC, fun ea nea => ⟨_, rfl, fin hx hC sl (.inl rfl) (b3 h16) ea nea⟩⟩
      · exact ⟨lo hx hC, fun ea nea => ⟨_, rfl, fin hx hC s (.inr ⟨D, _, rfl, hD⟩) (b1 h15 hf nD hD hu) ea nea⟩⟩
      · have hx : clsN[k]? = some "NoText" := by rw [h15]; rfl
        exact ⟨lo hx hC, fun ea nea => ⟨_, rfl, fin hx hC s (.inr ⟨D, _, rfl, hD⟩) (b2 h15 nD hD hu hu2) ea nea⟩⟩
def sp_law_borne (K : PySem.W.Frag) : Sp := fun vs H Q _ => ∃ (k : Nat) (ea C : Addr) (dd : Option Addr) (x : Str) (d1 d2 : PyData) (N : Addr → Prop), vs = [nV k, .ref ea] ∧ k < 28 ∧ clsN[k]? = some x ∧ PySem.W.nsIn K mainGlobals x = some (some (.ref C)) ∧ H ea = some (WX.ExT ea (.ref C) dd) ∧ Bears H N dd k d1 d2 ∧
  ∀ H' p ws, Same H H' → H' p = some (.lst ws) → DpNs H' (fun b => N b) ws (due k d1 d2) → ws.length ≤ 2 → Q (.ref p) H'
theorem ok_law_borne {f : Addr} {fd : FuncData} (F : Fun K "_law_borne" "_law_borne" s_law_borne f fd) (f_exk : ExAll K) : FnOk P w K mg base CX0 1 f fd ["_law_which", "_law_caught_here"] (sp_law_borne K) := by
  refine F.ok sc_law_borne (fun vs H Q E h => ?_) (fun cdv A outer s H vs Q E hr h => ?_)
  · obtain ⟨_, _, _, _, _, _, _, _, rfl, _⟩ := h
    rfl
  · obtain ⟨k, ea, C, dd, x, d1, d2, N, rfl, hk, hx, hC, he, hb, q⟩ := h
    have hz := szl
    have ok := f_exk k x C hx hC
    -- one value
    have one : ∀ {f : Str}, fldN[k]? = some f → ∃ (D : Addr) (u : V), dd = some D ∧ H D = some (.xd [(f, u)]) ∧ DpN H N u d1 ∧ PySem.W.findIn K (.ref C) f = some none ∧ due k d1 d2 = [d1] := by
      intro f hf
      have h15 : k < 15 := (List.getElem?_eq_some_iff.mp hf).1
      obtain ⟨D, f2, u, g1, _, g3, g4, g5⟩ := hb.1 h15
      rw [hf] at g3
      cases g3
      exact ⟨D, u, g1, g4, g5, ok.no f hf, if_pos h15⟩
    have fin1 : ∀ {u : V} {p : Addr}, H p = none → DpN H N u d1 → due k d1 d2 = [d1] → Q (.ref p) (upd H p (.lst [u])) := fun np hu hd => q _ _ _ (same_upd np) (at_upd np) (by
      rw [hd]
      exact .cons (hu.mono (fun b o _ e => same_upd np _ _ e) fun b o h _ => h) .nil) (by show 1 ≤ 2; decide)
    refine ⟨_, (pss_cons (ps_if (pt_cmpR op_lt (pv 0) pe_int (nomark _))
        (pss_one (ps_ret (pe_lst (pa_cons (WX.pe_xa (pv 1)) pa_nil))))
        pss_nil)
      (pss_cons (ps_if (pt_cmpR op_lt (pv 0) pe_int (nomark _))
        (pss_one (ps_ret (pe_lst (pa_cons (WX.pe_xa (pv 1)) pa_nil))))
        pss_nil)
      (pss_cons (ps_if (pt_cmpR op_lt (pv 0) pe_int (nomark _))
        (pss_one (ps_ret (pe_lst (pa_cons (WX.pe_xa (pv 1)) pa_nil))))
        pss_nil)
      (pss_cons (ps_if (pt_cmpR op_lt (pv 0) pe_int (nomark _))
        (pss_one (ps_ret (pe_lst (pa_cons (WX.pe_xa (pv 1)) pa_nil))))
        pss_nil)
      (pss_cons (ps_if (pt_cmpR op_eq (pv 0) pe_int (nomark _))
        (pss_one (ps_ret (pe_lst (pa_cons (WX.pe_xa (pv 1)) pa_nil))))
        pss_nil)
      (pss_cons (ps_if (pt_cmpR op_eq (pv 0) pe_int (nomark _))
        (pss_one (ps_ret (pe_lst (pa_cons (WX.pe_xa (pv 1)) pa_nil))))
        pss_nil)
      (pss_cons (ps_if (pt_cmpR op_eq (pv 0) pe_int (nomark _))
        (pss_one (ps_ret (pe_lst (pa_cons (WX.pe_xa (pv 1)) (pa_cons (WX.pe_xa (pv 1)) pa_nil)))))
        pss_nil)
      (pss_one (ps_ret (pe_lst pa_nil)))))))))), ?_⟩
    refine ⟨_, rfl, _, _, rfl, rfl, _, rfl, ite2 (fun e => ?_) (fun e => ?_)⟩
    · have hk4 : k < 4 := by
        have : ((k : Int) < 4) := of_decide_eq_true e
        omega
      obtain ⟨D, u, rfl, hD, hu, hno, hd⟩ := one (f := "name") (by rcases (show k = 0 ∨ k = 1 ∨ k = 2 ∨ k = 3 by omega) with rfl | rfl | rfl | rfl <;> rfl)
      exact ⟨_, rfl, ea, C, D, _, u, rfl, he, hD, rfl, ok.ex, hno, by show 1 ≤ sizeLine; decide, fun p np => fin1 np hu hd⟩
    have k4 : 4 ≤ k := by
      have : ¬ ((k : Int) < 4) := of_decide_eq_false (Bool.eq_false_iff.mpr e)
      omega
    clear e
    refine ⟨_, rfl, _, _, rfl, rfl, _, rfl, ite2 (fun e => ?_) (fun e => ?_)⟩
    · have hk4 : k < 8 := by
        have : ((k : Int) < 8) := of_decide_eq_true e
        omega
      obtain ⟨D, u, rfl, hD, hu, hno, hd⟩ := one (f := "wrong") (by rcases (show k = 4 ∨ k = 5 ∨ k = 6 ∨ k = 7 by omega) with rfl | rfl | rfl | rfl <;> rfl)
      exact ⟨_, rfl, ea, C, D, _, u, rfl, he, hD, rfl, ok.ex, hno, by show 1 ≤ sizeLine; decide, fun p np => fin1 np hu hd⟩
    have k8 : 8 ≤ k := by
      have : ¬ ((k : Int) < 8) := of_decide_eq_false (Bool.eq_false_iff.mpr e)
      omega
    clear e
    refine ⟨_, rfl, _, _, rfl, rfl, _, rfl, ite2 (fun e => ?_) (fun e => ?_)⟩
    · have hk4 : k < 10 := by
        have : ((k : Int) < 10) := of_decide_eq_true e
        omega
      obtain ⟨D, u, rfl, hD, hu, hno, hd⟩ := one (f := "at") (by rcases (show k = 8 ∨ k = 9 by omega) with rfl | rfl <;> rfl)
      exact ⟨_, rfl, ea, C, D, _, u, rfl, he, hD, rfl, ok.ex, hno, by show 1 ≤ sizeLine; decide, fun p np => fin1 np hu hd⟩
    have k10 : 10 ≤ k := by
      have : ¬ ((k : Int) < 10) := of_decide_eq_false (Bool.eq_false_iff.mpr e)
      omega
    clear e
    refine ⟨_, rfl, _, _, rfl, rfl, _, rfl, ite2 (fun e => ?_) (fun e => ?_)⟩
    · have hk4 : k < 13 := by
        have : ((k : Int) < 13) := of_decide_eq_true e
        omega
      obtain ⟨D, u, rfl, hD, hu, hno, hd⟩ := one (f := "lane") (by rcases (show k = 10 ∨ k = 11 ∨ k = 12 by omega) with rfl | rfl | rfl <;> rfl)
      exact ⟨_, rfl, ea, C, D, _, u, rfl, he, hD, rfl, ok.ex, hno, by show 1 ≤ sizeLine; decide, fun p np => fin1 np hu hd⟩
    have k13 : 13 ≤ k := by
      have : ¬ ((k : Int) < 13) := of_decide_eq_false (Bool.eq_false_iff.mpr e)
      omega
    clear e
    refine ⟨_, rfl, rfl, _, rfl, ite2 (fun e => ?_) (fun e => ?_)⟩
    · have hk4 : k = 13 := by
        have := V.int.inj (of_decide_eq_true e)
        omega
      obtain ⟨D, u, rfl, hD, hu, hno, hd⟩ := one (f := "paper") (by rw [hk4]; rfl)
      exact ⟨_, rfl, ea, C, D, _, u, rfl, he, hD, rfl, ok.ex, hno, by show 1 ≤ sizeLine; decide, fun p np => fin1 np hu hd⟩
    have n13 : k ≠ 13 := fun z => e (by subst z; exact eqI)
    clear e
    refine ⟨_, rfl, rfl, _, rfl, ite2 (fun e => ?_) (fun e => ?_)⟩
    · have hk4 : k = 14 := by
        have := V.int.inj (of_decide_eq_true e)
        omega
      obtain ⟨D, u, rfl, hD, hu, hno, hd⟩ := one (f := "place") (by rw [hk4]; rfl)
      exact ⟨_, rfl, ea, C, D, _, u, rfl, he, hD, rfl, ok.ex, hno, by show 1 ≤ sizeLine; decide, fun p np => fin1 np hu hd⟩
    have n14 : k ≠ 14 := fun z => e (by subst z; exact eqI)
    clear e
    refine ⟨_, rfl, rfl, _, rfl, ite2 (fun e => ?_) (fun e => ?_)⟩
    · have hk4 : k = 15 := by
        have := V.int.inj (of_decide_eq_true e)
        omega
      obtain ⟨D, u1, u2, rfl, _, hD, hu1, hu2⟩ := hb.2 hk4
      obtain ⟨no1, no2⟩ := ok.no2 hk4
      have hdue : due k d1 d2 = [d1, d2] := by
        unfold due
        rw [if_neg (by omega), if_pos hk4]
      refine ⟨_, rfl, ea, C, D, _, u1, rfl, he, hD, rfl, ok.ex, no1, _, rfl, ea, C, D, _, u2, rfl, he, hD, rfl, ok.ex, no2, by show 2 ≤ sizeLine; decide, fun p np => q _ _ _ (same_upd np) (at_upd np) ?_ (by show 2 ≤ 2; decide)⟩
      rw [hdue]
      exact .cons (hu1.mono (fun b o _ e => same_upd np _ _ e) fun b o h _ => h) (.cons (hu2.mono (fun b o _ e => same_upd np _ _ e) fun b o h _ => h) .nil)
    have n15 : k ≠ 15 := fun z => e (by subst z; exact eqI)
    refine ⟨by show 0 ≤ sizeLine; decide, fun p np => q _ _ _ (same_upd np) (at_upd np) ?_ (by show 0 ≤ 2; decide)⟩
    have hdue : due k d1 d2 = [] := by
      unfold due
      rw [if_neg (by omega), if_neg n15]
    rw [hdue]
    exact .nil
end
end WK
namespace WK
open PySem PySem.Spec PyProof.Rows L2
abbrev s_law : Stmt := topS 43
theorem sc_law : FnScope ["_law_script", "_law_purse_here", "_law_held", "_law_way", "_law_which", "_law_one", "_law_two", "_law_caught_here", "_law_due"] ["_law_script"] (defScope s_law) := ⟨rfl, rfl, rfl, by decide +kernel, rfl, by decide +kernel, by decide +kernel⟩
/-- where the kept things lie -/
def Far (p c L : Addr) (b : Addr) : Prop := b ≠ p ∧ b ≠ c ∧ b ≠ L
/-- a refusal that was kept, with what it is to bear -/
def Item (K : PySem.W.Frag) (H : Hp) (N : Addr → Prop) (z : V) : Prop := ∃ (g ea pd C : Addr) (dd : Option Addr) (k : Nat) (x : Str) (d1 d2 : PyData) (ws : List V), z = .ref g ∧ N g ∧ H g = some (.lst [nV k, .ref ea, .ref pd]) ∧ k < 28 ∧ clsN[k]? = some x ∧ PySem.W.nsIn K mainGlobals x = some (some (.ref C)) ∧
  N ea ∧ H ea = some (WX.ExT ea (.ref C) dd) ∧ Bears H N dd k d1 d2 ∧ N pd ∧ H pd = some (.lst ws) ∧ DpNs H N ws (due k d1 d2) ∧ fines (due k d1 d2) = true ∧ costs (due k d1 d2) ≤ 500 ∧ PyData.depthAll (due k d1 d2) ≤ 3
theorem Item.mono {K : PySem.W.Frag} {H H' : Hp} {N : Addr → Prop} {z : V} (s : Keeps N H H') (h : Item K H N z) : Item K H' N z := by
  obtain ⟨g, ea, pd, C, dd, k, x, d1, d2, ws, h1, h2, h3, h4, h5, h6, h7, h8, h9, h10, h11, h12, h13, h14, h15⟩ := h
  exact ⟨g, ea, pd, C, dd, k, x, d1, d2, ws, h1, h2, s _ _ h2 h3, h4, h5, h6, h7, s _ _ h7 h8, h9.mono s (fun _ _ n _ => n), h10, s _ _ h10 h11, h12.mono s (fun _ _ n _ => n), h13, h14, h15⟩
def Good (K : PySem.W.Frag) (p c L : Addr) (m : Nat) (H : Hp) : Prop := ∃ cells went held, PurseAt H p c cells went ∧ went ≤ 8 * m ∧ H L = some (.lst held) ∧ held.length = m ∧ ∀ z ∈ held, Item K H (Far p c L) z
theorem kit_ve {K : PySem.W.Frag} {C : Addr} (h : PySem.W.subIn K (.ref C) (.type "ValueError") = some true) : PySem.W.kitOne K (.ref C) (.type "ValueError") = some true := by
  unfold PySem.W.kitOne
  rw [if_neg (by simp)]
  show (if PySem.W.kitMeta "ValueError" = true then PySem.W.subIn K (.ref C) (.type "ValueError") else none) = some true
  rw [if_pos (by decide +kernel)]
  exact h
theorem due_ok {k : Nat} {d1 d2 : PyData} (f1 : fine d1 = true) (f2 : fine d2 = true) (c1 : cost d1 ≤ 200) (c2 : cost d2 ≤ 200) (e1 : d1.depth ≤ 3) (e2 : d2.depth ≤ 3) : fines (due k d1 d2) = true ∧ costs (due k d1 d2) ≤ 500 ∧ PyData.depthAll (due k d1 d2) ≤ 3 := by
  unfold due
  by_cases h1 : k < 15
  · rw [if_pos h1]
    simp only [fines, costs, PyData.depthAll, f1, Bool.and_true, Bool.true_and]
    exact ⟨trivial, by omega, by omega⟩
  · rw [if_neg h1]
    by_cases h2 : k = 15
    · rw [if_pos h2]
      simp only [fines, costs, PyData.depthAll, f1, f2, Bool.and_true, Bool.true_and]
      exact ⟨trivial, by omega, by omega⟩
    · rw [if_neg h2]
      simp only [fines, costs, PyData.depthAll]
      exact ⟨trivial, by omega, by omega⟩
theorem cut_due {k : Nat} {v1 v2 : V} {d1 d2 : PyData} {H : Hp} {N : Addr → Prop} (h1 : DpN H N v1 d1) (h2 : DpN H N v2 d2) :
    DpNs H N (cutV [v1, v2] none (some ((if decide ((k : Int) < 16) = true then 1 else 0) + (if decide (V.int (k : Int) = V.int 15) = true then 1 else 0)))) (due k d1 d2) := by
  unfold due
  by_cases c1 : k < 15
  · rw [decide_eq_true (show (k : Int) < 16 by omega), decide_eq_false (fun z => by have := V.int.inj z; omega), if_pos c1]
    exact .cons h1 .nil
  · rw [if_neg c1]
    by_cases c2 : k = 15
    · subst c2
      exact .cons h1 (.cons h2 .nil)
    · rw [decide_eq_false (show ¬ (k : Int) < 16 by omega), decide_eq_false (fun z => by have := V.int.inj z; omega), if_neg c2]
      exact .nil
theorem shaped_one (i : Int) : SeqAt.shaped (.list [.int i]) = true := by
  unfold SeqAt.shaped
  simp [PyData.canLay0, PyData.canLayAll0, PyData.depth, PyData.depthAll]
theorem eqv_one (i : Int) : PyData.eqv (.list [.int i]) (.list [.int i]) = true := by
  simp [PyData.eqv, PyData.eqvAll]
section
variable {P : Program} {w : World} {K : PySem.W.Frag} {mg : Str → Option Value} {base : Heap}
theorem ok_law {f : Addr} {fd : FuncData} (F : Fun K "law" "law" s_law f fd) (m_ValueError : mg "ValueError" = none) (m_int : mg "int" = none) (m_isinstance : mg "isinstance" = none) (m_range : mg "range" = none) (m_str : mg "str" = none) {f_law_purse : Addr} {fd_law_purse : FuncData} (c_law_purse : Cal P w K mg base CX0 1 f_law_purse fd_law_purse "_law_purse" ["_law_script"] (sp_law_purse K)) {f_law_thing : Addr} {fd_law_thing : FuncData} (c_law_thing : Cal P w K mg base CX0 2 f_law_thing fd_law_thing "_law_thing" ["_law_purse_here", "_law_which"] (sp_law_thing K)) {f_law_caught : Addr} {fd_law_caught : FuncData} (c_law_caught : Cal P w K mg base CX0 10 f_law_caught fd_law_caught "_law_caught" ["_law_which", "_law_way", "_law_one", "_law_two"] (sp_law_caught K)) {f_law_marks : Addr} {fd_law_marks : FuncData} (c_law_marks : Cal P w K mg base CX0 1 f_law_marks fd_law_marks "_law_marks" ["_law_caught_here"] (sp_law_marks K)) {f_law_borne : Addr} {fd_law_borne : FuncData} (c_law_borne : Cal P w K mg base CX0 1 f_law_borne fd_law_borne "_law_borne" ["_law_which", "_law_caught_here"] (sp_law_borne K)) (f_exk : ExAll K) (hbind : ∀ (s : Shared) (v : Value), BindsTo s fd ⟨[v], []⟩ [("_law_script", v)]) : WX.LawAt P w K mg base f 63 := by
  intro s H a ns e0 hS hl
  refine WX.run_at (k := 10) (vs := [V.ref a]) (us := [Value.ref a]) F sc_law ⟨rfl, by decide, by decide⟩ e0 (hbind s _) (.cons rfl .nil) rfl (fun cdv hr => ?_)
  have hg : (callerA.deeper (envOfC "law" (defScope s_law) s.heap.objs.size f cdv)).guards = some [] := rfl
  have hz := szl
  refine ⟨_, (pss_cons (ps_set (i := 1) sc_law.nd rfl (Or.inl rfl) (pe_call c_law_purse.G (hr.mono (by decide)) (by rfl) c_law_purse.g c_law_purse.kp c_law_purse.b .nil pass0 (pa_cons (pv 0) pa_nil)))
      (pss_cons (ps_set (i := 2) sc_law.nd rfl (Or.inl rfl) (pe_lst pa_nil))
      (pss_cons (ps_for PassesOwn.never rfl (pi_range1 (by rfl) m_range (pa_cons pe_int pa_nil)) (pg_name (i := 3) sc_law.nd rfl (Or.inl rfl))
        (pss_one (ps_for PassesOwn.never rfl (pi_range1 (by rfl) m_range (pa_cons pe_int pa_nil)) (pg_name (i := 4) sc_law.nd rfl (Or.inl rfl))
          (pss_cons (ps_set (i := 5) sc_law.nd rfl (Or.inl rfl) (pe_call c_law_thing.G (hr.mono (by decide)) (by rfl) c_law_thing.g c_law_thing.kp c_law_thing.b .nil pass0 (pa_cons (pv 1) (pa_cons (pv 4) pa_nil))))
          (pss_cons (ps_set (i := 6) sc_law.nd rfl (Or.inl rfl) (pe_call c_law_thing.G (hr.mono (by decide)) (by rfl) c_law_thing.g c_law_thing.kp c_law_thing.b .nil pass0 (pa_cons (pv 1) (pa_cons (pv 4) pa_nil))))
          (pss_cons (ps_set (i := 7) sc_law.nd rfl (Or.inl rfl) (pe_call c_law_caught.G (hr.mono (by decide)) (by rfl) c_law_caught.g c_law_caught.kp c_law_caught.b .nil pass0 (pa_cons (pv 4) (pa_cons (pv 3) (pa_cons (pv 5) (pa_cons (pv 6) pa_nil))))))
          (pss_cons (ps_if (PW.pt (pw_or (pt_cmpR (op_neD hr.units) (pe_call c_law_marks.G (hr.mono (by decide)) (by rfl) c_law_marks.g c_law_marks.kp c_law_marks.b .nil pass0 (pa_cons (pv 7) pa_nil)) (pe_lst (pa_cons (pv 4) pa_nil)) (nomark _)) (pw_or1 (pt_not (pt_val (pe_callB WX.call_isX (by rfl) m_isinstance (by decide +kernel) (pa_cons (pv 7) (pa_cons (pe_bltn (v := .ty "ValueError") (by rfl) m_ValueError (by decide +kernel) rfl) pa_nil))))))))
            (pss_one (ps_ret pe_bl))
            pss_nil)
          (pss_one (ps_expr (pe_bm PySem.F.plainAttrs_list PySem.F.slot_list_append PySem.F.type_list_append mt_append (pv 2) (pa_cons (pe_lst (pa_cons (pv 4) (pa_cons (pv 7) (pa_cons (pe_slice sl_list (pe_lst (pa_cons (pv 5) (pa_cons (pv 6) pa_nil))) po_none (po_some (pe_op op_add (pe_callTy call_int1 (by rfl) m_int (by decide +kernel) (pa_cons (pe_cmpR op_lt (pv 4) pe_int (nomark _)) pa_nil)) (pe_callTy call_int1 (by rfl) m_int (by decide +kernel) (pa_cons (pe_cmpR op_eq (pv 4) pe_int (nomark _)) pa_nil))))) pa_nil)))) pa_nil)))))))))))
      (pss_one (ps_ret (pe_cmpR (op_eqD hr.units) (pe_lc (own := [("_law_which", 4), ("_law_caught_here", 7), ("_law_due", 8)]) (g := gLst K 3 (gCons (gName 4) (gCons (gName 7) (gCons (gName 8) gNil)))) (by rfl) sc_law.nd (pi_list (pv 2)) (blkOk_by (N := ["_law_script", "_law_purse_here", "_law_held", "_law_way", "_law_which", "_law_one", "_law_two", "_law_caught_here", "_law_due"]) (sc := defScope s_law) (by decide +kernel)) (fun _ _ _ _ _ => pg_lst (by rfl) (pgs_cons (pg_name (i := 4) sc_law.nd rfl (Or.inl rfl)) (pgs_cons (pg_name (i := 7) sc_law.nd rfl (Or.inl rfl)) (pgs_cons (pg_name (i := 8) sc_law.nd rfl (Or.inl rfl)) pgs_nil)))) (fun _ _ _ _ _ => pts_one (pt_cmpR op_ne (pe_callTy (WX.cr_strDK K rfl (hr.mono (by decide)) hg) (by rfl) m_str (by decide +kernel) (pa_cons (pe_call c_law_borne.G (hr.mono (by decide)) (by rfl) c_law_borne.g c_law_borne.kp c_law_borne.b .nil pass0 (pa_cons (pv 4) (pa_cons (pv 7) pa_nil))) pa_nil)) (pe_callTy (WX.cr_strDK K rfl (hr.mono (by decide)) hg) (by rfl) m_str (by decide +kernel) (pa_cons (pv 8) pa_nil)) (nomark _))) (fun _ _ _ _ _ => (pv 4))) (pe_lst pa_nil) (nomark _))))))), ?_⟩
  refine ⟨_, rfl, a, ns, rfl, hS, hl, fun H1 p c cells s1 pur0 => ?_⟩
  refine ⟨by show 0 ≤ sizeLine; decide, fun L nL => ?_⟩
  have pur := pur0.mono (same_upd (o := .lst []) nL)
  have hL := at_upd (o := .lst []) nL
  have Lp : L ≠ p := fun z => by rw [z, pur0.hp] at nL; cases nL
  have Lc : L ≠ c := fun z => by rw [z, pur0.hc] at nL; cases nL
  have hG : Good K p c L 0 (upd H1 L (.lst [])) := ⟨cells, 0, [], pur, Nat.le_refl _, hL, rfl, fun z hz => nomatch hz⟩
  generalize (upd H1 L (.lst [])) = H0 at *
  clear pur0 pur hL s1 nL
  refine ⟨4, rfl, by decide, by decide, ?_⟩
  refine for_range (n := 4) (fun i σ H' => Good K p c L (28 * i) H' ∧ ∃ z3 z4 z5 z6 z7 z8, σ = [some (.ref a), some (.ref p), some (.ref L), z3, z4, z5, z6, z7, z8]) ⟨hG, _, _, _, _, _, _, rfl⟩ (fun i σ HA hi hP => ?_) (fun σ HA hP => ?_)
  · obtain ⟨hG, z3, z4, z5, z6, z7, z8, rfl⟩ := hP
    rw [show ((0 : Int) + (i : Int)) = (i : Int) from Int.zero_add _]
    refine ⟨28, rfl, by decide, by decide, ?_⟩
    refine for_range (n := 28) (fun j σ H' => Good K p c L (28 * i + j) H' ∧ ∃ z4 z5 z6 z7 z8, σ = [some (.ref a), some (.ref p), some (.ref L), some (.int (i : Int)), z4, z5, z6, z7, z8]) ⟨hG, _, _, _, _, _, rfl⟩ (fun j σ HJ hj hP => ?_) (fun σ HB hP => ?_)
    · obtain ⟨⟨cells, went, held, pur, hwent, hL, hlen, hitems⟩, z4, z5, z6, z7, z8, rfl⟩ := hP
      rw [show ((0 : Int) + (j : Int)) = (j : Int) from Int.zero_add _]
      refine ⟨_, rfl, _, rfl, p, c, cells, went, j, rfl, pur, by omega, fun H2 v1 d1 cells1 went1 sb1 pur1 hw1 hv1 f1 c1 e1 => ?_⟩
      refine ⟨_, rfl, _, rfl, p, c, cells1, went1, j, rfl, pur1, by omega, fun H3 v2 d2 cells2 went2 sb2 pur2 hw2 hv2 f2 c2 e2 => ?_⟩
      have far : ∀ {b : Addr}, HJ b = none → Far p c L b := fun hb => ⟨fun z => (by rw [z, pur.hp] at hb; cases hb), fun z => (by rw [z, pur.hc] at hb; cases hb), fun z => (by rw [z, hL] at hb; cases hb)⟩
      have hv1 : DpN H3 (Far p c L) v1 d1 := hv1.mono (fun b o h e => sb2 b o ⟨(far h).1, (far h).2.1⟩ e) (fun b o h _ => far h)
      have hv2 : DpN H3 (Far p c L) v2 d2 := hv2.mono (fun b o h e => e) (fun b o h _ => far (none_of2 sb1 pur1 h))
      have sb := sb1.trans sb2
      have hL3 := sb _ _ ⟨Lp, Lc⟩ hL
      refine ⟨_, rfl, _, rfl, _, rfl, _, rfl, j, i, v1, v2, d1, d2, Far p c L, rfl, hj, hi, hv1, by omega, hv2, by omega, fun H4 ea C dd x hx hC s4 nea hea hd hb => ?_⟩
      have ok := f_exk j x C hx hC
      have far3 : ∀ {b : Addr}, H3 b = none → Far p c L b := fun hb => far (none_of2 sb pur2 hb)
      refine ⟨_, rfl, ea, C, dd, j, x, rfl, hea, hd, hj, hx, hC, fun H5 pm s5 hpm => ?_⟩
      refine ⟨_, rfl, by show 1 ≤ sizeLine; decide, fun l3 n3 => ?_⟩
      have t3 := same_upd (o := .lst [V.int (j : Int)]) n3
      refine ⟨.list [.int (j : Int)], .list [.int (j : Int)], .lst (SqL.of (t3 _ _ hpm)) (.cons (.int _) .nil), .lst (SqL.of (at_upd n3)) (.cons (.int _) .nil), shaped_one _, shaped_one _, ?_⟩
      rw [eqv_one]
      refine ⟨false, rfl, iteF ?_⟩
      have s45 := s5.trans t3
      have hea := s45 _ _ hea
      have hd := exd_mono s45 hd
      have hb : Bears _ (Far p c L) dd j d1 d2 := hb.mono (fun b o _ e => s45 _ _ e) (fun b o h _ => far3 h)
      have s36 := s4.trans s45
      generalize (upd H5 l3 (.lst [V.int (j : Int)])) = H6 at *
      refine ⟨_, rfl, ea, C, dd, _, .type "ValueError", true, rfl, hea, hd, ok.ex, .ty _, kit_ve ok.ve, true, rfl, iteF ?_⟩
      have hL6 := s36 _ _ hL3
      refine ⟨_, rfl, .inl ⟨rfl, _, SqL.of hL6⟩, _, rfl, _, rfl, _, rfl, _, rfl, by show 2 ≤ sizeLine; decide, fun l2 n2 => ?_⟩
      have hcut := fun (H' : Hp) (g1 : DpN H' (Far p c L) v1 d1) (g2 : DpN H' (Far p c L) v2 d2) => cut_due (k := j) g1 g2
      refine ⟨_, rfl, _, _, rfl, rfl, .inr ⟨_, rfl, _, rfl, rfl, .inr ⟨_, rfl, _, _, rfl, rfl, _, rfl, l2, _, rfl, SqL.of (at_upd n2), fun pd npd => ?_⟩⟩⟩
      generalize (cutV [v1, v2] none (some ((if decide ((j : Int) < 16) = true then 1 else 0) + (if decide (V.int (j : Int) = V.int 15) = true then 1 else 0)))) = ws at *
      have t2 := same_upd (o := .lst [v1, v2]) n2
      have tp := same_upd (o := .lst ws) npd
      have npd3 : H3 pd = none := none_of s36 (none_of t2 npd)
      have s37 := s36.trans (t2.trans tp)
      have hea := (t2.trans tp) _ _ hea
      have hb := hb.mono (N' := Far p c L) (fun b o _ e => (t2.trans tp) _ _ e) (fun b o h _ => h)
      have hpd := at_upd (o := .lst ws) npd
      generalize (upd (upd H6 l2 (.lst [v1, v2])) pd (.lst ws)) = H7 at *
      refine ⟨by show 3 ≤ sizeLine; decide, fun g ng => ?_⟩
      have tg := same_upd (o := .lst [nV j, .ref ea, .ref pd]) ng
      have ng3 : H3 g = none := none_of s37 ng
      have hg' := at_upd (o := .lst [nV j, .ref ea, .ref pd]) ng
      have s38 := s37.trans tg
      have hea := tg _ _ hea
      have hb := hb.mono (N' := Far p c L) (fun b o _ e => tg _ _ e) (fun b o h _ => h)
      have hpd := tg _ _ hpd
      refine ⟨L, _, _, rfl, rfl, s38 _ _ hL3, by omega, ?_⟩
      have e8 : (upd H7 g (.lst [V.int (j : Int), V.ref ea, V.ref pd])) = (upd H7 g (.lst [nV j, .ref ea, .ref pd])) := rfl
      rw [e8]
      generalize (upd H7 g (.lst [nV j, .ref ea, .ref pd])) = H8 at *
      have kL : Keeps (Far p c L) H8 (upd H8 L (.lst (held ++ [.ref g]))) := fun b o h e => by
        rw [upd_ne h.2.2]
        exact e
      have kA : Keeps (Far p c L) HJ (upd H8 L (.lst (held ++ [.ref g]))) := fun b o h e => kL b o h (s38 _ _ (sb b o ⟨h.1, h.2.1⟩ e))
      have dk := due_ok (k := j) f1 f2 c1 c2 e1 e2
      have hws := hcut _ (hv1.mono (N' := Far p c L) (fun b o h e => kL b o h (s38 _ _ e)) (fun b o h _ => h)) (hv2.mono (N' := Far p c L) (fun b o h e => kL b o h (s38 _ _ e)) (fun b o h _ => h))
      have fg := far3 ng3
      have fp := far3 npd3
      have fe := far3 nea
      refine ⟨⟨cells2, went2, held ++ [.ref g], ⟨?_, ?_, pur2.ne, pur2.pos, pur2.le⟩, by omega, upd_same, by rw [List.length_append, hlen]; rfl, fun z hz => ?_⟩, _, _, _, _, _, rfl⟩
      · rw [upd_ne Lp.symm]
        exact s38 _ _ pur2.hp
      · rw [upd_ne Lc.symm]
        exact s38 _ _ pur2.hc
      · rcases List.mem_append.mp hz with hz | hz
        · exact (hitems z hz).mono kA
        · rw [List.mem_singleton.mp hz]
          exact ⟨g, ea, pd, C, dd, j, x, d1, d2, ws, rfl, fg, kL _ _ fg hg', hj, hx, hC, fe, kL _ _ fe hea, hb.mono kL (fun _ _ h _ => h), fp, kL _ _ fp hpd, hws, dk.1, dk.2.1, dk.2.2⟩
    · obtain ⟨hG, z4, z5, z6, z7, z8, rfl⟩ := hP
      exact ⟨hG, _, _, _, _, _, _, rfl⟩
  · obtain ⟨⟨cells, went, held, pur, hwent, hL, hlen, hitems⟩, z3, z4, z5, z6, z7, z8, rfl⟩ := hP
    refine ⟨_, rfl, L, rfl, ⟨_, SqL.of hL⟩, fun D nD => ?_⟩
    have tD := same_upd (o := .lst []) nD
    refine lc_list (K := K) (a := L) (xs := held) (fun k H2 => Same HA H2 ∧ H2 D = some (.lst [])) ⟨tD, upd_same⟩ (fun k H2 _ hP => SqL.of (hP.1 _ _ hL)) (fun k z H2 hz hP => ?_) (fun H2 hP => ?_)
    · obtain ⟨sA, hD⟩ := hP
      obtain ⟨g, ea, pd, C, dd, kk, x, d1, d2, ws, rfl, g2, g3, g4, g5, g6, g7, g8, g9, g10, g11, g12, g13, g14, g15⟩ := hitems z (List.mem_of_getElem? hz)
      refine ⟨g, _, rfl, SqL.of (sA _ _ g3), rfl, _, _, rfl, _, _, rfl, _, _, rfl, rfl, rfl, ?_⟩
      have lay : ∀ {ds : List PyData}, fines ds = true → costs ds ≤ 500 → PyData.depthAll ds ≤ 3 → (PyData.list ds).canLay0 = true ∧ (PyData.list ds).showable = true ∧ (PyData.list ds).depth ≤ 40 ∧ (PyData.list ds).shown.length ≤ sizeLine := by
        intro ds q1 q2 q3
        have h1 := fine_lay (.list ds) (by simp only [fine]; exact q1)
        have h2 := shown_len (.list ds) (by simp only [fine]; exact q1)
        simp only [cost] at h2
        exact ⟨h1.1, h1.2, by simp only [PyData.depth]; omega, by omega⟩
      obtain ⟨y1, y2, y3, y4⟩ := lay g13 g14 g15
      refine ⟨_, rfl, _, rfl, kk, ea, C, dd, x, d1, d2, Far p c L, rfl, g4, g5, g6, sA _ _ g8, g9.mono (fun b o _ e => sA _ _ e) (fun b o h _ => h), fun H3 pb ws2 s3 hpb hds _ => ?_⟩
      refine ⟨pb, .list (due kk d1 d2), rfl, .lst (SqL.of hpb) hds.dp, y1, y2, y3, y4, ?_⟩
      refine ⟨_, rfl, pd, .list (due kk d1 d2), rfl, .lst (SqL.of (s3 _ _ (sA _ _ g11))) (g12.mono (N' := Far p c L) (fun b o _ e => s3 _ _ (sA _ _ e)) (fun b o h _ => h)).dp, y1, y2, y3, y4, rfl, _, rfl, ?_⟩
      show if (!decide (V.str (PyData.list (due kk d1 d2)).shown = V.str (PyData.list (due kk d1 d2)).shown)) = true then _ else _
      rw [decide_eq_true rfl]
      exact iteF ⟨sA.trans s3, s3 _ _ hD⟩
    obtain ⟨sA, hD⟩ := hP
    refine ⟨by show 0 ≤ sizeLine; decide, fun D3 nD3 => ?_⟩
    exact ⟨.list [], .list [], .lst (SqL.of ((same_upd nD3) _ _ hD)) .nil, .lst (SqL.of (at_upd nD3)) .nil, by decide +kernel, by decide +kernel, rfl⟩
end
end WK
namespace WK
open PySem PySem.Spec PyProof.Rows L2
theorem all_mk {l : PySem.W.OpenLaw} {w : World} {K : PySem.W.Frag} {h : Heap} {mg : Str → Option Value} {fa : Addr} (X : K.In h) (G : h.Ns mainGlobals mg) (hfa : mg "law" = some (.ref fa))
    {C_Dry : Addr} (aC_Dry : PySem.W.nsIn K mainGlobals "Dry" = some (some (.ref C_Dry))) (hd_Dry : PySem.W.hasDictIn K C_Dry = true) (ty_Dry : PySem.W.typeIn K (.ref C_Dry) = some (.type "type")) (hs_Dry : PySem.W.subIn K (.ref C_Dry) (.type "BaseException") = some true) (kC_Dry : PySem.W.keepIn K (.ref C_Dry) = true) {nm_Dry q_Dry : Str} {N_Dry : Addr} {bs_Dry bm_Dry : List Value} {sn_Dry : List Str} {sub_Dry : List Value} {ab_Dry : Bool} {col_Dry : Option Bool} {dd_Dry : Option Addr} {m0_Dry m1_Dry m2_Dry m3_Dry m5_Dry : Option Value} (xL_Dry : K.lookup C_Dry = some (excClassObj nm_Dry q_Dry C_Dry N_Dry bs_Dry bm_Dry true sn_Dry sub_Dry ab_Dry col_Dry dd_Dry m0_Dry m1_Dry m2_Dry m3_Dry m5_Dry "ValueError.__new__")) (xb_Dry : PySem.HandSPX.refsVE bm_Dry = true) (sa_Dry : PySem.W.findIn K (.ref C_Dry) "__setattr__" = some (some (.builtin "object.__setattr__")))
    {C_LoomError : Addr} (aC_LoomError : PySem.W.nsIn K mainGlobals "LoomError" = some (some (.ref C_LoomError))) (hg_LoomError : PySem.W.findIn K (.ref C_LoomError) "__getattribute__" = some (some (.builtin "BaseException.__getattribute__"))) (hk_LoomError : PySem.W.findIn K (.ref C_LoomError) "__getattr__" = some none) (hd_LoomError : PySem.W.hasDictIn K C_LoomError = true) (ha_LoomError : PySem.W.findIn K (.ref C_LoomError) "__class__" = some (some (.builtin "object.__class__"))) (hm_LoomError : PySem.W.mroIn K C_LoomError (.type "object") = some true) (ve_LoomError : PySem.W.subIn K (.ref C_LoomError) (.type "ValueError") = some true) (hs_LoomError : PySem.W.subIn K (.ref C_LoomError) (.type "BaseException") = some true) (ty_LoomError : PySem.W.typeIn K (.ref C_LoomError) = some (.type "type"))
    {C_NoBack : Addr} (aC_NoBack : PySem.W.nsIn K mainGlobals "NoBack" = some (some (.ref C_NoBack))) (hd_NoBack : PySem.W.hasDictIn K C_NoBack = true) (ty_NoBack : PySem.W.typeIn K (.ref C_NoBack) = some (.type "type")) (hs_NoBack : PySem.W.subIn K (.ref C_NoBack) (.type "BaseException") = some true) (kC_NoBack : PySem.W.keepIn K (.ref C_NoBack) = true) (ex_NoBack : PySem.W.excIn K C_NoBack [.type "ValueError", .type "Exception", .type "BaseException", .type "object"] "ValueError.__new__" = true)
    {C_NoBeat : Addr} (aC_NoBeat : PySem.W.nsIn K mainGlobals "NoBeat" = some (some (.ref C_NoBeat))) (hd_NoBeat : PySem.W.hasDictIn K C_NoBeat = true) (ty_NoBeat : PySem.W.typeIn K (.ref C_NoBeat) = some (.type "type")) (hs_NoBeat : PySem.W.subIn K (.ref C_NoBeat) (.type "BaseException") = some true) (kC_NoBeat : PySem.W.keepIn K (.ref C_NoBeat) = true) {nm_NoBeat q_NoBeat : Str} {N_NoBeat : Addr} {bs_NoBeat bm_NoBeat : List Value} {sn_NoBeat : List Str} {sub_NoBeat : List Value} {ab_NoBeat : Bool} {col_NoBeat : Option Bool} {dd_NoBeat : Option Addr} {m0_NoBeat m1_NoBeat m2_NoBeat m3_NoBeat m5_NoBeat : Option Value} (xL_NoBeat : K.lookup C_NoBeat = some (excClassObj nm_NoBeat q_NoBeat C_NoBeat N_NoBeat bs_NoBeat bm_NoBeat true sn_NoBeat sub_NoBeat ab_NoBeat col_NoBeat dd_NoBeat m0_NoBeat m1_NoBeat m2_NoBeat m3_NoBeat m5_NoBeat "ValueError.__new__")) (xb_NoBeat : PySem.HandSPX.refsVE bm_NoBeat = true) (sa_NoBeat : PySem.W.findIn K (.ref C_NoBeat) "__setattr__" = some (some (.builtin "object.__setattr__")))
    {C_NoBook : Addr} (aC_NoBook : PySem.W.nsIn K mainGlobals "NoBook" = some (some (.ref C_NoBook))) (hd_NoBook : PySem.W.hasDictIn K C_NoBook = true) (ty_NoBook : PySem.W.typeIn K (.ref C_NoBook) = some (.type "type")) (hs_NoBook : PySem.W.subIn K (.ref C_NoBook) (.type "BaseException") = some true) (kC_NoBook : PySem.W.keepIn K (.ref C_NoBook) = true) {nm_NoBook q_NoBook : Str} {N_NoBook : Addr} {bs_NoBook bm_NoBook : List Value} {sn_NoBook : List Str} {sub_NoBook : List Value} {ab_NoBook : Bool} {col_NoBook : Option Bool} {dd_NoBook : Option Addr} {m0_NoBook m1_NoBook m2_NoBook m3_NoBook m5_NoBook : Option Value} (xL_NoBook : K.lookup C_NoBook = some (excClassObj nm_NoBook q_NoBook C_NoBook N_NoBook bs_NoBook bm_NoBook true sn_NoBook sub_NoBook ab_NoBook col_NoBook dd_NoBook m0_NoBook m1_NoBook m2_NoBook m3_NoBook m5_NoBook "ValueError.__new__")) (xb_NoBook : PySem.HandSPX.refsVE bm_NoBook = true) (sa_NoBook : PySem.W.findIn K (.ref C_NoBook) "__setattr__" = some (some (.builtin "object.__setattr__")))
    {C_NoDeed : Addr} (aC_NoDeed : PySem.W.nsIn K mainGlobals "NoDeed" = some (some (.ref C_NoDeed))) (hd_NoDeed : PySem.W.hasDictIn K C_NoDeed = true) (ty_NoDeed : PySem.W.typeIn K (.ref C_NoDeed) = some (.type "type")) (hs_NoDeed : PySem.W.subIn K (.ref C_NoDeed) (.type "BaseException") = some true) (kC_NoDeed : PySem.W.keepIn K (.ref C_NoDeed) = true) {nm_NoDeed q_NoDeed : Str} {N_NoDeed : Addr} {bs_NoDeed bm_NoDeed : List Value} {sn_NoDeed : List Str} {sub_NoDeed : List Value} {ab_NoDeed : Bool} {col_NoDeed : Option Bool} {dd_NoDeed : Option Addr} {m0_NoDeed m1_NoDeed m2_NoDeed m3_NoDeed m5_NoDeed : Option Value} (xL_NoDeed : K.lookup C_NoDeed = some (excClassObj nm_NoDeed q_NoDeed C_NoDeed N_NoDeed bs_NoDeed bm_NoDeed true sn_NoDeed sub_NoDeed ab_NoDeed col_NoDeed dd_NoDeed m0_NoDeed m1_NoDeed m2_NoDeed m3_NoDeed m5_NoDeed "ValueError.__new__")) (xb_NoDeed : PySem.HandSPX.refsVE bm_NoDeed = true) (sa_NoDeed : PySem.W.findIn K (.ref C_NoDeed) "__setattr__" = some (some (.builtin "object.__setattr__")))
    {C_NoDrive : Addr} (aC_NoDrive : PySem.W.nsIn K mainGlobals "NoDrive" = some (some (.ref C_NoDrive))) (hd_NoDrive : PySem.W.hasDictIn K C_NoDrive = true) (ty_NoDrive : PySem.W.typeIn K (.ref C_NoDrive) = some (.type "type")) (hs_NoDrive : PySem.W.subIn K (.ref C_NoDrive) (.type "BaseException") = some true) (kC_NoDrive : PySem.W.keepIn K (.ref C_NoDrive) = true) (ex_NoDrive : PySem.W.excIn K C_NoDrive [.type "ValueError", .type "Exception", .type "BaseException", .type "object"] "ValueError.__new__" = true)
    {C_NoFace : Addr} (aC_NoFace : PySem.W.nsIn K mainGlobals "NoFace" = some (some (.ref C_NoFace))) (hd_NoFace : PySem.W.hasDictIn K C_NoFace = true) (ty_NoFace : PySem.W.typeIn K (.ref C_NoFace) = some (.type "type")) (hs_NoFace : PySem.W.subIn K (.ref C_NoFace) (.type "BaseException") = some true) (kC_NoFace : PySem.W.keepIn K (.ref C_NoFace) = true) {nm_NoFace q_NoFace : Str} {N_NoFace : Addr} {bs_NoFace bm_NoFace : List Value} {sn_NoFace : List Str} {sub_NoFace : List Value} {ab_NoFace : Bool} {col_NoFace : Option Bool} {dd_NoFace : Option Addr} {m0_NoFace m1_NoFace m2_NoFace m3_NoFace m5_NoFace : Option Value} (xL_NoFace : K.lookup C_NoFace = some (excClassObj nm_NoFace q_NoFace C_NoFace N_NoFace bs_NoFace bm_NoFace true sn_NoFace sub_NoFace ab_NoFace col_NoFace dd_NoFace m0_NoFace m1_NoFace m2_NoFace m3_NoFace m5_NoFace "ValueError.__new__")) (xb_NoFace : PySem.HandSPX.refsVE bm_NoFace = true) (sa_NoFace : PySem.W.findIn K (.ref C_NoFace) "__setattr__" = some (some (.builtin "object.__setattr__")))
    {C_NoFlow : Addr} (aC_NoFlow : PySem.W.nsIn K mainGlobals "NoFlow" = some (some (.ref C_NoFlow))) (hd_NoFlow : PySem.W.hasDictIn K C_NoFlow = true) (ty_NoFlow : PySem.W.typeIn K (.ref C_NoFlow) = some (.type "type")) (hs_NoFlow : PySem.W.subIn K (.ref C_NoFlow) (.type "BaseException") = some true) (kC_NoFlow : PySem.W.keepIn K (.ref C_NoFlow) = true) {nm_NoFlow q_NoFlow : Str} {N_NoFlow : Addr} {bs_NoFlow bm_NoFlow : List Value} {sn_NoFlow : List Str} {sub_NoFlow : List Value} {ab_NoFlow : Bool} {col_NoFlow : Option Bool} {dd_NoFlow : Option Addr} {m0_NoFlow m1_NoFlow m2_NoFlow m3_NoFlow m5_NoFlow : Option Value} (xL_NoFlow : K.lookup C_NoFlow = some (excClassObj nm_NoFlow q_NoFlow C_NoFlow N_NoFlow bs_NoFlow bm_NoFlow true sn_NoFlow sub_NoFlow ab_NoFlow col_NoFlow dd_NoFlow m0_NoFlow m1_NoFlow m2_NoFlow m3_NoFlow m5_NoFlow "ValueError.__new__")) (xb_NoFlow : PySem.HandSPX.refsVE bm_NoFlow = true) (sa_NoFlow : PySem.W.findIn K (.ref C_NoFlow) "__setattr__" = some (some (.builtin "object.__setattr__")))
    {C_NoLane : Addr} (aC_NoLane : PySem.W.nsIn K mainGlobals "NoLane" = some (some (.ref C_NoLane))) (hd_NoLane : PySem.W.hasDictIn K C_NoLane = true) (ty_NoLane : PySem.W.typeIn K (.ref C_NoLane) = some (.type "type")) (hs_NoLane : PySem.W.subIn K (.ref C_NoLane) (.type "BaseException") = some true) (kC_NoLane : PySem.W.keepIn K (.ref C_NoLane) = true) (ex_NoLane : PySem.W.excIn K C_NoLane [.type "ValueError", .type "Exception", .type "BaseException", .type "object"] "ValueError.__new__" = true)
    {C_NoLine : Addr} (aC_NoLine : PySem.W.nsIn K mainGlobals "NoLine" = some (some (.ref C_NoLine))) (hd_NoLine : PySem.W.hasDictIn K C_NoLine = true) (ty_NoLine : PySem.W.typeIn K (.ref C_NoLine) = some (.type "type")) (hs_NoLine : PySem.W.subIn K (.ref C_NoLine) (.type "BaseException") = some true) (kC_NoLine : PySem.W.keepIn K (.ref C_NoLine) = true) (ex_NoLine : PySem.W.excIn K C_NoLine [.type "ValueError", .type "Exception", .type "BaseException", .type "object"] "ValueError.__new__" = true)
    {C_NoLoop : Addr} (aC_NoLoop : PySem.W.nsIn K mainGlobals "NoLoop" = some (some (.ref C_NoLoop))) (hd_NoLoop : PySem.W.hasDictIn K C_NoLoop = true) (ty_NoLoop : PySem.W.typeIn K (.ref C_NoLoop) = some (.type "type")) (hs_NoLoop : PySem.W.subIn K (.ref C_NoLoop) (.type "BaseException") = some true) (kC_NoLoop : PySem.W.keepIn K (.ref C_NoLoop) = true) {nm_NoLoop q_NoLoop : Str} {N_NoLoop : Addr} {bs_NoLoop bm_NoLoop : List Value} {sn_NoLoop : List Str} {sub_NoLoop : List Value} {ab_NoLoop : Bool} {col_NoLoop : Option Bool} {dd_NoLoop : Option Addr} {m0_NoLoop m1_NoLoop m2_NoLoop m3_NoLoop m5_NoLoop : Option Value} (xL_NoLoop : K.lookup C_NoLoop = some (excClassObj nm_NoLoop q_NoLoop C_NoLoop N_NoLoop bs_NoLoop bm_NoLoop true sn_NoLoop sub_NoLoop ab_NoLoop col_NoLoop dd_NoLoop m0_NoLoop m1_NoLoop m2_NoLoop m3_NoLoop m5_NoLoop "ValueError.__new__")) (xb_NoLoop : PySem.HandSPX.refsVE bm_NoLoop = true) (sa_NoLoop : PySem.W.findIn K (.ref C_NoLoop) "__setattr__" = some (some (.builtin "object.__setattr__")))
    {C_NoMeasure : Addr} (aC_NoMeasure : PySem.W.nsIn K mainGlobals "NoMeasure" = some (some (.ref C_NoMeasure))) (hd_NoMeasure : PySem.W.hasDictIn K C_NoMeasure = true) (ty_NoMeasure : PySem.W.typeIn K (.ref C_NoMeasure) = some (.type "type")) (hs_NoMeasure : PySem.W.subIn K (.ref C_NoMeasure) (.type "BaseException") = some true) (kC_NoMeasure : PySem.W.keepIn K (.ref C_NoMeasure) = true) (ex_NoMeasure : PySem.W.excIn K C_NoMeasure [.type "ValueError", .type "Exception", .type "BaseException", .type "object"] "ValueError.__new__" = true)
    {C_NoModule : Addr} (aC_NoModule : PySem.W.nsIn K mainGlobals "NoModule" = some (some (.ref C_NoModule))) (hd_NoModule : PySem.W.hasDictIn K C_NoModule = true) (ty_NoModule : PySem.W.typeIn K (.ref C_NoModule) = some (.type "type")) (hs_NoModule : PySem.W.subIn K (.ref C_NoModule) (.type "BaseException") = some true) (kC_NoModule : PySem.W.keepIn K (.ref C_NoModule) = true) {nm_NoModule q_NoModule : Str} {N_NoModule : Addr} {bs_NoModule bm_NoModule : List Value} {sn_NoModule : List Str} {sub_NoModule : List Value} {ab_NoModule : Bool} {col_NoModule : Option Bool} {dd_NoModule : Option Addr} {m0_NoModule m1_NoModule m2_NoModule m3_NoModule m5_NoModule : Option Value} (xL_NoModule : K.lookup C_NoModule = some (excClassObj nm_NoModule q_NoModule C_NoModule N_NoModule bs_NoModule bm_NoModule true sn_NoModule sub_NoModule ab_NoModule col_NoModule dd_NoModule m0_NoModule m1_NoModule m2_NoModule m3_NoModule m5_NoModule "ValueError.__new__")) (xb_NoModule : PySem.HandSPX.refsVE bm_NoModule = true) (sa_NoModule : PySem.W.findIn K (.ref C_NoModule) "__setattr__" = some (some (.builtin "object.__setattr__")))
    {C_NoName : Addr} (aC_NoName : PySem.W.nsIn K mainGlobals "NoName" = some (some (.ref C_NoName))) (hd_NoName : PySem.W.hasDictIn K C_NoName = true) (ty_NoName : PySem.W.typeIn K (.ref C_NoName) = some (.type "type")) (hs_NoName : PySem.W.subIn K (.ref C_NoName) (.type "BaseException") = some true) (kC_NoName : PySem.W.keepIn K (.ref C_NoName) = true) {nm_NoName q_NoName : Str} {N_NoName : Addr} {bs_NoName bm_NoName : List Value} {sn_NoName : List Str} {sub_NoName : List Value} {ab_NoName : Bool} {col_NoName : Option Bool} {dd_NoName : Option Addr} {m0_NoName m1_NoName m2_NoName m3_NoName m5_NoName : Option Value} (xL_NoName : K.lookup C_NoName = some (excClassObj nm_NoName q_NoName C_NoName N_NoName bs_NoName bm_NoName true sn_NoName sub_NoName ab_NoName col_NoName dd_NoName m0_NoName m1_NoName m2_NoName m3_NoName m5_NoName "ValueError.__new__")) (xb_NoName : PySem.HandSPX.refsVE bm_NoName = true) (sa_NoName : PySem.W.findIn K (.ref C_NoName) "__setattr__" = some (some (.builtin "object.__setattr__")))
    {C_NoNet : Addr} (aC_NoNet : PySem.W.nsIn K mainGlobals "NoNet" = some (some (.ref C_NoNet))) (hd_NoNet : PySem.W.hasDictIn K C_NoNet = true) (ty_NoNet : PySem.W.typeIn K (.ref C_NoNet) = some (.type "type")) (hs_NoNet : PySem.W.subIn K (.ref C_NoNet) (.type "BaseException") = some true) (kC_NoNet : PySem.W.keepIn K (.ref C_NoNet) = true) {nm_NoNet q_NoNet : Str} {N_NoNet : Addr} {bs_NoNet bm_NoNet : List Value} {sn_NoNet : List Str} {sub_NoNet : List Value} {ab_NoNet : Bool} {col_NoNet : Option Bool} {dd_NoNet : Option Addr} {m0_NoNet m1_NoNet m2_NoNet m3_NoNet m5_NoNet : Option Value} (xL_NoNet : K.lookup C_NoNet = some (excClassObj nm_NoNet q_NoNet C_NoNet N_NoNet bs_NoNet bm_NoNet true sn_NoNet sub_NoNet ab_NoNet col_NoNet dd_NoNet m0_NoNet m1_NoNet m2_NoNet m3_NoNet m5_NoNet "ValueError.__new__")) (xb_NoNet : PySem.HandSPX.refsVE bm_NoNet = true) (sa_NoNet : PySem.W.findIn K (.ref C_NoNet) "__setattr__" = some (some (.builtin "object.__setattr__")))
    {C_NoPart : Addr} (aC_NoPart : PySem.W.nsIn K mainGlobals "NoPart" = some (some (.ref C_NoPart))) (hd_NoPart : PySem.W.hasDictIn K C_NoPart = true) (ty_NoPart : PySem.W.typeIn K (.ref C_NoPart) = some (.type "type")) (hs_NoPart : PySem.W.subIn K (.ref C_NoPart) (.type "BaseException") = some true) (kC_NoPart : PySem.W.keepIn K (.ref C_NoPart) = true) (ex_NoPart : PySem.W.excIn K C_NoPart [.type "ValueError", .type "Exception", .type "BaseException", .type "object"] "ValueError.__new__" = true)
    {C_NoPlace : Addr} (aC_NoPlace : PySem.W.nsIn K mainGlobals "NoPlace" = some (some (.ref C_NoPlace))) (hd_NoPlace : PySem.W.hasDictIn K C_NoPlace = true) (ty_NoPlace : PySem.W.typeIn K (.ref C_NoPlace) = some (.type "type")) (hs_NoPlace : PySem.W.subIn K (.ref C_NoPlace) (.type "BaseException") = some true) (kC_NoPlace : PySem.W.keepIn K (.ref C_NoPlace) = true) {nm_NoPlace q_NoPlace : Str} {N_NoPlace : Addr} {bs_NoPlace bm_NoPlace : List Value} {sn_NoPlace : List Str} {sub_NoPlace : List Value} {ab_NoPlace : Bool} {col_NoPlace : Option Bool} {dd_NoPlace : Option Addr} {m0_NoPlace m1_NoPlace m2_NoPlace m3_NoPlace m5_NoPlace : Option Value} (xL_NoPlace : K.lookup C_NoPlace = some (excClassObj nm_NoPlace q_NoPlace C_NoPlace N_NoPlace bs_NoPlace bm_NoPlace true sn_NoPlace sub_NoPlace ab_NoPlace col_NoPlace dd_NoPlace m0_NoPlace m1_NoPlace m2_NoPlace m3_NoPlace m5_NoPlace "ValueError.__new__")) (xb_NoPlace : PySem.HandSPX.refsVE bm_NoPlace = true) (sa_NoPlace : PySem.W.findIn K (.ref C_NoPlace) "__setattr__" = some (some (.builtin "object.__setattr__")))
    {C_NoRoom : Addr} (aC_NoRoom : PySem.W.nsIn K mainGlobals "NoRoom" = some (some (.ref C_NoRoom))) (hd_NoRoom : PySem.W.hasDictIn K C_NoRoom = true) (ty_NoRoom : PySem.W.typeIn K (.ref C_NoRoom) = some (.type "type")) (hs_NoRoom : PySem.W.subIn K (.ref C_NoRoom) (.type "BaseException") = some true) (kC_NoRoom : PySem.W.keepIn K (.ref C_NoRoom) = true) {nm_NoRoom q_NoRoom : Str} {N_NoRoom : Addr} {bs_NoRoom bm_NoRoom : List Value} {sn_NoRoom : List Str} {sub_NoRoom : List Value} {ab_NoRoom : Bool} {col_NoRoom : Option Bool} {dd_NoRoom : Option Addr} {m0_NoRoom m1_NoRoom m2_NoRoom m3_NoRoom m5_NoRoom : Option Value} (xL_NoRoom : K.lookup C_NoRoom = some (excClassObj nm_NoRoom q_NoRoom C_NoRoom N_NoRoom bs_NoRoom bm_NoRoom true sn_NoRoom sub_NoRoom ab_NoRoom col_NoRoom dd_NoRoom m0_NoRoom m1_NoRoom m2_NoRoom m3_NoRoom m5_NoRoom "ValueError.__new__")) (xb_NoRoom : PySem.HandSPX.refsVE bm_NoRoom = true) (sa_NoRoom : PySem.W.findIn K (.ref C_NoRoom) "__setattr__" = some (some (.builtin "object.__setattr__")))
    {C_NoState : Addr} (aC_NoState : PySem.W.nsIn K mainGlobals "NoState" = some (some (.ref C_NoState))) (hd_NoState : PySem.W.hasDictIn K C_NoState = true) (ty_NoState : PySem.W.typeIn K (.ref C_NoState) = some (.type "type")) (hs_NoState : PySem.W.subIn K (.ref C_NoState) (.type "BaseException") = some true) (kC_NoState : PySem.W.keepIn K (.ref C_NoState) = true) {nm_NoState q_NoState : Str} {N_NoState : Addr} {bs_NoState bm_NoState : List Value} {sn_NoState : List Str} {sub_NoState : List Value} {ab_NoState : Bool} {col_NoState : Option Bool} {dd_NoState : Option Addr} {m0_NoState m1_NoState m2_NoState m3_NoState m5_NoState : Option Value} (xL_NoState : K.lookup C_NoState = some (excClassObj nm_NoState q_NoState C_NoState N_NoState bs_NoState bm_NoState true sn_NoState sub_NoState ab_NoState col_NoState dd_NoState m0_NoState m1_NoState m2_NoState m3_NoState m5_NoState "ValueError.__new__")) (xb_NoState : PySem.HandSPX.refsVE bm_NoState = true) (sa_NoState : PySem.W.findIn K (.ref C_NoState) "__setattr__" = some (some (.builtin "object.__setattr__")))
    {C_NoText : Addr} (aC_NoText : PySem.W.nsIn K mainGlobals "NoText" = some (some (.ref C_NoText))) (hd_NoText : PySem.W.hasDictIn K C_NoText = true) (ty_NoText : PySem.W.typeIn K (.ref C_NoText) = some (.type "type")) (hs_NoText : PySem.W.subIn K (.ref C_NoText) (.type "BaseException") = some true) (kC_NoText : PySem.W.keepIn K (.ref C_NoText) = true) {nm_NoText q_NoText : Str} {N_NoText : Addr} {bs_NoText bm_NoText : List Value} {sn_NoText : List Str} {sub_NoText : List Value} {ab_NoText : Bool} {col_NoText : Option Bool} {dd_NoText : Option Addr} {m0_NoText m1_NoText m2_NoText m3_NoText m5_NoText : Option Value} (xL_NoText : K.lookup C_NoText = some (excClassObj nm_NoText q_NoText C_NoText N_NoText bs_NoText bm_NoText true sn_NoText sub_NoText ab_NoText col_NoText dd_NoText m0_NoText m1_NoText m2_NoText m3_NoText m5_NoText "ValueError.__new__")) (xb_NoText : PySem.HandSPX.refsVE bm_NoText = true) (sa_NoText : PySem.W.findIn K (.ref C_NoText) "__setattr__" = some (some (.builtin "object.__setattr__")))
    {C_NoTitle : Addr} (aC_NoTitle : PySem.W.nsIn K mainGlobals "NoTitle" = some (some (.ref C_NoTitle))) (hd_NoTitle : PySem.W.hasDictIn K C_NoTitle = true) (ty_NoTitle : PySem.W.typeIn K (.ref C_NoTitle) = some (.type "type")) (hs_NoTitle : PySem.W.subIn K (.ref C_NoTitle) (.type "BaseException") = some true) (kC_NoTitle : PySem.W.keepIn K (.ref C_NoTitle) = true) (ex_NoTitle : PySem.W.excIn K C_NoTitle [.type "ValueError", .type "Exception", .type "BaseException", .type "object"] "ValueError.__new__" = true)
    {C_NoWait : Addr} (aC_NoWait : PySem.W.nsIn K mainGlobals "NoWait" = some (some (.ref C_NoWait))) (hd_NoWait : PySem.W.hasDictIn K C_NoWait = true) (ty_NoWait : PySem.W.typeIn K (.ref C_NoWait) = some (.type "type")) (hs_NoWait : PySem.W.subIn K (.ref C_NoWait) (.type "BaseException") = some true) (kC_NoWait : PySem.W.keepIn K (.ref C_NoWait) = true) (ex_NoWait : PySem.W.excIn K C_NoWait [.type "ValueError", .type "Exception", .type "BaseException", .type "object"] "ValueError.__new__" = true)
    {C_NoWay : Addr} (aC_NoWay : PySem.W.nsIn K mainGlobals "NoWay" = some (some (.ref C_NoWay))) (hd_NoWay : PySem.W.hasDictIn K C_NoWay = true) (ty_NoWay : PySem.W.typeIn K (.ref C_NoWay) = some (.type "type")) (hs_NoWay : PySem.W.subIn K (.ref C_NoWay) (.type "BaseException") = some true) (kC_NoWay : PySem.W.keepIn K (.ref C_NoWay) = true) (ex_NoWay : PySem.W.excIn K C_NoWay [.type "ValueError", .type "Exception", .type "BaseException", .type "object"] "ValueError.__new__" = true)
    {C_NoWord : Addr} (aC_NoWord : PySem.W.nsIn K mainGlobals "NoWord" = some (some (.ref C_NoWord))) (hd_NoWord : PySem.W.hasDictIn K C_NoWord = true) (ty_NoWord : PySem.W.typeIn K (.ref C_NoWord) = some (.type "type")) (hs_NoWord : PySem.W.subIn K (.ref C_NoWord) (.type "BaseException") = some true) (kC_NoWord : PySem.W.keepIn K (.ref C_NoWord) = true) (ex_NoWord : PySem.W.excIn K C_NoWord [.type "ValueError", .type "Exception", .type "BaseException", .type "object"] "ValueError.__new__" = true)
    {C_Over : Addr} (aC_Over : PySem.W.nsIn K mainGlobals "Over" = some (some (.ref C_Over))) (hd_Over : PySem.W.hasDictIn K C_Over = true) (ty_Over : PySem.W.typeIn K (.ref C_Over) = some (.type "type")) (hs_Over : PySem.W.subIn K (.ref C_Over) (.type "BaseException") = some true) (kC_Over : PySem.W.keepIn K (.ref C_Over) = true) {nm_Over q_Over : Str} {N_Over : Addr} {bs_Over bm_Over : List Value} {sn_Over : List Str} {sub_Over : List Value} {ab_Over : Bool} {col_Over : Option Bool} {dd_Over : Option Addr} {m0_Over m1_Over m2_Over m3_Over m5_Over : Option Value} (xL_Over : K.lookup C_Over = some (excClassObj nm_Over q_Over C_Over N_Over bs_Over bm_Over true sn_Over sub_Over ab_Over col_Over dd_Over m0_Over m1_Over m2_Over m3_Over m5_Over "ValueError.__new__")) (xb_Over : PySem.HandSPX.refsVE bm_Over = true) (sa_Over : PySem.W.findIn K (.ref C_Over) "__setattr__" = some (some (.builtin "object.__setattr__")))
    {C_TooDeep : Addr} (aC_TooDeep : PySem.W.nsIn K mainGlobals "TooDeep" = some (some (.ref C_TooDeep))) (hd_TooDeep : PySem.W.hasDictIn K C_TooDeep = true) (ty_TooDeep : PySem.W.typeIn K (.ref C_TooDeep) = some (.type "type")) (hs_TooDeep : PySem.W.subIn K (.ref C_TooDeep) (.type "BaseException") = some true) (kC_TooDeep : PySem.W.keepIn K (.ref C_TooDeep) = true) (ex_TooDeep : PySem.W.excIn K C_TooDeep [.type "ValueError", .type "Exception", .type "BaseException", .type "object"] "ValueError.__new__" = true)
    {C_TooLong : Addr} (aC_TooLong : PySem.W.nsIn K mainGlobals "TooLong" = some (some (.ref C_TooLong))) (hd_TooLong : PySem.W.hasDictIn K C_TooLong = true) (ty_TooLong : PySem.W.typeIn K (.ref C_TooLong) = some (.type "type")) (hs_TooLong : PySem.W.subIn K (.ref C_TooLong) (.type "BaseException") = some true) (kC_TooLong : PySem.W.keepIn K (.ref C_TooLong) = true) (ex_TooLong : PySem.W.excIn K C_TooLong [.type "ValueError", .type "Exception", .type "BaseException", .type "object"] "ValueError.__new__" = true)
    {C_Twice : Addr} (aC_Twice : PySem.W.nsIn K mainGlobals "Twice" = some (some (.ref C_Twice))) (hd_Twice : PySem.W.hasDictIn K C_Twice = true) (ty_Twice : PySem.W.typeIn K (.ref C_Twice) = some (.type "type")) (hs_Twice : PySem.W.subIn K (.ref C_Twice) (.type "BaseException") = some true) (kC_Twice : PySem.W.keepIn K (.ref C_Twice) = true) {nm_Twice q_Twice : Str} {N_Twice : Addr} {bs_Twice bm_Twice : List Value} {sn_Twice : List Str} {sub_Twice : List Value} {ab_Twice : Bool} {col_Twice : Option Bool} {dd_Twice : Option Addr} {m0_Twice m1_Twice m2_Twice m3_Twice m5_Twice : Option Value} (xL_Twice : K.lookup C_Twice = some (excClassObj nm_Twice q_Twice C_Twice N_Twice bs_Twice bm_Twice true sn_Twice sub_Twice ab_Twice col_Twice dd_Twice m0_Twice m1_Twice m2_Twice m3_Twice m5_Twice "ValueError.__new__")) (xb_Twice : PySem.HandSPX.refsVE bm_Twice = true) (sa_Twice : PySem.W.findIn K (.ref C_Twice) "__setattr__" = some (some (.builtin "object.__setattr__")))
    (oc_n : PySem.W.specialIn K (.builtin "object.__class__") "__get__" = some (some (.builtin "getset_descriptor.__get__"))) (oc_t : PySem.W.takesIn K (.builtin "object.__class__") = some true)
    {f0 : Addr} {od0 an0 : Option Addr} {sl0 : Array (Option Value)} {oc0 kV0 dc0 pm0 cd0 ct0 : Value}
    (a0 : PySem.W.nsIn K mainGlobals "fresh" = some (some (.ref f0))) (l0 : K.lookup f0 = some ⟨oc0, od0, .func (PySem.W.fnOf "fresh" "fresh" (defArgs s_fresh) (defBody s_fresh) (defScope s_fresh) .none kV0 dc0 pm0 an0 cd0 ct0), sl0⟩) (e0 : PySem.W.codeIn K cd0 "fresh" = true) (k0 : PySem.W.keepIn K (.ref f0) = true)
    {f17 : Addr} {od17 an17 : Option Addr} {sl17 : Array (Option Value)} {oc17 kV17 dc17 pm17 cd17 ct17 : Value}
    (a17 : PySem.W.nsIn K mainGlobals "_law_purse" = some (some (.ref f17))) (l17 : K.lookup f17 = some ⟨oc17, od17, .func (PySem.W.fnOf "_law_purse" "_law_purse" (defArgs s_law_purse) (defBody s_law_purse) (defScope s_law_purse) .none kV17 dc17 pm17 an17 cd17 ct17), sl17⟩) (e17 : PySem.W.codeIn K cd17 "_law_purse" = true) (k17 : PySem.W.keepIn K (.ref f17) = true)
    {f18 : Addr} {od18 an18 : Option Addr} {sl18 : Array (Option Value)} {oc18 kV18 dc18 pm18 cd18 ct18 : Value}
    (a18 : PySem.W.nsIn K mainGlobals "_law_draw" = some (some (.ref f18))) (l18 : K.lookup f18 = some ⟨oc18, od18, .func (PySem.W.fnOf "_law_draw" "_law_draw" (defArgs s_law_draw) (defBody s_law_draw) (defScope s_law_draw) .none kV18 dc18 pm18 an18 cd18 ct18), sl18⟩) (e18 : PySem.W.codeIn K cd18 "_law_draw" = true) (k18 : PySem.W.keepIn K (.ref f18) = true)
    {f19 : Addr} {od19 an19 : Option Addr} {sl19 : Array (Option Value)} {oc19 kV19 dc19 pm19 cd19 ct19 : Value}
    (a19 : PySem.W.nsIn K mainGlobals "_law_thing" = some (some (.ref f19))) (l19 : K.lookup f19 = some ⟨oc19, od19, .func (PySem.W.fnOf "_law_thing" "_law_thing" (defArgs s_law_thing) (defBody s_law_thing) (defScope s_law_thing) .none kV19 dc19 pm19 an19 cd19 ct19), sl19⟩) (e19 : PySem.W.codeIn K cd19 "_law_thing" = true) (k19 : PySem.W.keepIn K (.ref f19) = true)
    {f20 : Addr} {od20 an20 : Option Addr} {sl20 : Array (Option Value)} {oc20 kV20 dc20 pm20 cd20 ct20 : Value}
    (a20 : PySem.W.nsIn K mainGlobals "_law_marks" = some (some (.ref f20))) (l20 : K.lookup f20 = some ⟨oc20, od20, .func (PySem.W.fnOf "_law_marks" "_law_marks" (defArgs s_law_marks) (defBody s_law_marks) (defScope s_law_marks) .none kV20 dc20 pm20 an20 cd20 ct20), sl20⟩) (e20 : PySem.W.codeIn K cd20 "_law_marks" = true) (k20 : PySem.W.keepIn K (.ref f20) = true)
    {f21 : Addr} {od21 an21 : Option Addr} {sl21 : Array (Option Value)} {oc21 kV21 dc21 pm21 cd21 ct21 : Value}
    (a21 : PySem.W.nsIn K mainGlobals "_law_first" = some (some (.ref f21))) (l21 : K.lookup f21 = some ⟨oc21, od21, .func (PySem.W.fnOf "_law_first" "_law_first" (defArgs s_law_first) (defBody s_law_first) (defScope s_law_first) .none kV21 dc21 pm21 an21 cd21 ct21), sl21⟩) (e21 : PySem.W.codeIn K cd21 "_law_first" = true) (k21 : PySem.W.keepIn K (.ref f21) = true)
    {f22 : Addr} {od22 an22 : Option Addr} {sl22 : Array (Option Value)} {oc22 kV22 dc22 pm22 cd22 ct22 : Value}
    (a22 : PySem.W.nsIn K mainGlobals "_law_second" = some (some (.ref f22))) (l22 : K.lookup f22 = some ⟨oc22, od22, .func (PySem.W.fnOf "_law_second" "_law_second" (defArgs s_law_second) (defBody s_law_second) (defScope s_law_second) .none kV22 dc22 pm22 an22 cd22 ct22), sl22⟩) (e22 : PySem.W.codeIn K cd22 "_law_second" = true) (k22 : PySem.W.keepIn K (.ref f22) = true)
    {f23 : Addr} {od23 an23 : Option Addr} {sl23 : Array (Option Value)} {oc23 kV23 dc23 pm23 cd23 ct23 : Value}
    (a23 : PySem.W.nsIn K mainGlobals "_law_third" = some (some (.ref f23))) (l23 : K.lookup f23 = some ⟨oc23, od23, .func (PySem.W.fnOf "_law_third" "_law_third" (defArgs s_law_third) (defBody s_law_third) (defScope s_law_third) .none kV23 dc23 pm23 an23 cd23 ct23), sl23⟩) (e23 : PySem.W.codeIn K cd23 "_law_third" = true) (k23 : PySem.W.keepIn K (.ref f23) = true)
    {f24 : Addr} {od24 an24 : Option Addr} {sl24 : Array (Option Value)} {oc24 kV24 dc24 pm24 cd24 ct24 : Value}
    (a24 : PySem.W.nsIn K mainGlobals "_law_fourth" = some (some (.ref f24))) (l24 : K.lookup f24 = some ⟨oc24, od24, .func (PySem.W.fnOf "_law_fourth" "_law_fourth" (defArgs s_law_fourth) (defBody s_law_fourth) (defScope s_law_fourth) .none kV24 dc24 pm24 an24 cd24 ct24), sl24⟩) (e24 : PySem.W.codeIn K cd24 "_law_fourth" = true) (k24 : PySem.W.keepIn K (.ref f24) = true)
    {f25 : Addr} {od25 an25 : Option Addr} {sl25 : Array (Option Value)} {oc25 kV25 dc25 pm25 cd25 ct25 : Value}
    (a25 : PySem.W.nsIn K mainGlobals "_law_caught" = some (some (.ref f25))) (l25 : K.lookup f25 = some ⟨oc25, od25, .func (PySem.W.fnOf "_law_caught" "_law_caught" (defArgs s_law_caught) (defBody s_law_caught) (defScope s_law_caught) .none kV25 dc25 pm25 an25 cd25 ct25), sl25⟩) (e25 : PySem.W.codeIn K cd25 "_law_caught" = true) (k25 : PySem.W.keepIn K (.ref f25) = true)
    {f26 : Addr} {od26 an26 : Option Addr} {sl26 : Array (Option Value)} {oc26 kV26 dc26 pm26 cd26 ct26 : Value}
    (a26 : PySem.W.nsIn K mainGlobals "_law_borne" = some (some (.ref f26))) (l26 : K.lookup f26 = some ⟨oc26, od26, .func (PySem.W.fnOf "_law_borne" "_law_borne" (defArgs s_law_borne) (defBody s_law_borne) (defScope s_law_borne) .none kV26 dc26 pm26 an26 cd26 ct26), sl26⟩) (e26 : PySem.W.codeIn K cd26 "_law_borne" = true) (k26 : PySem.W.keepIn K (.ref f26) = true)
    {f27 : Addr} {od27 an27 : Option Addr} {sl27 : Array (Option Value)} {oc27 kV27 dc27 pm27 cd27 ct27 : Value}
    (a27 : PySem.W.nsIn K mainGlobals "law" = some (some (.ref f27))) (l27 : K.lookup f27 = some ⟨oc27, od27, .func (PySem.W.fnOf "law" "law" (defArgs s_law) (defBody s_law) (defScope s_law) .none kV27 dc27 pm27 an27 cd27 ct27), sl27⟩) (e27 : PySem.W.codeIn K cd27 "law" = true) (k27 : PySem.W.keepIn K (.ref f27) = true)
    {f1 : Addr} {od1 an1 : Option Addr} {sl1 : Array (Option Value)} {oc1 kV1 dc1 pm1 cd1 ct1 : Value}
    (a1 : PySem.W.findIn K (.ref C_Dry) "__init__" = some (some (.ref f1))) (l1 : K.lookup f1 = some ⟨oc1, od1, .func (PySem.W.fnOf "__init__" "Dry.__init__" (defArgs s_Dry_init) (defBody s_Dry_init) (defScope s_Dry_init) .none kV1 dc1 pm1 an1 cd1 ct1), sl1⟩) (e1 : PySem.W.codeIn K cd1 "Dry.__init__" = true) (k1 : PySem.W.keepIn K (.ref f1) = true) (ti1 : PySem.W.typeIn K (.ref f1) = some (.type "function"))
    {f2 : Addr} {od2 an2 : Option Addr} {sl2 : Array (Option Value)} {oc2 kV2 dc2 pm2 cd2 ct2 : Value}
    (a2 : PySem.W.findIn K (.ref C_NoBeat) "__init__" = some (some (.ref f2))) (l2 : K.lookup f2 = some ⟨oc2, od2, .func (PySem.W.fnOf "__init__" "NoBeat.__init__" (defArgs s_NoBeat_init) (defBody s_NoBeat_init) (defScope s_NoBeat_init) .none kV2 dc2 pm2 an2 cd2 ct2), sl2⟩) (e2 : PySem.W.codeIn K cd2 "NoBeat.__init__" = true) (k2 : PySem.W.keepIn K (.ref f2) = true) (ti2 : PySem.W.typeIn K (.ref f2) = some (.type "function"))
    {f3 : Addr} {od3 an3 : Option Addr} {sl3 : Array (Option Value)} {oc3 kV3 dc3 pm3 cd3 ct3 : Value}
    (a3 : PySem.W.findIn K (.ref C_NoBook) "__init__" = some (some (.ref f3))) (l3 : K.lookup f3 = some ⟨oc3, od3, .func (PySem.W.fnOf "__init__" "NoBook.__init__" (defArgs s_NoBook_init) (defBody s_NoBook_init) (defScope s_NoBook_init) .none kV3 dc3 pm3 an3 cd3 ct3), sl3⟩) (e3 : PySem.W.codeIn K cd3 "NoBook.__init__" = true) (k3 : PySem.W.keepIn K (.ref f3) = true) (ti3 : PySem.W.typeIn K (.ref f3) = some (.type "function"))
    {f4 : Addr} {od4 an4 : Option Addr} {sl4 : Array (Option Value)} {oc4 kV4 dc4 pm4 cd4 ct4 : Value}
    (a4 : PySem.W.findIn K (.ref C_NoDeed) "__init__" = some (some (.ref f4))) (l4 : K.lookup f4 = some ⟨oc4, od4, .func (PySem.W.fnOf "__init__" "NoDeed.__init__" (defArgs s_NoDeed_init) (defBody s_NoDeed_init) (defScope s_NoDeed_init) .none kV4 dc4 pm4 an4 cd4 ct4), sl4⟩) (e4 : PySem.W.codeIn K cd4 "NoDeed.__init__" = true) (k4 : PySem.W.keepIn K (.ref f4) = true) (ti4 : PySem.W.typeIn K (.ref f4) = some (.type "function"))
    {f5 : Addr} {od5 an5 : Option Addr} {sl5 : Array (Option Value)} {oc5 kV5 dc5 pm5 cd5 ct5 : Value}
    (a5 : PySem.W.findIn K (.ref C_NoFace) "__init__" = some (some (.ref f5))) (l5 : K.lookup f5 = some ⟨oc5, od5, .func (PySem.W.fnOf "__init__" "NoFace.__init__" (defArgs s_NoFace_init) (defBody s_NoFace_init) (defScope s_NoFace_init) .none kV5 dc5 pm5 an5 cd5 ct5), sl5⟩) (e5 : PySem.W.codeIn K cd5 "NoFace.__init__" = true) (k5 : PySem.W.keepIn K (.ref f5) = true) (ti5 : PySem.W.typeIn K (.ref f5) = some (.type "function"))
    {f6 : Addr} {od6 an6 : Option Addr} {sl6 : Array (Option Value)} {oc6 kV6 dc6 pm6 cd6 ct6 : Value}
    (a6 : PySem.W.findIn K (.ref C_NoFlow) "__init__" = some (some (.ref f6))) (l6 : K.lookup f6 = some ⟨oc6, od6, .func (PySem.W.fnOf "__init__" "NoFlow.__init__" (defArgs s_NoFlow_init) (defBody s_NoFlow_init) (defScope s_NoFlow_init) .none kV6 dc6 pm6 an6 cd6 ct6), sl6⟩) (e6 : PySem.W.codeIn K cd6 "NoFlow.__init__" = true) (k6 : PySem.W.keepIn K (.ref f6) = true) (ti6 : PySem.W.typeIn K (.ref f6) = some (.type "function"))
    {f7 : Addr} {od7 an7 : Option Addr} {sl7 : Array (Option Value)} {oc7 kV7 dc7 pm7 cd7 ct7 : Value}
    (a7 : PySem.W.findIn K (.ref C_NoLoop) "__init__" = some (some (.ref f7))) (l7 : K.lookup f7 = some ⟨oc7, od7, .func (PySem.W.fnOf "__init__" "NoLoop.__init__" (defArgs s_NoLoop_init) (defBody s_NoLoop_init) (defScope s_NoLoop_init) .none kV7 dc7 pm7 an7 cd7 ct7), sl7⟩) (e7 : PySem.W.codeIn K cd7 "NoLoop.__init__" = true) (k7 : PySem.W.keepIn K (.ref f7) = true) (ti7 : PySem.W.typeIn K (.ref f7) = some (.type "function"))
    {f8 : Addr} {od8 an8 : Option Addr} {sl8 : Array (Option Value)} {oc8 kV8 dc8 pm8 cd8 ct8 : Value}
    (a8 : PySem.W.findIn K (.ref C_NoModule) "__init__" = some (some (.ref f8))) (l8 : K.lookup f8 = some ⟨oc8, od8, .func (PySem.W.fnOf "__init__" "NoModule.__init__" (defArgs s_NoModule_init) (defBody s_NoModule_init) (defScope s_NoModule_init) .none kV8 dc8 pm8 an8 cd8 ct8), sl8⟩) (e8 : PySem.W.codeIn K cd8 "NoModule.__init__" = true) (k8 : PySem.W.keepIn K (.ref f8) = true) (ti8 : PySem.W.typeIn K (.ref f8) = some (.type "function"))
    {f9 : Addr} {od9 an9 : Option Addr} {sl9 : Array (Option Value)} {oc9 kV9 dc9 pm9 cd9 ct9 : Value}
    (a9 : PySem.W.findIn K (.ref C_NoName) "__init__" = some (some (.ref f9))) (l9 : K.lookup f9 = some ⟨oc9, od9, .func (PySem.W.fnOf "__init__" "NoName.__init__" (defArgs s_NoName_init) (defBody s_NoName_init) (defScope s_NoName_init) .none kV9 dc9 pm9 an9 cd9 ct9), sl9⟩) (e9 : PySem.W.codeIn K cd9 "NoName.__init__" = true) (k9 : PySem.W.keepIn K (.ref f9) = true) (ti9 : PySem.W.typeIn K (.ref f9) = some (.type "function"))
    {f10 : Addr} {od10 an10 : Option Addr} {sl10 : Array (Option Value)} {oc10 kV10 dc10 pm10 cd10 ct10 : Value}
    (a10 : PySem.W.findIn K (.ref C_NoNet) "__init__" = some (some (.ref f10))) (l10 : K.lookup f10 = some ⟨oc10, od10, .func (PySem.W.fnOf "__init__" "NoNet.__init__" (defArgs s_NoNet_init) (defBody s_NoNet_init) (defScope s_NoNet_init) .none kV10 dc10 pm10 an10 cd10 ct10), sl10⟩) (e10 : PySem.W.codeIn K cd10 "NoNet.__init__" = true) (k10 : PySem.W.keepIn K (.ref f10) = true) (ti10 : PySem.W.typeIn K (.ref f10) = some (.type "function"))
    {f11 : Addr} {od11 an11 : Option Addr} {sl11 : Array (Option Value)} {oc11 kV11 dc11 pm11 cd11 ct11 : Value}
    (a11 : PySem.W.findIn K (.ref C_NoPlace) "__init__" = some (some (.ref f11))) (l11 : K.lookup f11 = some ⟨oc11, od11, .func (PySem.W.fnOf "__init__" "NoPlace.__init__" (defArgs s_NoPlace_init) (defBody s_NoPlace_init) (defScope s_NoPlace_init) .none kV11 dc11 pm11 an11 cd11 ct11), sl11⟩) (e11 : PySem.W.codeIn K cd11 "NoPlace.__init__" = true) (k11 : PySem.W.keepIn K (.ref f11) = true) (ti11 : PySem.W.typeIn K (.ref f11) = some (.type "function"))
    {f12 : Addr} {od12 an12 : Option Addr} {sl12 : Array (Option Value)} {oc12 kV12 dc12 pm12 cd12 ct12 : Value}
    (a12 : PySem.W.findIn K (.ref C_NoRoom) "__init__" = some (some (.ref f12))) (l12 : K.lookup f12 = some ⟨oc12, od12, .func (PySem.W.fnOf "__init__" "NoRoom.__init__" (defArgs s_NoRoom_init) (defBody s_NoRoom_init) (defScope s_NoRoom_init) .none kV12 dc12 pm12 an12 cd12 ct12), sl12⟩) (e12 : PySem.W.codeIn K cd12 "NoRoom.__init__" = true) (k12 : PySem.W.keepIn K (.ref f12) = true) (ti12 : PySem.W.typeIn K (.ref f12) = some (.type "function"))
    {f13 : Addr} {od13 an13 : Option Addr} {sl13 : Array (Option Value)} {oc13 kV13 dc13 pm13 cd13 ct13 : Value}
    (a13 : PySem.W.findIn K (.ref C_NoState) "__init__" = some (some (.ref f13))) (l13 : K.lookup f13 = some ⟨oc13, od13, .func (PySem.W.fnOf "__init__" "NoState.__init__" (defArgs s_NoState_init) (defBody s_NoState_init) (defScope s_NoState_init) .none kV13 dc13 pm13 an13 cd13 ct13), sl13⟩) (e13 : PySem.W.codeIn K cd13 "NoState.__init__" = true) (k13 : PySem.W.keepIn K (.ref f13) = true) (ti13 : PySem.W.typeIn K (.ref f13) = some (.type "function"))
    {f14 : Addr} {od14 an14 : Option Addr} {sl14 : Array (Option Value)} {oc14 kV14 dc14 pm14 cd14 ct14 : Value}
    (a14 : PySem.W.findIn K (.ref C_NoText) "__init__" = some (some (.ref f14))) (l14 : K.lookup f14 = some ⟨oc14, od14, .func (PySem.W.fnOf "__init__" "NoText.__init__" (defArgs s_NoText_init) (defBody s_NoText_init) (defScope s_NoText_init) .none kV14 dc14 pm14 an14 cd14 ct14), sl14⟩) (e14 : PySem.W.codeIn K cd14 "NoText.__init__" = true) (k14 : PySem.W.keepIn K (.ref f14) = true) (ti14 : PySem.W.typeIn K (.ref f14) = some (.type "function"))
    {f15 : Addr} {od15 an15 : Option Addr} {sl15 : Array (Option Value)} {oc15 kV15 dc15 pm15 cd15 ct15 : Value}
    (a15 : PySem.W.findIn K (.ref C_Over) "__init__" = some (some (.ref f15))) (l15 : K.lookup f15 = some ⟨oc15, od15, .func (PySem.W.fnOf "__init__" "Over.__init__" (defArgs s_Over_init) (defBody s_Over_init) (defScope s_Over_init) .none kV15 dc15 pm15 an15 cd15 ct15), sl15⟩) (e15 : PySem.W.codeIn K cd15 "Over.__init__" = true) (k15 : PySem.W.keepIn K (.ref f15) = true) (ti15 : PySem.W.typeIn K (.ref f15) = some (.type "function"))
    {f16 : Addr} {od16 an16 : Option Addr} {sl16 : Array (Option Value)} {oc16 kV16 dc16 pm16 cd16 ct16 : Value}
    (a16 : PySem.W.findIn K (.ref C_Twice) "__init__" = some (some (.ref f16))) (l16 : K.lookup f16 = some ⟨oc16, od16, .func (PySem.W.fnOf "__init__" "Twice.__init__" (defArgs s_Twice_init) (defBody s_Twice_init) (defScope s_Twice_init) .none kV16 dc16 pm16 an16 cd16 ct16), sl16⟩) (e16 : PySem.W.codeIn K cd16 "Twice.__init__" = true) (k16 : PySem.W.keepIn K (.ref f16) = true) (ti16 : PySem.W.typeIn K (.ref f16) = some (.type "function"))
    (n_Dry_lane : PySem.W.findIn K (.ref C_Dry) "lane" = some none)
    (n_NoBeat_name : PySem.W.findIn K (.ref C_NoBeat) "name" = some none)
    (n_NoBook_wrong : PySem.W.findIn K (.ref C_NoBook) "wrong" = some none)
    (n_NoDeed_at : PySem.W.findIn K (.ref C_NoDeed) "at" = some none)
    (n_NoFace_paper : PySem.W.findIn K (.ref C_NoFace) "paper" = some none)
    (n_NoFlow_name : PySem.W.findIn K (.ref C_NoFlow) "name" = some none)
    (n_NoLoop_wrong : PySem.W.findIn K (.ref C_NoLoop) "wrong" = some none)
    (n_NoModule_wrong : PySem.W.findIn K (.ref C_NoModule) "wrong" = some none)
    (n_NoName_name : PySem.W.findIn K (.ref C_NoName) "name" = some none)
    (n_NoNet_wrong : PySem.W.findIn K (.ref C_NoNet) "wrong" = some none)
    (n_NoPlace_place : PySem.W.findIn K (.ref C_NoPlace) "place" = some none)
    (n_NoRoom_lane : PySem.W.findIn K (.ref C_NoRoom) "lane" = some none)
    (n_NoState_at : PySem.W.findIn K (.ref C_NoState) "at" = some none)
    (n_NoText_at : PySem.W.findIn K (.ref C_NoText) "at" = some none)
    (n_NoText_row : PySem.W.findIn K (.ref C_NoText) "row" = some none)
    (n_Over_lane : PySem.W.findIn K (.ref C_Over) "lane" = some none)
    (n_Twice_name : PySem.W.findIn K (.ref C_Twice) "name" = some none)
    (z_m_ValueError : PySem.W.nsIn K mainGlobals "ValueError" = some none)
    (z_m_dict : PySem.W.nsIn K mainGlobals "dict" = some none)
    (z_m_int : PySem.W.nsIn K mainGlobals "int" = some none)
    (z_m_isinstance : PySem.W.nsIn K mainGlobals "isinstance" = some none)
    (z_m_len : PySem.W.nsIn K mainGlobals "len" = some none)
    (z_m_list : PySem.W.nsIn K mainGlobals "list" = some none)
    (z_m_range : PySem.W.nsIn K mainGlobals "range" = some none)
    (z_m_str : PySem.W.nsIn K mainGlobals "str" = some none)
    (z_m_tuple : PySem.W.nsIn K mainGlobals "tuple" = some none)
    (f_subk : SubK K)
    (f_exk : ExAll K) :
    ∀ base : Heap, K.In base → base.Ns mainGlobals mg → WX.LawAt l.prog w K mg base fa 63 := by
  have e := hfa.symm.trans (PySem.W.mg_of X G a27)
  cases e
  intro base _ _
  have m_ValueError := PySem.W.mg_none_of X G z_m_ValueError
  have m_dict := PySem.W.mg_none_of X G z_m_dict
  have m_int := PySem.W.mg_none_of X G z_m_int
  have m_isinstance := PySem.W.mg_none_of X G z_m_isinstance
  have m_len := PySem.W.mg_none_of X G z_m_len
  have m_list := PySem.W.mg_none_of X G z_m_list
  have m_range := PySem.W.mg_none_of X G z_m_range
  have m_str := PySem.W.mg_none_of X G z_m_str
  have m_tuple := PySem.W.mg_none_of X G z_m_tuple
  have e_Dry : DCal K mg "Dry" C_Dry := ⟨PySem.W.mg_of X G aC_Dry, hd_Dry, ty_Dry, aC_Dry⟩
  have e_LoomError : ECal K mg "LoomError" C_LoomError := ⟨PySem.W.mg_of X G aC_LoomError, aC_LoomError, ⟨hg_LoomError, hk_LoomError, hs_LoomError, hd_LoomError, ha_LoomError, oc_n, oc_t, hm_LoomError⟩, ty_LoomError, ve_LoomError⟩
  have e_NoBack : DCal K mg "NoBack" C_NoBack := ⟨PySem.W.mg_of X G aC_NoBack, hd_NoBack, ty_NoBack, aC_NoBack⟩
  have e_NoBeat : DCal K mg "NoBeat" C_NoBeat := ⟨PySem.W.mg_of X G aC_NoBeat, hd_NoBeat, ty_NoBeat, aC_NoBeat⟩
  have e_NoBook : DCal K mg "NoBook" C_NoBook := ⟨PySem.W.mg_of X G aC_NoBook, hd_NoBook, ty_NoBook, aC_NoBook⟩
  have e_NoDeed : DCal K mg "NoDeed" C_NoDeed := ⟨PySem.W.mg_of X G aC_NoDeed, hd_NoDeed, ty_NoDeed, aC_NoDeed⟩
  have e_NoDrive : DCal K mg "NoDrive" C_NoDrive := ⟨PySem.W.mg_of X G aC_NoDrive, hd_NoDrive, ty_NoDrive, aC_NoDrive⟩
  have e_NoFace : DCal K mg "NoFace" C_NoFace := ⟨PySem.W.mg_of X G aC_NoFace, hd_NoFace, ty_NoFace, aC_NoFace⟩
  have e_NoFlow : DCal K mg "NoFlow" C_NoFlow := ⟨PySem.W.mg_of X G aC_NoFlow, hd_NoFlow, ty_NoFlow, aC_NoFlow⟩
  have e_NoLane : DCal K mg "NoLane" C_NoLane := ⟨PySem.W.mg_of X G aC_NoLane, hd_NoLane, ty_NoLane, aC_NoLane⟩
  have e_NoLine : DCal K mg "NoLine" C_NoLine := ⟨PySem.W.mg_of X G aC_NoLine, hd_NoLine, ty_NoLine, aC_NoLine⟩
  have e_NoLoop : DCal K mg "NoLoop" C_NoLoop := ⟨PySem.W.mg_of X G aC_NoLoop, hd_NoLoop, ty_NoLoop, aC_NoLoop⟩
  have e_NoMeasure : DCal K mg "NoMeasure" C_NoMeasure := ⟨PySem.W.mg_of X G aC_NoMeasure, hd_NoMeasure, ty_NoMeasure, aC_NoMeasure⟩
  have e_NoModule : DCal K mg "NoModule" C_NoModule := ⟨PySem.W.mg_of X G aC_NoModule, hd_NoModule, ty_NoModule, aC_NoModule⟩
  have e_NoName : DCal K mg "NoName" C_NoName := ⟨PySem.W.mg_of X G aC_NoName, hd_NoName, ty_NoName, aC_NoName⟩
  have e_NoNet : DCal K mg "NoNet" C_NoNet := ⟨PySem.W.mg_of X G aC_NoNet, hd_NoNet, ty_NoNet, aC_NoNet⟩
  have e_NoPart : DCal K mg "NoPart" C_NoPart := ⟨PySem.W.mg_of X G aC_NoPart, hd_NoPart, ty_NoPart, aC_NoPart⟩
  have e_NoPlace : DCal K mg "NoPlace" C_NoPlace := ⟨PySem.W.mg_of X G aC_NoPlace, hd_NoPlace, ty_NoPlace, aC_NoPlace⟩
  have e_NoRoom : DCal K mg "NoRoom" C_NoRoom := ⟨PySem.W.mg_of X G aC_NoRoom, hd_NoRoom, ty_NoRoom, aC_NoRoom⟩
  have e_NoState : DCal K mg "NoState" C_NoState := ⟨PySem.W.mg_of X G aC_NoState, hd_NoState, ty_NoState, aC_NoState⟩
  have e_NoText : DCal K mg "NoText" C_NoText := ⟨PySem.W.mg_of X G aC_NoText, hd_NoText, ty_NoText, aC_NoText⟩
  have e_NoTitle : DCal K mg "NoTitle" C_NoTitle := ⟨PySem.W.mg_of X G aC_NoTitle, hd_NoTitle, ty_NoTitle, aC_NoTitle⟩
  have e_NoWait : DCal K mg "NoWait" C_NoWait := ⟨PySem.W.mg_of X G aC_NoWait, hd_NoWait, ty_NoWait, aC_NoWait⟩
  have e_NoWay : DCal K mg "NoWay" C_NoWay := ⟨PySem.W.mg_of X G aC_NoWay, hd_NoWay, ty_NoWay, aC_NoWay⟩
  have e_NoWord : DCal K mg "NoWord" C_NoWord := ⟨PySem.W.mg_of X G aC_NoWord, hd_NoWord, ty_NoWord, aC_NoWord⟩
  have e_Over : DCal K mg "Over" C_Over := ⟨PySem.W.mg_of X G aC_Over, hd_Over, ty_Over, aC_Over⟩
  have e_TooDeep : DCal K mg "TooDeep" C_TooDeep := ⟨PySem.W.mg_of X G aC_TooDeep, hd_TooDeep, ty_TooDeep, aC_TooDeep⟩
  have e_TooLong : DCal K mg "TooLong" C_TooLong := ⟨PySem.W.mg_of X G aC_TooLong, hd_TooLong, ty_TooLong, aC_TooLong⟩
  have e_Twice : DCal K mg "Twice" C_Twice := ⟨PySem.W.mg_of X G aC_Twice, hd_Twice, ty_Twice, aC_Twice⟩
  have y_NoBack : YCal K mg "NoBack" C_NoBack := ⟨ex_NoBack, PySem.W.mg_of X G aC_NoBack, kC_NoBack, hs_NoBack, ty_NoBack, aC_NoBack⟩
  have y_NoDrive : YCal K mg "NoDrive" C_NoDrive := ⟨ex_NoDrive, PySem.W.mg_of X G aC_NoDrive, kC_NoDrive, hs_NoDrive, ty_NoDrive, aC_NoDrive⟩
  have y_NoLane : YCal K mg "NoLane" C_NoLane := ⟨ex_NoLane, PySem.W.mg_of X G aC_NoLane, kC_NoLane, hs_NoLane, ty_NoLane, aC_NoLane⟩
  have y_NoLine : YCal K mg "NoLine" C_NoLine := ⟨ex_NoLine, PySem.W.mg_of X G aC_NoLine, kC_NoLine, hs_NoLine, ty_NoLine, aC_NoLine⟩
  have y_NoMeasure : YCal K mg "NoMeasure" C_NoMeasure := ⟨ex_NoMeasure, PySem.W.mg_of X G aC_NoMeasure, kC_NoMeasure, hs_NoMeasure, ty_NoMeasure, aC_NoMeasure⟩
  have y_NoPart : YCal K mg "NoPart" C_NoPart := ⟨ex_NoPart, PySem.W.mg_of X G aC_NoPart, kC_NoPart, hs_NoPart, ty_NoPart, aC_NoPart⟩
  have y_NoTitle : YCal K mg "NoTitle" C_NoTitle := ⟨ex_NoTitle, PySem.W.mg_of X G aC_NoTitle, kC_NoTitle, hs_NoTitle, ty_NoTitle, aC_NoTitle⟩
  have y_NoWait : YCal K mg "NoWait" C_NoWait := ⟨ex_NoWait, PySem.W.mg_of X G aC_NoWait, kC_NoWait, hs_NoWait, ty_NoWait, aC_NoWait⟩
  have y_NoWay : YCal K mg "NoWay" C_NoWay := ⟨ex_NoWay, PySem.W.mg_of X G aC_NoWay, kC_NoWay, hs_NoWay, ty_NoWay, aC_NoWay⟩
  have y_NoWord : YCal K mg "NoWord" C_NoWord := ⟨ex_NoWord, PySem.W.mg_of X G aC_NoWord, kC_NoWord, hs_NoWord, ty_NoWord, aC_NoWord⟩
  have y_TooDeep : YCal K mg "TooDeep" C_TooDeep := ⟨ex_TooDeep, PySem.W.mg_of X G aC_TooDeep, kC_TooDeep, hs_TooDeep, ty_TooDeep, aC_TooDeep⟩
  have y_TooLong : YCal K mg "TooLong" C_TooLong := ⟨ex_TooLong, PySem.W.mg_of X G aC_TooLong, kC_TooLong, hs_TooLong, ty_TooLong, aC_TooLong⟩
  have F17 := fun_mk (st := s_law_purse) l17 e17 k17
  have b17 := F17.binds (ps := ["_law_script"]) fun _ _ _ _ _ _ us hl => match us, hl with | [_], _ => rfl
  have c_law_purse : Cal l.prog w K mg base CX0 1 f17 _ "_law_purse" ["_law_script"] (sp_law_purse K) := ⟨ok_law_purse F17 , PySem.W.mg_of X G a17, k17, b17⟩
  have F18 := fun_mk (st := s_law_draw) l18 e18 k18
  have b18 := F18.binds (ps := ["_law_purse_here", "_law_out_of"]) fun _ _ _ _ _ _ us hl => match us, hl with | [_, _], _ => rfl
  have c_law_draw : Cal l.prog w K mg base CX0 1 f18 _ "_law_draw" ["_law_purse_here", "_law_out_of"] (sp_law_draw K) := ⟨ok_law_draw F18 m_len, PySem.W.mg_of X G a18, k18, b18⟩
  have F20 := fun_mk (st := s_law_marks) l20 e20 k20
  have b20 := F20.binds (ps := ["_law_caught_here"]) fun _ _ _ _ _ _ us hl => match us, hl with | [_], _ => rfl
  have c_law_marks : Cal l.prog w K mg base CX0 1 f20 _ "_law_marks" ["_law_caught_here"] (sp_law_marks K) := ⟨ok_law_marks F20 m_isinstance m_len m_range e_Dry e_NoBack e_NoBeat e_NoBook e_NoDeed e_NoDrive e_NoFace e_NoFlow e_NoLane e_NoLine e_NoLoop e_NoMeasure e_NoModule e_NoName e_NoNet e_NoPart e_NoPlace e_NoRoom e_NoState e_NoText e_NoTitle e_NoWait e_NoWay e_NoWord e_Over e_TooDeep e_TooLong e_Twice f_subk f_exk, PySem.W.mg_of X G a20, k20, b20⟩
  have F23 := fun_mk (st := s_law_third) l23 e23 k23
  have b23 := F23.binds (ps := ["_law_which"]) fun _ _ _ _ _ _ us hl => match us, hl with | [_], _ => rfl
  have c_law_third : Cal l.prog w K mg base (L2.CX l.prog w) 1 f23 _ "_law_third" ["_law_which"] (sp_law_third K) := ⟨ok_law_third F23 y_NoBack y_NoDrive y_NoLane y_NoLine y_NoMeasure y_NoPart y_NoTitle y_NoWait y_NoWay y_NoWord y_TooDeep y_TooLong, PySem.W.mg_of X G a23, k23, b23⟩
  have F24 := fun_mk (st := s_law_fourth) l24 e24 k24
  have b24 := F24.binds (ps := ["_law_which", "_law_line"]) fun _ _ _ _ _ _ us hl => match us, hl with | [_, _], _ => rfl
  have c_law_fourth : Cal l.prog w K mg base (L2.CX l.prog w) 1 f24 _ "_law_fourth" ["_law_which", "_law_line"] (sp_law_fourth K) := ⟨ok_law_fourth F24 y_NoBack y_NoDrive y_NoLane y_NoLine y_NoMeasure y_NoPart y_NoTitle y_NoWait y_NoWay y_NoWord y_TooDeep y_TooLong, PySem.W.mg_of X G a24, k24, b24⟩
  have F26 := fun_mk (st := s_law_borne) l26 e26 k26
  have b26 := F26.binds (ps := ["_law_which", "_law_caught_here"]) fun _ _ _ _ _ _ us hl => match us, hl with | [_, _], _ => rfl
  have c_law_borne : Cal l.prog w K mg base CX0 1 f26 _ "_law_borne" ["_law_which", "_law_caught_here"] (sp_law_borne K) := ⟨ok_law_borne F26 f_exk, PySem.W.mg_of X G a26, k26, b26⟩
  have F19 := fun_mk (st := s_law_thing) l19 e19 k19
  have b19 := F19.binds (ps := ["_law_purse_here", "_law_which"]) fun _ _ _ _ _ _ us hl => match us, hl with | [_, _], _ => rfl
  have c_law_thing : Cal l.prog w K mg base CX0 2 f19 _ "_law_thing" ["_law_purse_here", "_law_which"] (sp_law_thing K) := ⟨ok_law_thing F19 c_law_draw, PySem.W.mg_of X G a19, k19, b19⟩
  have F0 := fun_mk (st := s_fresh) l0 e0 k0
  have b0 := F0.binds (ps := ["thing"]) fun _ _ _ _ _ _ us hl => match us, hl with | [_], _ => rfl
  have c_fresh : Cal l.prog w K mg base CX0 6 f0 _ "fresh" ["thing"] (sp_fresh K) := ⟨ok_fresh (PySem.W.mg_of X G a0) F0 m_dict m_isinstance m_list m_tuple, PySem.W.mg_of X G a0, k0, b0⟩
  have F1 := fun_mk (st := s_Dry_init) l1 e1 k1
  have b1 := F1.binds (ps := ["self", "lane"]) fun _ _ _ _ _ _ us hl => match us, hl with | [_, _], _ => rfl
  have x_Dry : XCal l.prog w K mg base 7 "Dry" C_Dry f1 _ ["self", "lane"] ["lane"] (sp_Dry_init K) := ⟨⟨⟨_, _, _, _, _, _, _, _, _, _, _, _, _, _, _, xL_Dry, xb_Dry⟩, sa_Dry, hs_Dry, ty_Dry, kC_Dry⟩, a1, ti1, ok_Dry_init F1 c_fresh, b1, PySem.W.mg_of X G aC_Dry, aC_Dry, fun f hf => by
      simp only [List.mem_cons, List.not_mem_nil, or_false] at hf
      rcases hf with rfl
      · exact n_Dry_lane, kb_of (fun s u z => .of_eq rfl)⟩
  have F2 := fun_mk (st := s_NoBeat_init) l2 e2 k2
  have b2 := F2.binds (ps := ["self", "name"]) fun _ _ _ _ _ _ us hl => match us, hl with | [_, _], _ => rfl
  have x_NoBeat : XCal l.prog w K mg base 7 "NoBeat" C_NoBeat f2 _ ["self", "name"] ["name"] (sp_NoBeat_init K) := ⟨⟨⟨_, _, _, _, _, _, _, _, _, _, _, _, _, _, _, xL_NoBeat, xb_NoBeat⟩, sa_NoBeat, hs_NoBeat, ty_NoBeat, kC_NoBeat⟩, a2, ti2, ok_NoBeat_init F2 c_fresh, b2, PySem.W.mg_of X G aC_NoBeat, aC_NoBeat, fun f hf => by
      simp only [List.mem_cons, List.not_mem_nil, or_false] at hf
      rcases hf with rfl
      · exact n_NoBeat_name, kb_of (fun s u z => .of_eq rfl)⟩
  have F3 := fun_mk (st := s_NoBook_init) l3 e3 k3
  have b3 := F3.binds (ps := ["self", "wrong"]) fun _ _ _ _ _ _ us hl => match us, hl with | [_, _], _ => rfl
  have x_NoBook : XCal l.prog w K mg base 7 "NoBook" C_NoBook f3 _ ["self", "wrong"] ["wrong"] (sp_NoBook_init K) := ⟨⟨⟨_, _, _, _, _, _, _, _, _, _, _, _, _, _, _, xL_NoBook, xb_NoBook⟩, sa_NoBook, hs_NoBook, ty_NoBook, kC_NoBook⟩, a3, ti3, ok_NoBook_init F3 c_fresh, b3, PySem.W.mg_of X G aC_NoBook, aC_NoBook, fun f hf => by
      simp only [List.mem_cons, List.not_mem_nil, or_false] at hf
      rcases hf with rfl
      · exact n_NoBook_wrong, kb_of (fun s u z => .of_eq rfl)⟩
  have F4 := fun_mk (st := s_NoDeed_init) l4 e4 k4
  have b4 := F4.binds (ps := ["self", "at"]) fun _ _ _ _ _ _ us hl => match us, hl with | [_, _], _ => rfl
  have x_NoDeed : XCal l.prog w K mg base 7 "NoDeed" C_NoDeed f4 _ ["self", "at"] ["at"] (sp_NoDeed_init K) := ⟨⟨⟨_, _, _, _, _, _, _, _, _, _, _, _, _, _, _, xL_NoDeed, xb_NoDeed⟩, sa_NoDeed, hs_NoDeed, ty_NoDeed, kC_NoDeed⟩, a4, ti4, ok_NoDeed_init F4 c_fresh, b4, PySem.W.mg_of X G aC_NoDeed, aC_NoDeed, fun f hf => by
      simp only [List.mem_cons, List.not_mem_nil, or_false] at hf
      rcases hf with rfl
      · exact n_NoDeed_at, kb_of (fun s u z => .of_eq rfl)⟩
  have F5 := fun_mk (st := s_NoFace_init) l5 e5 k5
  have b5 := F5.binds (ps := ["self", "paper"]) fun _ _ _ _ _ _ us hl => match us, hl with | [_, _], _ => rfl
  have x_NoFace : XCal l.prog w K mg base 7 "NoFace" C_NoFace f5 _ ["self", "paper"] ["paper"] (sp_NoFace_init K) := ⟨⟨⟨_, _, _, _, _, _, _, _, _, _, _, _, _, _, _, xL_NoFace, xb_NoFace⟩, sa_NoFace, hs_NoFace, ty_NoFace, kC_NoFace⟩, a5, ti5, ok_NoFace_init F5 c_fresh, b5, PySem.W.mg_of X G aC_NoFace, aC_NoFace, fun f hf => by
      simp only [List.mem_cons, List.not_mem_nil, or_false] at hf
      rcases hf with rfl
      · exact n_NoFace_paper, kb_of (fun s u z => .of_eq rfl)⟩
  have F6 := fun_mk (st := s_NoFlow_init) l6 e6 k6
  have b6 := F6.binds (ps := ["self", "name"]) fun _ _ _ _ _ _ us hl => match us, hl with | [_, _], _ => rfl
  have x_NoFlow : XCal l.prog w K mg base 7 "NoFlow" C_NoFlow f6 _ ["self", "name"] ["name"] (sp_NoFlow_init K) := ⟨⟨⟨_, _, _, _, _, _, _, _, _, _, _, _, _, _, _, xL_NoFlow, xb_NoFlow⟩, sa_NoFlow, hs_NoFlow, ty_NoFlow, kC_NoFlow⟩, a6, ti6, ok_NoFlow_init F6 c_fresh, b6, PySem.W.mg_of X G aC_NoFlow, aC_NoFlow, fun f hf => by
      simp only [List.mem_cons, List.not_mem_nil, or_false] at hf
      rcases hf with rfl
      · exact n_NoFlow_name, kb_of (fun s u z => .of_eq rfl)⟩
  have F7 := fun_mk (st := s_NoLoop_init) l7 e7 k7
  have b7 := F7.binds (ps := ["self", "wrong"]) fun _ _ _ _ _ _ us hl => match us, hl with | [_, _], _ => rfl
  have x_NoLoop : XCal l.prog w K mg base 7 "NoLoop" C_NoLoop f7 _ ["self", "wrong"] ["wrong"] (sp_NoLoop_init K) := ⟨⟨⟨_, _, _, _, _, _, _, _, _, _, _, _, _, _, _, xL_NoLoop, xb_NoLoop⟩, sa_NoLoop, hs_NoLoop, ty_NoLoop, kC_NoLoop⟩, a7, ti7, ok_NoLoop_init F7 c_fresh, b7, PySem.W.mg_of X G aC_NoLoop, aC_NoLoop, fun f hf => by
      simp only [List.mem_cons, List.not_mem_nil, or_false] at hf
      rcases hf with rfl
      · exact n_NoLoop_wrong, kb_of (fun s u z => .of_eq rfl)⟩
  have F8 := fun_mk (st := s_NoModule_init) l8 e8 k8
  have b8 := F8.binds (ps := ["self", "wrong"]) fun _ _ _ _ _ _ us hl => match us, hl with | [_, _], _ => rfl
  have x_NoModule : XCal l.prog w K mg base 7 "NoModule" C_NoModule f8 _ ["self", "wrong"] ["wrong"] (sp_NoModule_init K) := ⟨⟨⟨_, _, _, _, _, _, _, _, _, _, _, _, _, _, _, xL_NoModule, xb_NoModule⟩, sa_NoModule, hs_NoModule, ty_NoModule, kC_NoModule⟩, a8, ti8, ok_NoModule_init F8 c_fresh, b8, PySem.W.mg_of X G aC_NoModule, aC_NoModule, fun f hf => by
      simp only [List.mem_cons, List.not_mem_nil, or_false] at hf
      rcases hf with rfl
      · exact n_NoModule_wrong, kb_of (fun s u z => .of_eq rfl)⟩
  have F9 := fun_mk (st := s_NoName_init) l9 e9 k9
  have b9 := F9.binds (ps := ["self", "name"]) fun _ _ _ _ _ _ us hl => match us, hl with | [_, _], _ => rfl
  have x_NoName : XCal l.prog w K mg base 7 "NoName" C_NoName f9 _ ["self", "name"] ["name"] (sp_NoName_init K) := ⟨⟨⟨_, _, _, _, _, _, _, _, _, _, _, _, _, _, _, xL_NoName, xb_NoName⟩, sa_NoName, hs_NoName, ty_NoName, kC_NoName⟩, a9, ti9, ok_NoName_init F9 c_fresh, b9, PySem.W.mg_of X G aC_NoName, aC_NoName, fun f hf => by
      simp only [List.mem_cons, List.not_mem_nil, or_false] at hf
      rcases hf with rfl
      · exact n_NoName_name, kb_of (fun s u z => .of_eq rfl)⟩
  have F10 := fun_mk (st := s_NoNet_init) l10 e10 k10
  have b10 := F10.binds (ps := ["self", "wrong"]) fun _ _ _ _ _ _ us hl => match us, hl with | [_, _], _ => rfl
  have x_NoNet : XCal l.prog w K mg base 7 "NoNet" C_NoNet f10 _ ["self", "wrong"] ["wrong"] (sp_NoNet_init K) := ⟨⟨⟨_, _, _, _, _, _, _, _, _, _, _, _, _, _, _, xL_NoNet, xb_NoNet⟩, sa_NoNet, hs_NoNet, ty_NoNet, kC_NoNet⟩, a10, ti10, ok_NoNet_init F10 c_fresh, b10, PySem.W.mg_of X G aC_NoNet, aC_NoNet, fun f hf => by
      simp only [List.mem_cons, List.not_mem_nil, or_false] at hf
      rcases hf with rfl
      · exact n_NoNet_wrong, kb_of (fun s u z => .of_eq rfl)⟩
  have F11 := fun_mk (st := s_NoPlace_init) l11 e11 k11
  have b11 := F11.binds (ps := ["self", "place"]) fun _ _ _ _ _ _ us hl => match us, hl with | [_, _], _ => rfl
  have x_NoPlace : XCal l.prog w K mg base 7 "NoPlace" C_NoPlace f11 _ ["self", "place"] ["place"] (sp_NoPlace_init K) := ⟨⟨⟨_, _, _, _, _, _, _, _, _, _, _, _, _, _, _, xL_NoPlace, xb_NoPlace⟩, sa_NoPlace, hs_NoPlace, ty_NoPlace, kC_NoPlace⟩, a11, ti11, ok_NoPlace_init F11 c_fresh, b11, PySem.W.mg_of X G aC_NoPlace, aC_NoPlace, fun f hf => by
      simp only [List.mem_cons, List.not_mem_nil, or_false] at hf
      rcases hf with rfl
      · exact n_NoPlace_place, kb_of (fun s u z => .of_eq rfl)⟩
  have F12 := fun_mk (st := s_NoRoom_init) l12 e12 k12
  have b12 := F12.binds (ps := ["self", "lane"]) fun _ _ _ _ _ _ us hl => match us, hl with | [_, _], _ => rfl
  have x_NoRoom : XCal l.prog w K mg base 7 "NoRoom" C_NoRoom f12 _ ["self", "lane"] ["lane"] (sp_NoRoom_init K) := ⟨⟨⟨_, _, _, _, _, _, _, _, _, _, _, _, _, _, _, xL_NoRoom, xb_NoRoom⟩, sa_NoRoom, hs_NoRoom, ty_NoRoom, kC_NoRoom⟩, a12, ti12, ok_NoRoom_init F12 c_fresh, b12, PySem.W.mg_of X G aC_NoRoom, aC_NoRoom, fun f hf => by
      simp only [List.mem_cons, List.not_mem_nil, or_false] at hf
      rcases hf with rfl
      · exact n_NoRoom_lane, kb_of (fun s u z => .of_eq rfl)⟩
  have F13 := fun_mk (st := s_NoState_init) l13 e13 k13
  have b13 := F13.binds (ps := ["self", "at"]) fun _ _ _ _ _ _ us hl => match us, hl with | [_, _], _ => rfl
  have x_NoState : XCal l.prog w K mg base 7 "NoState" C_NoState f13 _ ["self", "at"] ["at"] (sp_NoState_init K) := ⟨⟨⟨_, _, _, _, _, _, _, _, _, _, _, _, _, _, _, xL_NoState, xb_NoState⟩, sa_NoState, hs_NoState, ty_NoState, kC_NoState⟩, a13, ti13, ok_NoState_init F13 c_fresh, b13, PySem.W.mg_of X G aC_NoState, aC_NoState, fun f hf => by
      simp only [List.mem_cons, List.not_mem_nil, or_false] at hf
      rcases hf with rfl
      · exact n_NoState_at, kb_of (fun s u z => .of_eq rfl)⟩
  have F14 := fun_mk (st := s_NoText_init) l14 e14 k14
  have b14 := F14.binds (ps := ["self", "row", "at"]) fun _ _ _ _ _ _ us hl => match us, hl with | [_, _, _], _ => rfl
  have x_NoText : XCal l.prog w K mg base 7 "NoText" C_NoText f14 _ ["self", "row", "at"] ["row", "at"] (sp_NoText_init K) := ⟨⟨⟨_, _, _, _, _, _, _, _, _, _, _, _, _, _, _, xL_NoText, xb_NoText⟩, sa_NoText, hs_NoText, ty_NoText, kC_NoText⟩, a14, ti14, ok_NoText_init F14 c_fresh, b14, PySem.W.mg_of X G aC_NoText, aC_NoText, fun f hf => by
      simp only [List.mem_cons, List.not_mem_nil, or_false] at hf
      rcases hf with rfl | rfl
      · exact n_NoText_row
      · exact n_NoText_at, kb2_of (fun s u y z => .of_eq rfl)⟩
  have F15 := fun_mk (st := s_Over_init) l15 e15 k15
  have b15 := F15.binds (ps := ["self", "lane"]) fun _ _ _ _ _ _ us hl => match us, hl with | [_, _], _ => rfl
  have x_Over : XCal l.prog w K mg base 7 "Over" C_Over f15 _ ["self", "lane"] ["lane"] (sp_Over_init K) := ⟨⟨⟨_, _, _, _, _, _, _, _, _, _, _, _, _, _, _, xL_Over, xb_Over⟩, sa_Over, hs_Over, ty_Over, kC_Over⟩, a15, ti15, ok_Over_init F15 c_fresh, b15, PySem.W.mg_of X G aC_Over, aC_Over, fun f hf => by
      simp only [List.mem_cons, List.not_mem_nil, or_false] at hf
      rcases hf with rfl
      · exact n_Over_lane, kb_of (fun s u z => .of_eq rfl)⟩
  have F16 := fun_mk (st := s_Twice_init) l16 e16 k16
  have b16 := F16.binds (ps := ["self", "name"]) fun _ _ _ _ _ _ us hl => match us, hl with | [_, _], _ => rfl
  have x_Twice : XCal l.prog w K mg base 7 "Twice" C_Twice f16 _ ["self", "name"] ["name"] (sp_Twice_init K) := ⟨⟨⟨_, _, _, _, _, _, _, _, _, _, _, _, _, _, _, xL_Twice, xb_Twice⟩, sa_Twice, hs_Twice, ty_Twice, kC_Twice⟩, a16, ti16, ok_Twice_init F16 c_fresh, b16, PySem.W.mg_of X G aC_Twice, aC_Twice, fun f hf => by
      simp only [List.mem_cons, List.not_mem_nil, or_false] at hf
      rcases hf with rfl
      · exact n_Twice_name, kb_of (fun s u z => .of_eq rfl)⟩
  have F21 := fun_mk (st := s_law_first) l21 e21 k21
  have b21 := F21.binds (ps := ["_law_which", "_law_one", "_law_two"]) fun _ _ _ _ _ _ us hl => match us, hl with | [_, _, _], _ => rfl
  have c_law_first : Cal l.prog w K mg base (L2.CX l.prog w) 9 f21 _ "_law_first" ["_law_which", "_law_one", "_law_two"] (sp_law_first K) := ⟨ok_law_first F21 x_Dry x_NoBeat x_NoBook x_NoDeed x_NoFace x_NoFlow x_NoLoop x_NoModule x_NoName x_NoNet x_NoPlace x_NoRoom x_NoState x_NoText x_Over x_Twice, PySem.W.mg_of X G a21, k21, b21⟩
  have F22 := fun_mk (st := s_law_second) l22 e22 k22
  have b22 := F22.binds (ps := ["_law_which", "_law_one", "_law_two"]) fun _ _ _ _ _ _ us hl => match us, hl with | [_, _, _], _ => rfl
  have c_law_second : Cal l.prog w K mg base (L2.CX l.prog w) 9 f22 _ "_law_second" ["_law_which", "_law_one", "_law_two"] (sp_law_second K) := ⟨ok_law_second F22 x_Dry x_NoBeat x_NoBook x_NoDeed x_NoFace x_NoFlow x_NoLoop x_NoModule x_NoName x_NoNet x_NoPlace x_NoRoom x_NoState x_NoText x_Over x_Twice, PySem.W.mg_of X G a22, k22, b22⟩
  have F25 := fun_mk (st := s_law_caught) l25 e25 k25
  have b25 := F25.binds (ps := ["_law_which", "_law_way", "_law_one", "_law_two"]) fun _ _ _ _ _ _ us hl => match us, hl with | [_, _, _, _], _ => rfl
  have c_law_caught : Cal l.prog w K mg base CX0 10 f25 _ "_law_caught" ["_law_which", "_law_way", "_law_one", "_law_two"] (sp_law_caught K) := ⟨ok_law_caught F25 c_law_first c_law_third c_law_second c_law_fourth e_LoomError f_exk, PySem.W.mg_of X G a25, k25, b25⟩
  have F27 := fun_mk (st := s_law) l27 e27 k27
  exact ok_law F27 m_ValueError m_int m_isinstance m_range m_str c_law_purse c_law_thing c_law_caught c_law_marks c_law_borne f_exk (fun s v => .of_eq rfl)
def nm_0 : List PySem.Str := ["fresh", "LoomError", "NoBack", "NoDrive", "NoLane", "NoLine", "NoMeasure", "NoPart", "NoTitle", "NoWait", "NoWay", "NoWord", "TooDeep", "TooLong", "Dry", "NoBeat", "NoBook", "NoDeed", "NoFace", "NoFlow", "NoLoop", "NoModule", "NoName", "NoNet", "NoPlace", "NoRoom", "NoState", "NoText", "Over", "Twice"]
def nm_1 : List PySem.Str := ["_law_purse", "_law_draw", "_law_thing", "_law_marks", "_law_first", "_law_second", "_law_third", "_law_fourth", "_law_caught", "_law_borne"]
def nm_all : List PySem.Str := nm_0 ++ nm_1
def dd_0 : He.DefD := ⟨("fresh", none), "fresh", "fresh", defArgs s_fresh, defBody s_fresh, defScope s_fresh, [], []⟩
def dd_1 : He.DefD := ⟨("Dry", some "__init__"), "__init__", "Dry.__init__", defArgs s_Dry_init, defBody s_Dry_init, defScope s_Dry_init, [], []⟩
def dd_2 : He.DefD := ⟨("NoBeat", some "__init__"), "__init__", "NoBeat.__init__", defArgs s_NoBeat_init, defBody s_NoBeat_init, defScope s_NoBeat_init, [], []⟩
def dd_3 : He.DefD := ⟨("NoBook", some "__init__"), "__init__", "NoBook.__init__", defArgs s_NoBook_init, defBody s_NoBook_init, defScope s_NoBook_init, [], []⟩
def dd_4 : He.DefD := ⟨("NoDeed", some "__init__"), "__init__", "NoDeed.__init__", defArgs s_NoDeed_init, defBody s_NoDeed_init, defScope s_NoDeed_init, [], []⟩
def dd_5 : He.DefD := ⟨("NoFace", some "__init__"), "__init__", "NoFace.__init__", defArgs s_NoFace_init, defBody s_NoFace_init, defScope s_NoFace_init, [], []⟩
def dd_6 : He.DefD := ⟨("NoFlow", some "__init__"), "__init__", "NoFlow.__init__", defArgs s_NoFlow_init, defBody s_NoFlow_init, defScope s_NoFlow_init, [], []⟩
def dd_7 : He.DefD := ⟨("NoLoop", some "__init__"), "__init__", "NoLoop.__init__", defArgs s_NoLoop_init, defBody s_NoLoop_init, defScope s_NoLoop_init, [], []⟩
def dd_8 : He.DefD := ⟨("NoModule", some "__init__"), "__init__", "NoModule.__init__", defArgs s_NoModule_init, defBody s_NoModule_init, defScope s_NoModule_init, [], []⟩
def dd_9 : He.DefD := ⟨("NoName", some "__init__"), "__init__", "NoName.__init__", defArgs s_NoName_init, defBody s_NoName_init, defScope s_NoName_init, [], []⟩
def dd_10 : He.DefD := ⟨("NoNet", some "__init__"), "__init__", "NoNet.__init__", defArgs s_NoNet_init, defBody s_NoNet_init, defScope s_NoNet_init, [], []⟩
def dd_11 : He.DefD := ⟨("NoPlace", some "__init__"), "__init__", "NoPlace.__init__", defArgs s_NoPlace_init, defBody s_NoPlace_init, defScope s_NoPlace_init, [], []⟩
def dd_12 : He.DefD := ⟨("NoRoom", some "__init__"), "__init__", "NoRoom.__init__", defArgs s_NoRoom_init, defBody s_NoRoom_init, defScope s_NoRoom_init, [], []⟩
def dd_13 : He.DefD := ⟨("NoState", some "__init__"), "__init__", "NoState.__init__", defArgs s_NoState_init, defBody s_NoState_init, defScope s_NoState_init, [], []⟩
def dd_14 : He.DefD := ⟨("NoText", some "__init__"), "__init__", "NoText.__init__", defArgs s_NoText_init, defBody s_NoText_init, defScope s_NoText_init, [], []⟩
def dd_15 : He.DefD := ⟨("Over", some "__init__"), "__init__", "Over.__init__", defArgs s_Over_init, defBody s_Over_init, defScope s_Over_init, [], []⟩
def dd_16 : He.DefD := ⟨("Twice", some "__init__"), "__init__", "Twice.__init__", defArgs s_Twice_init, defBody s_Twice_init, defScope s_Twice_init, [], []⟩
def dd_17 : He.DefD := ⟨("_law_purse", none), "_law_purse", "_law_purse", defArgs s_law_purse, defBody s_law_purse, defScope s_law_purse, [], []⟩
def dd_18 : He.DefD := ⟨("_law_draw", none), "_law_draw", "_law_draw", defArgs s_law_draw, defBody s_law_draw, defScope s_law_draw, [], []⟩
def dd_19 : He.DefD := ⟨("_law_thing", none), "_law_thing", "_law_thing", defArgs s_law_thing, defBody s_law_thing, defScope s_law_thing, [], []⟩
def dd_20 : He.DefD := ⟨("_law_marks", none), "_law_marks", "_law_marks", defArgs s_law_marks, defBody s_law_marks, defScope s_law_marks, [], []⟩
def dd_21 : He.DefD := ⟨("_law_first", none), "_law_first", "_law_first", defArgs s_law_first, defBody s_law_first, defScope s_law_first, [], []⟩
def dd_22 : He.DefD := ⟨("_law_second", none), "_law_second", "_law_second", defArgs s_law_second, defBody s_law_second, defScope s_law_second, [], []⟩
def dd_23 : He.DefD := ⟨("_law_third", none), "_law_third", "_law_third", defArgs s_law_third, defBody s_law_third, defScope s_law_third, [], []⟩
def dd_24 : He.DefD := ⟨("_law_fourth", none), "_law_fourth", "_law_fourth", defArgs s_law_fourth, defBody s_law_fourth, defScope s_law_fourth, [], []⟩
def dd_25 : He.DefD := ⟨("_law_caught", none), "_law_caught", "_law_caught", defArgs s_law_caught, defBody s_law_caught, defScope s_law_caught, [], []⟩
def dd_26 : He.DefD := ⟨("_law_borne", none), "_law_borne", "_law_borne", defArgs s_law_borne, defBody s_law_borne, defScope s_law_borne, [], []⟩
def dd_27 : He.DefD := ⟨("law", none), "law", "law", defArgs s_law, defBody s_law, defScope s_law, [], []⟩
def ddL : List He.DefD := [dd_0, dd_1, dd_2, dd_3, dd_4, dd_5, dd_6, dd_7, dd_8, dd_9, dd_10, dd_11, dd_12, dd_13, dd_14, dd_15, dd_16, dd_17, dd_18, dd_19, dd_20, dd_21, dd_22, dd_23, dd_24, dd_25, dd_26, dd_27]
def excB (K : PySem.W.Frag) (C : Addr) : Bool :=
  match K.lookup C with
  | some { cls := .type t, dict := _, data := .cls { name := _, bases := _, mro := .ref a :: bm, ns := _, qualname := _, hasDict := true, hasDel := false, slotNames := _, subclasses := _, abstract := _, collection := _ }, slots := ⟨[_, _, _, _, some (.builtin id), _]⟩ } => t == "type" && (a == C && (id == "ValueError.__new__" && PySem.HandSPX.refsVE bm))
  | _ => false
theorem excB_ok {K : PySem.W.Frag} {C : Addr} (h : excB K C = true) : ∃ nm q N bs bm sn sub ab col dd k0 k1 k2 k3 k5, K.lookup C = some (excClassObj nm q C N bs bm true sn sub ab col dd k0 k1 k2 k3 k5 "ValueError.__new__") ∧ PySem.HandSPX.refsVE bm = true := by
  unfold excB at h
  split at h
  · rename_i e
    simp only [Bool.and_eq_true, beq_iff_eq] at h
    obtain ⟨rfl, rfl, rfl, hv⟩ := h
    exact ⟨_, _, _, _, _, _, _, _, _, _, _, _, _, _, _, e, hv⟩
  · cases h
def intB (K : PySem.W.Frag) (x : Str) (i : Int) : Bool :=
  match PySem.W.nsIn K mainGlobals x with
  | some (some (.int j _)) => decide (j = i)
  | _ => false
theorem intB_ok {K : PySem.W.Frag} {x : Str} {i : Int} (h : intB K x i = true) : ∃ t, PySem.W.nsIn K mainGlobals x = some (some (.int i t)) := by
  unfold intB at h
  split at h
  · rename_i e
    have := of_decide_eq_true h
    subst this
    exact ⟨_, e⟩
  · cases h
def caE (K : PySem.W.Frag) (i : Nat) : Addr := He.ga K (clsN.getD i "")
def nsAllB (K : PySem.W.Frag) : Bool := (List.range 28).all fun i => He.eqO (PySem.W.nsIn K mainGlobals (clsN.getD i "")) (some (some (.ref (caE K i))))
def subkB (K : PySem.W.Frag) : Bool := (List.range 28).all fun i => (List.range 28).all fun j => decide (PySem.W.subIn K (.ref (caE K i)) (.ref (caE K j)) = some (decide (i = j)))
theorem clsN_lt {i : Nat} {x : Str} (h : clsN[i]? = some x) : i < 28 ∧ clsN.getD i "" = x := by
  refine ⟨(List.getElem?_eq_some_iff.mp h).1, ?_⟩
  rw [List.getD_eq_getElem?_getD, h]
  rfl
theorem ca_is {K : PySem.W.Frag} {i : Nat} {x : Str} {C : Addr} (h : nsAllB K = true) (hx : clsN[i]? = some x) (hC : PySem.W.nsIn K mainGlobals x = some (some (.ref C))) : C = caE K i := by
  obtain ⟨h1, h2⟩ := clsN_lt hx
  have := He.eqO_ok (List.all_eq_true.mp h i (List.mem_range.mpr h1))
  rw [h2] at this
  exact ns_inj hC this
theorem subkB_ok {K : PySem.W.Frag} (h : nsAllB K = true) (h2 : subkB K = true) : SubK K := by
  intro i j x y C D hx hy hC hD
  rw [ca_is h hx hC, ca_is h hy hD]
  exact of_decide_eq_true (List.all_eq_true.mp (List.all_eq_true.mp h2 i (List.mem_range.mpr (clsN_lt hx).1)) j (List.mem_range.mpr (clsN_lt hy).1))
def exkB (K : PySem.W.Frag) (i : Nat) (C : Addr) : Bool :=
  He.eqO (PySem.W.findIn K (.ref C) "__getattribute__") (some (some (.builtin "BaseException.__getattribute__"))) && (He.eqO (PySem.W.findIn K (.ref C) "__getattr__") (some none) && (decide (PySem.W.subIn K (.ref C) (.type "BaseException") = some true) && (PySem.W.hasDictIn K C &&
  (He.eqO (PySem.W.findIn K (.ref C) "__class__") (some (some (.builtin "object.__class__"))) && (decide (PySem.W.mroIn K C (.type "object") = some true) && (decide (PySem.W.typeIn K (.ref C) = some (.type "type")) && (decide (PySem.W.subIn K (.ref C) (.type "ValueError") = some true) &&
  (decide (PySem.W.subIn K (.ref C) (.ref (He.ga K "LoomError")) = some true) && ((match fldN[i]? with
    | some f => He.eqO (PySem.W.findIn K (.ref C) f) (some none)
    | none => true) && (i != 15 || (He.eqO (PySem.W.findIn K (.ref C) "row") (some none) && He.eqO (PySem.W.findIn K (.ref C) "at") (some none))))))))))))
def exAllB (K : PySem.W.Frag) : Bool := (List.range 28).all fun i => exkB K i (caE K i)
theorem exAllB_ok {K : PySem.W.Frag} (h : nsAllB K = true) (h2 : exAllB K = true) (hl : PySem.W.nsIn K mainGlobals "LoomError" = some (some (.ref (He.ga K "LoomError")))) (n1 : PySem.W.specialIn K (.builtin "object.__class__") "__get__" = some (some (.builtin "getset_descriptor.__get__"))) (n2 : PySem.W.takesIn K (.builtin "object.__class__") = some true) : ExAll K := by
  intro i x C hx hC
  have e := List.all_eq_true.mp h2 i (List.mem_range.mpr (clsN_lt hx).1)
  rw [← ca_is h hx hC] at e
  unfold exkB at e
  simp only [Bool.and_eq_true] at e
  obtain ⟨e1, e2, e3, e4, e5, e6, e7, e8, e9, e10, e11⟩ := e
  refine ⟨⟨He.eqO_ok e1, He.eqO_ok e2, of_decide_eq_true e3, e4, He.eqO_ok e5, n1, n2, of_decide_eq_true e6⟩, of_decide_eq_true e7, of_decide_eq_true e8, fun L hL => ?_, fun f hf => ?_, fun h15 => ?_⟩
  · rw [ns_inj hL hl]
    exact of_decide_eq_true e9
  · rw [hf] at e10
    exact He.eqO_ok e10
  · subst h15
    have e12 : (He.eqO (PySem.W.findIn K (.ref C) "row") (some none) && He.eqO (PySem.W.findIn K (.ref C) "at") (some none)) = true := e11
    rw [Bool.and_eq_true] at e12
    exact ⟨He.eqO_ok e12.1, He.eqO_ok e12.2⟩
def exL_0 (K : PySem.W.Frag) : List Bool := [
  He.eqO (PySem.W.nsIn K mainGlobals "Dry") (some (some (.ref (He.ga K "Dry")))),
  PySem.W.hasDictIn K (He.ga K "Dry"),
  decide (PySem.W.typeIn K (.ref (He.ga K "Dry")) = some (.type "type")),
  decide (PySem.W.subIn K (.ref (He.ga K "Dry")) (.type "BaseException") = some true),
  PySem.W.keepIn K (.ref (He.ga K "Dry")),
  excB K (He.ga K "Dry"),
  He.eqO (PySem.W.findIn K (.ref (He.ga K "Dry")) "__setattr__") (some (some (.builtin "object.__setattr__"))),
  He.eqO (PySem.W.nsIn K mainGlobals "LoomError") (some (some (.ref (He.ga K "LoomError")))),
  He.eqO (PySem.W.findIn K (.ref (He.ga K "LoomError")) "__getattribute__") (some (some (.builtin "BaseException.__getattribute__"))),
  He.eqO (PySem.W.findIn K (.ref (He.ga K "LoomError")) "__getattr__") (some none),
  PySem.W.hasDictIn K (He.ga K "LoomError"),
  He.eqO (PySem.W.findIn K (.ref (He.ga K "LoomError")) "__class__") (some (some (.builtin "object.__class__"))),
  decide (PySem.W.mroIn K (He.ga K "LoomError") (.type "object") = some true),
  decide (PySem.W.subIn K (.ref (He.ga K "LoomError")) (.type "ValueError") = some true),
  decide (PySem.W.subIn K (.ref (He.ga K "LoomError")) (.type "BaseException") = some true),
  decide (PySem.W.typeIn K (.ref (He.ga K "LoomError")) = some (.type "type")),
  He.eqO (PySem.W.nsIn K mainGlobals "NoBack") (some (some (.ref (He.ga K "NoBack")))),
  PySem.W.hasDictIn K (He.ga K "NoBack"),
  decide (PySem.W.typeIn K (.ref (He.ga K "NoBack")) = some (.type "type")),
  decide (PySem.W.subIn K (.ref (He.ga K "NoBack")) (.type "BaseException") = some true),
  PySem.W.keepIn K (.ref (He.ga K "NoBack")),
  PySem.W.excIn K (He.ga K "NoBack") [.type "ValueError", .type "Exception", .type "BaseException", .type "object"] "ValueError.__new__",
  He.eqO (PySem.W.nsIn K mainGlobals "NoBeat") (some (some (.ref (He.ga K "NoBeat")))),
  PySem.W.hasDictIn K (He.ga K "NoBeat"),
  decide (PySem.W.typeIn K (.ref (He.ga K "NoBeat")) = some (.type "type")),
  decide (PySem.W.subIn K (.ref (He.ga K "NoBeat")) (.type "BaseException") = some true),
  PySem.W.keepIn K (.ref (He.ga K "NoBeat")),
  excB K (He.ga K "NoBeat"),
  He.eqO (PySem.W.findIn K (.ref (He.ga K "NoBeat")) "__setattr__") (some (some (.builtin "object.__setattr__"))),
  He.eqO (PySem.W.nsIn K mainGlobals "NoBook") (some (some (.ref (He.ga K "NoBook")))),
  PySem.W.hasDictIn K (He.ga K "NoBook"),
  decide (PySem.W.typeIn K (.ref (He.ga K "NoBook")) = some (.type "type")),
  decide (PySem.W.subIn K (.ref (He.ga K "NoBook")) (.type "BaseException") = some true),
  PySem.W.keepIn K (.ref (He.ga K "NoBook")),
  excB K (He.ga K "NoBook"),
  He.eqO (PySem.W.findIn K (.ref (He.ga K "NoBook")) "__setattr__") (some (some (.builtin "object.__setattr__"))),
  He.eqO (PySem.W.nsIn K mainGlobals "NoDeed") (some (some (.ref (He.ga K "NoDeed")))),
  PySem.W.hasDictIn K (He.ga K "NoDeed"),
  decide (PySem.W.typeIn K (.ref (He.ga K "NoDeed")) = some (.type "type")),
  decide (PySem.W.subIn K (.ref (He.ga K "NoDeed")) (.type "BaseException") = some true)]
def exL_1 (K : PySem.W.Frag) : List Bool := [
  PySem.W.keepIn K (.ref (He.ga K "NoDeed")),
  excB K (He.ga K "NoDeed"),
  He.eqO (PySem.W.findIn K (.ref (He.ga K "NoDeed")) "__setattr__") (some (some (.builtin "object.__setattr__"))),
  He.eqO (PySem.W.nsIn K mainGlobals "NoDrive") (some (some (.ref (He.ga K "NoDrive")))),
  PySem.W.hasDictIn K (He.ga K "NoDrive"),
  decide (PySem.W.typeIn K (.ref (He.ga K "NoDrive")) = some (.type "type")),
  decide (PySem.W.subIn K (.ref (He.ga K "NoDrive")) (.type "BaseException") = some true),
  PySem.W.keepIn K (.ref (He.ga K "NoDrive")),
  PySem.W.excIn K (He.ga K "NoDrive") [.type "ValueError", .type "Exception", .type "BaseException", .type "object"] "ValueError.__new__",
  He.eqO (PySem.W.nsIn K mainGlobals "NoFace") (some (some (.ref (He.ga K "NoFace")))),
  PySem.W.hasDictIn K (He.ga K "NoFace"),
  decide (PySem.W.typeIn K (.ref (He.ga K "NoFace")) = some (.type "type")),
  decide (PySem.W.subIn K (.ref (He.ga K "NoFace")) (.type "BaseException") = some true),
  PySem.W.keepIn K (.ref (He.ga K "NoFace")),
  excB K (He.ga K "NoFace"),
  He.eqO (PySem.W.findIn K (.ref (He.ga K "NoFace")) "__setattr__") (some (some (.builtin "object.__setattr__"))),
  He.eqO (PySem.W.nsIn K mainGlobals "NoFlow") (some (some (.ref (He.ga K "NoFlow")))),
  PySem.W.hasDictIn K (He.ga K "NoFlow"),
  decide (PySem.W.typeIn K (.ref (He.ga K "NoFlow")) = some (.type "type")),
  decide (PySem.W.subIn K (.ref (He.ga K "NoFlow")) (.type "BaseException") = some true),
  PySem.W.keepIn K (.ref (He.ga K "NoFlow")),
  excB K (He.ga K "NoFlow"),
  He.eqO (PySem.W.findIn K (.ref (He.ga K "NoFlow")) "__setattr__") (some (some (.builtin "object.__setattr__"))),
  He.eqO (PySem.W.nsIn K mainGlobals "NoLane") (some (some (.ref (He.ga K "NoLane")))),
  PySem.W.hasDictIn K (He.ga K "NoLane"),
  decide (PySem.W.typeIn K (.ref (He.ga K "NoLane")) = some (.type "type")),
  decide (PySem.W.subIn K (.ref (He.ga K "NoLane")) (.type "BaseException") = some true),
  PySem.W.keepIn K (.ref (He.ga K "NoLane")),
  PySem.W.excIn K (He.ga K "NoLane") [.type "ValueError", .type "Exception", .type "BaseException", .type "object"] "ValueError.__new__",
  He.eqO (PySem.W.nsIn K mainGlobals "NoLine") (some (some (.ref (He.ga K "NoLine")))),
  PySem.W.hasDictIn K (He.ga K "NoLine"),
  decide (PySem.W.typeIn K (.ref (He.ga K "NoLine")) = some (.type "type")),
  decide (PySem.W.subIn K (.ref (He.ga K "NoLine")) (.type "BaseException") = some true),
  PySem.W.keepIn K (.ref (He.ga K "NoLine")),
  PySem.W.excIn K (He.ga K "NoLine") [.type "ValueError", .type "Exception", .type "BaseException", .type "object"] "ValueError.__new__",
  He.eqO (PySem.W.nsIn K mainGlobals "NoLoop") (some (some (.ref (He.ga K "NoLoop")))),
  PySem.W.hasDictIn K (He.ga K "NoLoop"),
  decide (PySem.W.typeIn K (.ref (He.ga K "NoLoop")) = some (.type "type")),
  decide (PySem.W.subIn K (.ref (He.ga K "NoLoop")) (.type "BaseException") = some true),
  PySem.W.keepIn K (.ref (He.ga K "NoLoop"))]
def exL_2 (K : PySem.W.Frag) : List Bool := [
  excB K (He.ga K "NoLoop"),
  He.eqO (PySem.W.findIn K (.ref (He.ga K "NoLoop")) "__setattr__") (some (some (.builtin "object.__setattr__"))),
  He.eqO (PySem.W.nsIn K mainGlobals "NoMeasure") (some (some (.ref (He.ga K "NoMeasure")))),
  PySem.W.hasDictIn K (He.ga K "NoMeasure"),
  decide (PySem.W.typeIn K (.ref (He.ga K "NoMeasure")) = some (.type "type")),
  decide (PySem.W.subIn K (.ref (He.ga K "NoMeasure")) (.type "BaseException") = some true),
  PySem.W.keepIn K (.ref (He.ga K "NoMeasure")),
  PySem.W.excIn K (He.ga K "NoMeasure") [.type "ValueError", .type "Exception", .type "BaseException", .type "object"] "ValueError.__new__",
  He.eqO (PySem.W.nsIn K mainGlobals "NoModule") (some (some (.ref (He.ga K "NoModule")))),
  PySem.W.hasDictIn K (He.ga K "NoModule"),
  decide (PySem.W.typeIn K (.ref (He.ga K "NoModule")) = some (.type "type")),
  decide (PySem.W.subIn K (.ref (He.ga K "NoModule")) (.type "BaseException") = some true),
  PySem.W.keepIn K (.ref (He.ga K "NoModule")),
  excB K (He.ga K "NoModule"),
  He.eqO (PySem.W.findIn K (.ref (He.ga K "NoModule")) "__setattr__") (some (some (.builtin "object.__setattr__"))),
  He.eqO (PySem.W.nsIn K mainGlobals "NoName") (some (some (.ref (He.ga K "NoName")))),
  PySem.W.hasDictIn K (He.ga K "NoName"),
  decide (PySem.W.typeIn K (.ref (He.ga K "NoName")) = some (.type "type")),
  decide (PySem.W.subIn K (.ref (He.ga K "NoName")) (.type "BaseException") = some true),
  PySem.W.keepIn K (.ref (He.ga K "NoName")),
  excB K (He.ga K "NoName"),
  He.eqO (PySem.W.findIn K (.ref (He.ga K "NoName")) "__setattr__") (some (some (.builtin "object.__setattr__"))),
  He.eqO (PySem.W.nsIn K mainGlobals "NoNet") (some (some (.ref (He.ga K "NoNet")))),
  PySem.W.hasDictIn K (He.ga K "NoNet"),
  decide (PySem.W.typeIn K (.ref (He.ga K "NoNet")) = some (.type "type")),
  decide (PySem.W.subIn K (.ref (He.ga K "NoNet")) (.type "BaseException") = some true),
  PySem.W.keepIn K (.ref (He.ga K "NoNet")),
  excB K (He.ga K "NoNet"),
  He.eqO (PySem.W.findIn K (.ref (He.ga K "NoNet")) "__setattr__") (some (some (.builtin "object.__setattr__"))),
  He.eqO (PySem.W.nsIn K mainGlobals "NoPart") (some (some (.ref (He.ga K "NoPart")))),
  PySem.W.hasDictIn K (He.ga K "NoPart"),
  decide (PySem.W.typeIn K (.ref (He.ga K "NoPart")) = some (.type "type")),
  decide (PySem.W.subIn K (.ref (He.ga K "NoPart")) (.type "BaseException") = some true),
  PySem.W.keepIn K (.ref (He.ga K "NoPart")),
  PySem.W.excIn K (He.ga K "NoPart") [.type "ValueError", .type "Exception", .type "BaseException", .type "object"] "ValueError.__new__",
  He.eqO (PySem.W.nsIn K mainGlobals "NoPlace") (some (some (.ref (He.ga K "NoPlace")))),
  PySem.W.hasDictIn K (He.ga K "NoPlace"),
  decide (PySem.W.typeIn K (.ref (He.ga K "NoPlace")) = some (.type "type")),
  decide (PySem.W.subIn K (.ref (He.ga K "NoPlace")) (.type "BaseException") = some true),
  PySem.W.keepIn K (.ref (He.ga K "NoPlace"))]
def exL_3 (K : PySem.W.Frag) : List Bool := [
  excB K (He.ga K "NoPlace"),
  He.eqO (PySem.W.findIn K (.ref (He.ga K "NoPlace")) "__setattr__") (some (some (.builtin "object.__setattr__"))),
  He.eqO (PySem.W.nsIn K mainGlobals "NoRoom") (some (some (.ref (He.ga K "NoRoom")))),
  PySem.W.hasDictIn K (He.ga K "NoRoom"),
  decide (PySem.W.typeIn K (.ref (He.ga K "NoRoom")) = some (.type "type")),
  decide (PySem.W.subIn K (.ref (He.ga K "NoRoom")) (.type "BaseException") = some true),
  PySem.W.keepIn K (.ref (He.ga K "NoRoom")),
  excB K (He.ga K "NoRoom"),
  He.eqO (PySem.W.findIn K (.ref (He.ga K "NoRoom")) "__setattr__") (some (some (.builtin "object.__setattr__"))),
  He.eqO (PySem.W.nsIn K mainGlobals "NoState") (some (some (.ref (He.ga K "NoState")))),
  PySem.W.hasDictIn K (He.ga K "NoState"),
  decide (PySem.W.typeIn K (.ref (He.ga K "NoState")) = some (.type "type")),
  decide (PySem.W.subIn K (.ref (He.ga K "NoState")) (.type "BaseException") = some true),
  PySem.W.keepIn K (.ref (He.ga K "NoState")),
  excB K (He.ga K "NoState"),
  He.eqO (PySem.W.findIn K (.ref (He.ga K "NoState")) "__setattr__") (some (some (.builtin "object.__setattr__"))),
  He.eqO (PySem.W.nsIn K mainGlobals "NoText") (some (some (.ref (He.ga K "NoText")))),
  PySem.W.hasDictIn K (He.ga K "NoText"),
  decide (PySem.W.typeIn K (.ref (He.ga K "NoText")) = some (.type "type")),
  decide (PySem.W.subIn K (.ref (He.ga K "NoText")) (.type "BaseException") = some true),
  PySem.W.keepIn K (.ref (He.ga K "NoText")),
  excB K (He.ga K "NoText"),
  He.eqO (PySem.W.findIn K (.ref (He.ga K "NoText")) "__setattr__") (some (some (.builtin "object.__setattr__"))),
  He.eqO (PySem.W.nsIn K mainGlobals "NoTitle") (some (some (.ref (He.ga K "NoTitle")))),
  PySem.W.hasDictIn K (He.ga K "NoTitle"),
  decide (PySem.W.typeIn K (.ref (He.ga K "NoTitle")) = some (.type "type")),
  decide (PySem.W.subIn K (.ref (He.ga K "NoTitle")) (.type "BaseException") = some true),
  PySem.W.keepIn K (.ref (He.ga K "NoTitle")),
  PySem.W.excIn K (He.ga K "NoTitle") [.type "ValueError", .type "Exception", .type "BaseException", .type "object"] "ValueError.__new__",
  He.eqO (PySem.W.nsIn K mainGlobals "NoWait") (some (some (.ref (He.ga K "NoWait")))),
  PySem.W.hasDictIn K (He.ga K "NoWait"),
  decide (PySem.W.typeIn K (.ref (He.ga K "NoWait")) = some (.type "type")),
  decide (PySem.W.subIn K (.ref (He.ga K "NoWait")) (.type "BaseException") = some true),
  PySem.W.keepIn K (.ref (He.ga K "NoWait")),
  PySem.W.excIn K (He.ga K "NoWait") [.type "ValueError", .type "Exception", .type "BaseException", .type "object"] "ValueError.__new__",
  He.eqO (PySem.W.nsIn K mainGlobals "NoWay") (some (some (.ref (He.ga K "NoWay")))),
  PySem.W.hasDictIn K (He.ga K "NoWay"),
  decide (PySem.W.typeIn K (.ref (He.ga K "NoWay")) = some (.type "type")),
  decide (PySem.W.subIn K (.ref (He.ga K "NoWay")) (.type "BaseException") = some true),
  PySem.W.keepIn K (.ref (He.ga K "NoWay"))]
def exL_4 (K : PySem.W.Frag) : List Bool := [
  PySem.W.excIn K (He.ga K "NoWay") [.type "ValueError", .type "Exception", .type "BaseException", .type "object"] "ValueError.__new__",
  He.eqO (PySem.W.nsIn K mainGlobals "NoWord") (some (some (.ref (He.ga K "NoWord")))),
  PySem.W.hasDictIn K (He.ga K "NoWord"),
  decide (PySem.W.typeIn K (.ref (He.ga K "NoWord")) = some (.type "type")),
  decide (PySem.W.subIn K (.ref (He.ga K "NoWord")) (.type "BaseException") = some true),
  PySem.W.keepIn K (.ref (He.ga K "NoWord")),
  PySem.W.excIn K (He.ga K "NoWord") [.type "ValueError", .type "Exception", .type "BaseException", .type "object"] "ValueError.__new__",
  He.eqO (PySem.W.nsIn K mainGlobals "Over") (some (some (.ref (He.ga K "Over")))),
  PySem.W.hasDictIn K (He.ga K "Over"),
  decide (PySem.W.typeIn K (.ref (He.ga K "Over")) = some (.type "type")),
  decide (PySem.W.subIn K (.ref (He.ga K "Over")) (.type "BaseException") = some true),
  PySem.W.keepIn K (.ref (He.ga K "Over")),
  excB K (He.ga K "Over"),
  He.eqO (PySem.W.findIn K (.ref (He.ga K "Over")) "__setattr__") (some (some (.builtin "object.__setattr__"))),
  He.eqO (PySem.W.nsIn K mainGlobals "TooDeep") (some (some (.ref (He.ga K "TooDeep")))),
  PySem.W.hasDictIn K (He.ga K "TooDeep"),
  decide (PySem.W.typeIn K (.ref (He.ga K "TooDeep")) = some (.type "type")),
  decide (PySem.W.subIn K (.ref (He.ga K "TooDeep")) (.type "BaseException") = some true),
  PySem.W.keepIn K (.ref (He.ga K "TooDeep")),
  PySem.W.excIn K (He.ga K "TooDeep") [.type "ValueError", .type "Exception", .type "BaseException", .type "object"] "ValueError.__new__",
  He.eqO (PySem.W.nsIn K mainGlobals "TooLong") (some (some (.ref (He.ga K "TooLong")))),
  PySem.W.hasDictIn K (He.ga K "TooLong"),
  decide (PySem.W.typeIn K (.ref (He.ga K "TooLong")) = some (.type "type")),
  decide (PySem.W.subIn K (.ref (He.ga K "TooLong")) (.type "BaseException") = some true),
  PySem.W.keepIn K (.ref (He.ga K "TooLong")),
  PySem.W.excIn K (He.ga K "TooLong") [.type "ValueError", .type "Exception", .type "BaseException", .type "object"] "ValueError.__new__",
  He.eqO (PySem.W.nsIn K mainGlobals "Twice") (some (some (.ref (He.ga K "Twice")))),
  PySem.W.hasDictIn K (He.ga K "Twice"),
  decide (PySem.W.typeIn K (.ref (He.ga K "Twice")) = some (.type "type")),
  decide (PySem.W.subIn K (.ref (He.ga K "Twice")) (.type "BaseException") = some true),
  PySem.W.keepIn K (.ref (He.ga K "Twice")),
  excB K (He.ga K "Twice"),
  He.eqO (PySem.W.findIn K (.ref (He.ga K "Twice")) "__setattr__") (some (some (.builtin "object.__setattr__"))),
  He.eqO (PySem.W.specialIn K (.builtin "object.__class__") "__get__") (some (some (.builtin "getset_descriptor.__get__"))),
  decide (PySem.W.takesIn K (.builtin "object.__class__") = some true),
  He.eqO (PySem.W.nsIn K mainGlobals "fresh") (some (some (.ref (He.ga K "fresh")))),
  PySem.W.keepIn K (.ref (He.ga K "fresh")),
  He.eqO (PySem.W.nsIn K mainGlobals "_law_purse") (some (some (.ref (He.ga K "_law_purse")))),
  PySem.W.keepIn K (.ref (He.ga K "_law_purse")),
  He.eqO (PySem.W.nsIn K mainGlobals "_law_draw") (some (some (.ref (He.ga K "_law_draw"))))]
def exL_5 (K : PySem.W.Frag) : List Bool := [
  PySem.W.keepIn K (.ref (He.ga K "_law_draw")),
  He.eqO (PySem.W.nsIn K mainGlobals "_law_thing") (some (some (.ref (He.ga K "_law_thing")))),
  PySem.W.keepIn K (.ref (He.ga K "_law_thing")),
  He.eqO (PySem.W.nsIn K mainGlobals "_law_marks") (some (some (.ref (He.ga K "_law_marks")))),
  PySem.W.keepIn K (.ref (He.ga K "_law_marks")),
  He.eqO (PySem.W.nsIn K mainGlobals "_law_first") (some (some (.ref (He.ga K "_law_first")))),
  PySem.W.keepIn K (.ref (He.ga K "_law_first")),
  He.eqO (PySem.W.nsIn K mainGlobals "_law_second") (some (some (.ref (He.ga K "_law_second")))),
  PySem.W.keepIn K (.ref (He.ga K "_law_second")),
  He.eqO (PySem.W.nsIn K mainGlobals "_law_third") (some (some (.ref (He.ga K "_law_third")))),
  PySem.W.keepIn K (.ref (He.ga K "_law_third")),
  He.eqO (PySem.W.nsIn K mainGlobals "_law_fourth") (some (some (.ref (He.ga K "_law_fourth")))),
  PySem.W.keepIn K (.ref (He.ga K "_law_fourth")),
  He.eqO (PySem.W.nsIn K mainGlobals "_law_caught") (some (some (.ref (He.ga K "_law_caught")))),
  PySem.W.keepIn K (.ref (He.ga K "_law_caught")),
  He.eqO (PySem.W.nsIn K mainGlobals "_law_borne") (some (some (.ref (He.ga K "_law_borne")))),
  PySem.W.keepIn K (.ref (He.ga K "_law_borne")),
  He.eqO (PySem.W.nsIn K mainGlobals "law") (some (some (.ref (He.ga K "law")))),
  PySem.W.keepIn K (.ref (He.ga K "law")),
  He.eqO (PySem.W.findIn K (.ref (He.ga K "Dry")) "__init__") (some (some (.ref (He.ma K (He.ga K "Dry") "__init__")))),
  PySem.W.keepIn K (.ref (He.ma K (He.ga K "Dry") "__init__")),
  decide (PySem.W.typeIn K (.ref (He.ma K (He.ga K "Dry") "__init__")) = some (.type "function")),
  He.eqO (PySem.W.findIn K (.ref (He.ga K "NoBeat")) "__init__") (some (some (.ref (He.ma K (He.ga K "NoBeat") "__init__")))),
  PySem.W.keepIn K (.ref (He.ma K (He.ga K "NoBeat") "__init__")),
  decide (PySem.W.typeIn K (.ref (He.ma K (He.ga K "NoBeat") "__init__")) = some (.type "function")),
  He.eqO (PySem.W.findIn K (.ref (He.ga K "NoBook")) "__init__") (some (some (.ref (He.ma K (He.ga K "NoBook") "__init__")))),
  PySem.W.keepIn K (.ref (He.ma K (He.ga K "NoBook") "__init__")),
  decide (PySem.W.typeIn K (.ref (He.ma K (He.ga K "NoBook") "__init__")) = some (.type "function")),
  He.eqO (PySem.W.findIn K (.ref (He.ga K "NoDeed")) "__init__") (some (some (.ref (He.ma K (He.ga K "NoDeed") "__init__")))),
  PySem.W.keepIn K (.ref (He.ma K (He.ga K "NoDeed") "__init__")),
  decide (PySem.W.typeIn K (.ref (He.ma K (He.ga K "NoDeed") "__init__")) = some (.type "function")),
  He.eqO (PySem.W.findIn K (.ref (He.ga K "NoFace")) "__init__") (some (some (.ref (He.ma K (He.ga K "NoFace") "__init__")))),
  PySem.W.keepIn K (.ref (He.ma K (He.ga K "NoFace") "__init__")),
  decide (PySem.W.typeIn K (.ref (He.ma K (He.ga K "NoFace") "__init__")) = some (.type "function")),
  He.eqO (PySem.W.findIn K (.ref (He.ga K "NoFlow")) "__init__") (some (some (.ref (He.ma K (He.ga K "NoFlow") "__init__")))),
  PySem.W.keepIn K (.ref (He.ma K (He.ga K "NoFlow") "__init__")),
  decide (PySem.W.typeIn K (.ref (He.ma K (He.ga K "NoFlow") "__init__")) = some (.type "function")),
  He.eqO (PySem.W.findIn K (.ref (He.ga K "NoLoop")) "__init__") (some (some (.ref (He.ma K (He.ga K "NoLoop") "__init__")))),
  PySem.W.keepIn K (.ref (He.ma K (He.ga K "NoLoop") "__init__")),
  decide (PySem.W.typeIn K (.ref (He.ma K (He.ga K "NoLoop") "__init__")) = some (.type "function"))]
def exL_6 (K : PySem.W.Frag) : List Bool := [
  He.eqO (PySem.W.findIn K (.ref (He.ga K "NoModule")) "__init__") (some (some (.ref (He.ma K (He.ga K "NoModule") "__init__")))),
  PySem.W.keepIn K (.ref (He.ma K (He.ga K "NoModule") "__init__")),
  decide (PySem.W.typeIn K (.ref (He.ma K (He.ga K "NoModule") "__init__")) = some (.type "function")),
  He.eqO (PySem.W.findIn K (.ref (He.ga K "NoName")) "__init__") (some (some (.ref (He.ma K (He.ga K "NoName") "__init__")))),
  PySem.W.keepIn K (.ref (He.ma K (He.ga K "NoName") "__init__")),
  decide (PySem.W.typeIn K (.ref (He.ma K (He.ga K "NoName") "__init__")) = some (.type "function")),
  He.eqO (PySem.W.findIn K (.ref (He.ga K "NoNet")) "__init__") (some (some (.ref (He.ma K (He.ga K "NoNet") "__init__")))),
  PySem.W.keepIn K (.ref (He.ma K (He.ga K "NoNet") "__init__")),
  decide (PySem.W.typeIn K (.ref (He.ma K (He.ga K "NoNet") "__init__")) = some (.type "function")),
  He.eqO (PySem.W.findIn K (.ref (He.ga K "NoPlace")) "__init__") (some (some (.ref (He.ma K (He.ga K "NoPlace") "__init__")))),
  PySem.W.keepIn K (.ref (He.ma K (He.ga K "NoPlace") "__init__")),
  decide (PySem.W.typeIn K (.ref (He.ma K (He.ga K "NoPlace") "__init__")) = some (.type "function")),
  He.eqO (PySem.W.findIn K (.ref (He.ga K "NoRoom")) "__init__") (some (some (.ref (He.ma K (He.ga K "NoRoom") "__init__")))),
  PySem.W.keepIn K (.ref (He.ma K (He.ga K "NoRoom") "__init__")),
  decide (PySem.W.typeIn K (.ref (He.ma K (He.ga K "NoRoom") "__init__")) = some (.type "function")),
  He.eqO (PySem.W.findIn K (.ref (He.ga K "NoState")) "__init__") (some (some (.ref (He.ma K (He.ga K "NoState") "__init__")))),
  PySem.W.keepIn K (.ref (He.ma K (He.ga K "NoState") "__init__")),
  decide (PySem.W.typeIn K (.ref (He.ma K (He.ga K "NoState") "__init__")) = some (.type "function")),
  He.eqO (PySem.W.findIn K (.ref (He.ga K "NoText")) "__init__") (some (some (.ref (He.ma K (He.ga K "NoText") "__init__")))),
  PySem.W.keepIn K (.ref (He.ma K (He.ga K "NoText") "__init__")),
  decide (PySem.W.typeIn K (.ref (He.ma K (He.ga K "NoText") "__init__")) = some (.type "function")),
  He.eqO (PySem.W.findIn K (.ref (He.ga K "Over")) "__init__") (some (some (.ref (He.ma K (He.ga K "Over") "__init__")))),
  PySem.W.keepIn K (.ref (He.ma K (He.ga K "Over") "__init__")),
  decide (PySem.W.typeIn K (.ref (He.ma K (He.ga K "Over") "__init__")) = some (.type "function")),
  He.eqO (PySem.W.findIn K (.ref (He.ga K "Twice")) "__init__") (some (some (.ref (He.ma K (He.ga K "Twice") "__init__")))),
  PySem.W.keepIn K (.ref (He.ma K (He.ga K "Twice") "__init__")),
  decide (PySem.W.typeIn K (.ref (He.ma K (He.ga K "Twice") "__init__")) = some (.type "function")),
  He.eqO (PySem.W.findIn K (.ref (He.ga K "Dry")) "lane") (some none),
  He.eqO (PySem.W.findIn K (.ref (He.ga K "NoBeat")) "name") (some none),
  He.eqO (PySem.W.findIn K (.ref (He.ga K "NoBook")) "wrong") (some none),
  He.eqO (PySem.W.findIn K (.ref (He.ga K "NoDeed")) "at") (some none),
  He.eqO (PySem.W.findIn K (.ref (He.ga K "NoFace")) "paper") (some none),
  He.eqO (PySem.W.findIn K (.ref (He.ga K "NoFlow")) "name") (some none),
  He.eqO (PySem.W.findIn K (.ref (He.ga K "NoLoop")) "wrong") (some none),
  He.eqO (PySem.W.findIn K (.ref (He.ga K "NoModule")) "wrong") (some none),
  He.eqO (PySem.W.findIn K (.ref (He.ga K "NoName")) "name") (some none),
  He.eqO (PySem.W.findIn K (.ref (He.ga K "NoNet")) "wrong") (some none),
  He.eqO (PySem.W.findIn K (.ref (He.ga K "NoPlace")) "place") (some none),
  He.eqO (PySem.W.findIn K (.ref (He.ga K "NoRoom")) "lane") (some none),
  He.eqO (PySem.W.findIn K (.ref (He.ga K "NoState")) "at") (some none)]
def exL_7 (K : PySem.W.Frag) : List Bool := [
  He.eqO (PySem.W.findIn K (.ref (He.ga K "NoText")) "at") (some none),
  He.eqO (PySem.W.findIn K (.ref (He.ga K "NoText")) "row") (some none),
  He.eqO (PySem.W.findIn K (.ref (He.ga K "Over")) "lane") (some none),
  He.eqO (PySem.W.findIn K (.ref (He.ga K "Twice")) "name") (some none),
  He.eqO (PySem.W.nsIn K mainGlobals "ValueError") (some none),
  He.eqO (PySem.W.nsIn K mainGlobals "dict") (some none),
  He.eqO (PySem.W.nsIn K mainGlobals "int") (some none),
  He.eqO (PySem.W.nsIn K mainGlobals "isinstance") (some none),
  He.eqO (PySem.W.nsIn K mainGlobals "len") (some none),
  He.eqO (PySem.W.nsIn K mainGlobals "list") (some none),
  He.eqO (PySem.W.nsIn K mainGlobals "range") (some none),
  He.eqO (PySem.W.nsIn K mainGlobals "str") (some none),
  He.eqO (PySem.W.nsIn K mainGlobals "tuple") (some none),
  nsAllB K,
  subkB K,
  nsAllB K,
  exAllB K,
  He.eqO (PySem.W.nsIn K mainGlobals "LoomError") (some (some (.ref (He.ga K "LoomError")))),
  He.eqO (PySem.W.specialIn K (.builtin "object.__class__") "__get__") (some (some (.builtin "getset_descriptor.__get__"))),
  decide (PySem.W.takesIn K (.builtin "object.__class__") = some true)]
def exL (K : PySem.W.Frag) : List Bool := exL_0 K ++ exL_1 K ++ exL_2 K ++ exL_3 K ++ exL_4 K ++ exL_5 K ++ exL_6 K ++ exL_7 K
def exB (K : PySem.W.Frag) : Bool := (exL K).all id
theorem exget {K : PySem.W.Frag} (h : exB K = true) (i : Nat) {b : Bool} (hi : (exL K)[i]? = some b) : b = true := List.all_eq_true.mp h b (List.mem_of_getElem? hi)
abbrev hkX : PySem.W.Hook := He.hookX 5 [] ddL [] [] exB
def obX (s : PySem.W.SharedT) : He.AlX := He.obsX 5 [] ddL [] [] exB (HandSHeadRun.getT s)
theorem obX_eq (s : PySem.W.SharedT) : obX s = hkX.obs s.abs := He.obsX_eq (HandSHeadRun.getT_eq s)
abbrev RX : PySem.W.OpenRow := PySem.W.OpenLaw.row PySem.Challenge.rw_clockloom_k20_refusals_made
abbrev QX : PySem.Program := PySem.W.view RX.prog [43]
noncomputable def wX (w : World) := HandSHeadRun.wholeF (fun p => HandSHeadRun.stepQ (HandSHeadRun.denQ HandSHeadRun.tabQ) p w) HandSHeadRun.fenceQ 14000 RX.prog
theorem comb3 {a b c d e : Type} {W : Option a} {f : a -> b} {g : a -> c} {h : a -> d × e} {x : b} {y : c} {z : d × e} (e1 : Option.map (fun u => (f u, g u)) W = some (x, y)) (e2 : Option.map (fun u => (h u).1) W = some z.1) (e3 : Option.map (fun u => (h u).2) W = some z.2) : Option.map (fun u => (f u, g u, h u)) W = some (x, y, z) := by
  cases W with
  | none => cases e1
  | some u =>
    have r1 := Option.some.inj e1
    have r2 := Option.some.inj e2
    have r3 := Option.some.inj e3
    show some (f u, g u, h u) = _
    rw [show f u = x from congrArg Prod.fst r1, show g u = y from congrArg Prod.snd r1, show h u = z from Prod.ext r2 r3]
set_option maxHeartbeats 0 in
theorem runA (w : World) : Option.map (fun x => (HandSHeadRun.looksF RX.prog x.fst.heap x.snd.abs, HandSHeadRun.seenQ QX nm_all (PySem.importedModules RX.prog.main.body) (fun s => PySem.W.xlAt QX [] s && PySem.W.recOk RX.records s) x.snd.abs)) (wX w) = some (true, PySem.W.openGood QX nm_all) := by
  kernel_rfl
set_option maxHeartbeats 0 in
theorem runB (w : World) : Option.map (fun x => (obX x.snd).1) (wX w) = some (PySem.W.Hook.val hkX w : He.AlX).1 := by
  kernel_rfl
set_option maxHeartbeats 0 in
theorem runC (w : World) : Option.map (fun x => (obX x.snd).2) (wX w) = some (PySem.W.Hook.val hkX w : He.AlX).2 := by
  kernel_rfl
theorem runX (w : World) : HandSHeadRun.RunEqI RX QX hkX obX 14000 nm_all w := comb3 (runA w) (runB w) (runC w)
set_option maxHeartbeats 0 in
theorem factsX {l : PySem.W.OpenLaw} {w : World} {K : PySem.W.Frag} {h : Heap} {mg : Str → Option Value} {fa : Addr} (X : K.In h) (G : h.Ns mainGlobals mg) (hfa : mg "law" = some (.ref fa)) (cc : He.SaysX [] ddL [] [] exB w h K) :
    ∀ base : Heap, K.In base → base.Ns mainGlobals mg → WX.LawAt l.prog w K mg base fa 63 := by
  have c : exB K = true := cc.more
  have D : He.SaysD [] ddL K := cc.t.d
  obtain ⟨_, ⟨_, _, dV0, kV0, _, _, _, _, _, _, rfl, l0, e0, dv0, kw0⟩, _⟩ := D.def_ 0 (d := dd_0) rfl
  rcases dv0 with ⟨_, rfl⟩ | ⟨z, _⟩
  rotate_left
  · exact absurd rfl z
  obtain ⟨_, ⟨_, _, dV1, kV1, _, _, _, _, _, _, rfl, l1, e1, dv1, kw1⟩, _⟩ := D.def_ 1 (d := dd_1) rfl
  rcases dv1 with ⟨_, rfl⟩ | ⟨z, _⟩
  rotate_left
  · exact absurd rfl z
  obtain ⟨_, ⟨_, _, dV2, kV2, _, _, _, _, _, _, rfl, l2, e2, dv2, kw2⟩, _⟩ := D.def_ 2 (d := dd_2) rfl
  rcases dv2 with ⟨_, rfl⟩ | ⟨z, _⟩
  rotate_left
  · exact absurd rfl z
  obtain ⟨_, ⟨_, _, dV3, kV3, _, _, _, _, _, _, rfl, l3, e3, dv3, kw3⟩, _⟩ := D.def_ 3 (d := dd_3) rfl
  rcases dv3 with ⟨_, rfl⟩ | ⟨z, _⟩
  rotate_left
  · exact absurd rfl z
  obtain ⟨_, ⟨_, _, dV4, kV4, _, _, _, _, _, _, rfl, l4, e4, dv4, kw4⟩, _⟩ := D.def_ 4 (d := dd_4) rfl
  rcases dv4 with ⟨_, rfl⟩ | ⟨z, _⟩
  rotate_left
  · exact absurd rfl z
  obtain ⟨_, ⟨_, _, dV5, kV5, _, _, _, _, _, _, rfl, l5, e5, dv5, kw5⟩, _⟩ := D.def_ 5 (d := dd_5) rfl
  rcases dv5 with ⟨_, rfl⟩ | ⟨z, _⟩
  rotate_left
  · exact absurd rfl z
  obtain ⟨_, ⟨_, _, dV6, kV6, _, _, _, _, _, _, rfl, l6, e6, dv6, kw6⟩, _⟩ := D.def_ 6 (d := dd_6) rfl
  rcases dv6 with ⟨_, rfl⟩ | ⟨z, _⟩
  rotate_left
  · exact absurd rfl z
  obtain ⟨_, ⟨_, _, dV7, kV7, _, _, _, _, _, _, rfl, l7, e7, dv7, kw7⟩, _⟩ := D.def_ 7 (d := dd_7) rfl
  rcases dv7 with ⟨_, rfl⟩ | ⟨z, _⟩
  rotate_left
  · exact absurd rfl z
  obtain ⟨_, ⟨_, _, dV8, kV8, _, _, _, _, _, _, rfl, l8, e8, dv8, kw8⟩, _⟩ := D.def_ 8 (d := dd_8) rfl
  rcases dv8 with ⟨_, rfl⟩ | ⟨z, _⟩
  rotate_left
  · exact absurd rfl z
  obtain ⟨_, ⟨_, _, dV9, kV9, _, _, _, _, _, _, rfl, l9, e9, dv9, kw9⟩, _⟩ := D.def_ 9 (d := dd_9) rfl
  rcases dv9 with ⟨_, rfl⟩ | ⟨z, _⟩
  rotate_left
  · exact absurd rfl z
  obtain ⟨_, ⟨_, _, dV10, kV10, _, _, _, _, _, _, rfl, l10, e10, dv10, kw10⟩, _⟩ := D.def_ 10 (d := dd_10) rfl
  rcases dv10 with ⟨_, rfl⟩ | ⟨z, _⟩
  rotate_left
  · exact absurd rfl z
  obtain ⟨_, ⟨_, _, dV11, kV11, _, _, _, _, _, _, rfl, l11, e11, dv11, kw11⟩, _⟩ := D.def_ 11 (d := dd_11) rfl
  rcases dv11 with ⟨_, rfl⟩ | ⟨z, _⟩
  rotate_left
  · exact absurd rfl z
  obtain ⟨_, ⟨_, _, dV12, kV12, _, _, _, _, _, _, rfl, l12, e12, dv12, kw12⟩, _⟩ := D.def_ 12 (d := dd_12) rfl
  rcases dv12 with ⟨_, rfl⟩ | ⟨z, _⟩
  rotate_left
  · exact absurd rfl z
  obtain ⟨_, ⟨_, _, dV13, kV13, _, _, _, _, _, _, rfl, l13, e13, dv13, kw13⟩, _⟩ := D.def_ 13 (d := dd_13) rfl
  rcases dv13 with ⟨_, rfl⟩ | ⟨z, _⟩
  rotate_left
  · exact absurd rfl z
  obtain ⟨_, ⟨_, _, dV14, kV14, _, _, _, _, _, _, rfl, l14, e14, dv14, kw14⟩, _⟩ := D.def_ 14 (d := dd_14) rfl
  rcases dv14 with ⟨_, rfl⟩ | ⟨z, _⟩
  rotate_left
  · exact absurd rfl z
  obtain ⟨_, ⟨_, _, dV15, kV15, _, _, _, _, _, _, rfl, l15, e15, dv15, kw15⟩, _⟩ := D.def_ 15 (d := dd_15) rfl
  rcases dv15 with ⟨_, rfl⟩ | ⟨z, _⟩
  rotate_left
  · exact absurd rfl z
  obtain ⟨_, ⟨_, _, dV16, kV16, _, _, _, _, _, _, rfl, l16, e16, dv16, kw16⟩, _⟩ := D.def_ 16 (d := dd_16) rfl
  rcases dv16 with ⟨_, rfl⟩ | ⟨z, _⟩
  rotate_left
  · exact absurd rfl z
  obtain ⟨_, ⟨_, _, dV17, kV17, _, _, _, _, _, _, rfl, l17, e17, dv17, kw17⟩, _⟩ := D.def_ 17 (d := dd_17) rfl
  rcases dv17 with ⟨_, rfl⟩ | ⟨z, _⟩
  rotate_left
  · exact absurd rfl z
  obtain ⟨_, ⟨_, _, dV18, kV18, _, _, _, _, _, _, rfl, l18, e18, dv18, kw18⟩, _⟩ := D.def_ 18 (d := dd_18) rfl
  rcases dv18 with ⟨_, rfl⟩ | ⟨z, _⟩
  rotate_left
  · exact absurd rfl z
  obtain ⟨_, ⟨_, _, dV19, kV19, _, _, _, _, _, _, rfl, l19, e19, dv19, kw19⟩, _⟩ := D.def_ 19 (d := dd_19) rfl
  rcases dv19 with ⟨_, rfl⟩ | ⟨z, _⟩
  rotate_left
  · exact absurd rfl z
  obtain ⟨_, ⟨_, _, dV20, kV20, _, _, _, _, _, _, rfl, l20, e20, dv20, kw20⟩, _⟩ := D.def_ 20 (d := dd_20) rfl
  rcases dv20 with ⟨_, rfl⟩ | ⟨z, _⟩
  rotate_left
  · exact absurd rfl z
  obtain ⟨_, ⟨_, _, dV21, kV21, _, _, _, _, _, _, rfl, l21, e21, dv21, kw21⟩, _⟩ := D.def_ 21 (d := dd_21) rfl
  rcases dv21 with ⟨_, rfl⟩ | ⟨z, _⟩
  rotate_left
  · exact absurd rfl z
  obtain ⟨_, ⟨_, _, dV22, kV22, _, _, _, _, _, _, rfl, l22, e22, dv22, kw22⟩, _⟩ := D.def_ 22 (d := dd_22) rfl
  rcases dv22 with ⟨_, rfl⟩ | ⟨z, _⟩
  rotate_left
  · exact absurd rfl z
  obtain ⟨_, ⟨_, _, dV23, kV23, _, _, _, _, _, _, rfl, l23, e23, dv23, kw23⟩, _⟩ := D.def_ 23 (d := dd_23) rfl
  rcases dv23 with ⟨_, rfl⟩ | ⟨z, _⟩
  rotate_left
  · exact absurd rfl z
  obtain ⟨_, ⟨_, _, dV24, kV24, _, _, _, _, _, _, rfl, l24, e24, dv24, kw24⟩, _⟩ := D.def_ 24 (d := dd_24) rfl
  rcases dv24 with ⟨_, rfl⟩ | ⟨z, _⟩
  rotate_left
  · exact absurd rfl z
  obtain ⟨_, ⟨_, _, dV25, kV25, _, _, _, _, _, _, rfl, l25, e25, dv25, kw25⟩, _⟩ := D.def_ 25 (d := dd_25) rfl
  rcases dv25 with ⟨_, rfl⟩ | ⟨z, _⟩
  rotate_left
  · exact absurd rfl z
  obtain ⟨_, ⟨_, _, dV26, kV26, _, _, _, _, _, _, rfl, l26, e26, dv26, kw26⟩, _⟩ := D.def_ 26 (d := dd_26) rfl
  rcases dv26 with ⟨_, rfl⟩ | ⟨z, _⟩
  rotate_left
  · exact absurd rfl z
  obtain ⟨_, ⟨_, _, dV27, kV27, _, _, _, _, _, _, rfl, l27, e27, dv27, kw27⟩, _⟩ := D.def_ 27 (d := dd_27) rfl
  rcases dv27 with ⟨_, rfl⟩ | ⟨z, _⟩
  rotate_left
  · exact absurd rfl z
  obtain ⟨_, _, _, _, _, _, _, _, _, _, _, _, _, _, _, xl_Dry, xbb_Dry⟩ := excB_ok (exget c 5 rfl)
  obtain ⟨_, _, _, _, _, _, _, _, _, _, _, _, _, _, _, xl_NoBeat, xbb_NoBeat⟩ := excB_ok (exget c 27 rfl)
  obtain ⟨_, _, _, _, _, _, _, _, _, _, _, _, _, _, _, xl_NoBook, xbb_NoBook⟩ := excB_ok (exget c 34 rfl)
  obtain ⟨_, _, _, _, _, _, _, _, _, _, _, _, _, _, _, xl_NoDeed, xbb_NoDeed⟩ := excB_ok (exget c 41 rfl)
  obtain ⟨_, _, _, _, _, _, _, _, _, _, _, _, _, _, _, xl_NoFace, xbb_NoFace⟩ := excB_ok (exget c 54 rfl)
  obtain ⟨_, _, _, _, _, _, _, _, _, _, _, _, _, _, _, xl_NoFlow, xbb_NoFlow⟩ := excB_ok (exget c 61 rfl)
  obtain ⟨_, _, _, _, _, _, _, _, _, _, _, _, _, _, _, xl_NoLoop, xbb_NoLoop⟩ := excB_ok (exget c 80 rfl)
  obtain ⟨_, _, _, _, _, _, _, _, _, _, _, _, _, _, _, xl_NoModule, xbb_NoModule⟩ := excB_ok (exget c 93 rfl)
  obtain ⟨_, _, _, _, _, _, _, _, _, _, _, _, _, _, _, xl_NoName, xbb_NoName⟩ := excB_ok (exget c 100 rfl)
  obtain ⟨_, _, _, _, _, _, _, _, _, _, _, _, _, _, _, xl_NoNet, xbb_NoNet⟩ := excB_ok (exget c 107 rfl)
  obtain ⟨_, _, _, _, _, _, _, _, _, _, _, _, _, _, _, xl_NoPlace, xbb_NoPlace⟩ := excB_ok (exget c 120 rfl)
  obtain ⟨_, _, _, _, _, _, _, _, _, _, _, _, _, _, _, xl_NoRoom, xbb_NoRoom⟩ := excB_ok (exget c 127 rfl)
  obtain ⟨_, _, _, _, _, _, _, _, _, _, _, _, _, _, _, xl_NoState, xbb_NoState⟩ := excB_ok (exget c 134 rfl)
  obtain ⟨_, _, _, _, _, _, _, _, _, _, _, _, _, _, _, xl_NoText, xbb_NoText⟩ := excB_ok (exget c 141 rfl)
  obtain ⟨_, _, _, _, _, _, _, _, _, _, _, _, _, _, _, xl_Over, xbb_Over⟩ := excB_ok (exget c 172 rfl)
  obtain ⟨_, _, _, _, _, _, _, _, _, _, _, _, _, _, _, xl_Twice, xbb_Twice⟩ := excB_ok (exget c 191 rfl)
  exact all_mk X G hfa
    (He.eqO_ok (exget c 0 rfl))
    (exget c 1 rfl)
    (of_decide_eq_true (exget c 2 rfl))
    (of_decide_eq_true (exget c 3 rfl))
    (exget c 4 rfl)
    xl_Dry
    xbb_Dry
    (He.eqO_ok (exget c 6 rfl))
    (He.eqO_ok (exget c 7 rfl))
    (He.eqO_ok (exget c 8 rfl))
    (He.eqO_ok (exget c 9 rfl))
    (exget c 10 rfl)
    (He.eqO_ok (exget c 11 rfl))
    (of_decide_eq_true (exget c 12 rfl))
    (of_decide_eq_true (exget c 13 rfl))
    (of_decide_eq_true (exget c 14 rfl))
    (of_decide_eq_true (exget c 15 rfl))
    (He.eqO_ok (exget c 16 rfl))
    (exget c 17 rfl)
    (of_decide_eq_true (exget c 18 rfl))
    (of_decide_eq_true (exget c 19 rfl))
    (exget c 20 rfl)
    (exget c 21 rfl)
    (He.eqO_ok (exget c 22 rfl))
    (exget c 23 rfl)
    (of_decide_eq_true (exget c 24 rfl))
    (of_decide_eq_true (exget c 25 rfl))
    (exget c 26 rfl)
    xl_NoBeat
    xbb_NoBeat
    (He.eqO_ok (exget c 28 rfl))
    (He.eqO_ok (exget c 29 rfl))
    (exget c 30 rfl)
    (of_decide_eq_true (exget c 31 rfl))
    (of_decide_eq_true (exget c 32 rfl))
    (exget c 33 rfl)
    xl_NoBook
    xbb_NoBook
    (He.eqO_ok (exget c 35 rfl))
    (He.eqO_ok (exget c 36 rfl))
    (exget c 37 rfl)
    (of_decide_eq_true (exget c 38 rfl))
    (of_decide_eq_true (exget c 39 rfl))
    (exget c 40 rfl)
    xl_NoDeed
    xbb_NoDeed
    (He.eqO_ok (exget c 42 rfl))
    (He.eqO_ok (exget c 43 rfl))
    (exget c 44 rfl)
    (of_decide_eq_true (exget c 45 rfl))
    (of_decide_eq_true (exget c 46 rfl))
    (exget c 47 rfl)
    (exget c 48 rfl)
    (He.eqO_ok (exget c 49 rfl))
    (exget c 50 rfl)
    (of_decide_eq_true (exget c 51 rfl))
    (of_decide_eq_true (exget c 52 rfl))
    (exget c 53 rfl)
    xl_NoFace
    xbb_NoFace
    (He.eqO_ok (exget c 55 rfl))
    (He.eqO_ok (exget c 56 rfl))
    (exget c 57 rfl)
    (of_decide_eq_true (exget c 58 rfl))
    (of_decide_eq_true (exget c 59 rfl))
    (exget c 60 rfl)
    xl_NoFlow
    xbb_NoFlow
    (He.eqO_ok (exget c 62 rfl))
    (He.eqO_ok (exget c 63 rfl))
    (exget c 64 rfl)
    (of_decide_eq_true (exget c 65 rfl))
    (of_decide_eq_true (exget c 66 rfl))
    (exget c 67 rfl)
    (exget c 68 rfl)
    (He.eqO_ok (exget c 69 rfl))
    (exget c 70 rfl)
    (of_decide_eq_true (exget c 71 rfl))
    (of_decide_eq_true (exget c 72 rfl))
    (exget c 73 rfl)
    (exget c 74 rfl)
    (He.eqO_ok (exget c 75 rfl))
    (exget c 76 rfl)
    (of_decide_eq_true (exget c 77 rfl))
    (of_decide_eq_true (exget c 78 rfl))
    (exget c 79 rfl)
    xl_NoLoop
    xbb_NoLoop
    (He.eqO_ok (exget c 81 rfl))
    (He.eqO_ok (exget c 82 rfl))
    (exget c 83 rfl)
    (of_decide_eq_true (exget c 84 rfl))
    (of_decide_eq_true (exget c 85 rfl))
    (exget c 86 rfl)
    (exget c 87 rfl)
    (He.eqO_ok (exget c 88 rfl))
    (exget c 89 rfl)
    (of_decide_eq_true (exget c 90 rfl))
    (of_decide_eq_true (exget c 91 rfl))
    (exget c 92 rfl)
    xl_NoModule
    xbb_NoModule
    (He.eqO_ok (exget c 94 rfl))
    (He.eqO_ok (exget c 95 rfl))
    (exget c 96 rfl)
    (of_decide_eq_true (exget c 97 rfl))
    (of_decide_eq_true (exget c 98 rfl))
    (exget c 99 rfl)
    xl_NoName
    xbb_NoName
    (He.eqO_ok (exget c 101 rfl))
    (He.eqO_ok (exget c 102 rfl))
    (exget c 103 rfl)
    (of_decide_eq_true (exget c 104 rfl))
    (of_decide_eq_true (exget c 105 rfl))
    (exget c 106 rfl)
    xl_NoNet
    xbb_NoNet
    (He.eqO_ok (exget c 108 rfl))
    (He.eqO_ok (exget c 109 rfl))
    (exget c 110 rfl)
    (of_decide_eq_true (exget c 111 rfl))
    (of_decide_eq_true (exget c 112 rfl))
    (exget c 113 rfl)
    (exget c 114 rfl)
    (He.eqO_ok (exget c 115 rfl))
    (exget c 116 rfl)
    (of_decide_eq_true (exget c 117 rfl))
    (of_decide_eq_true (exget c 118 rfl))
    (exget c 119 rfl)
    xl_NoPlace
    xbb_NoPlace
    (He.eqO_ok (exget c 121 rfl))
    (He.eqO_ok (exget c 122 rfl))
    (exget c 123 rfl)
    (of_decide_eq_true (exget c 124 rfl))
    (of_decide_eq_true (exget c 125 rfl))
    (exget c 126 rfl)
    xl_NoRoom
    xbb_NoRoom
    (He.eqO_ok (exget c 128 rfl))
    (He.eqO_ok (exget c 129 rfl))
    (exget c 130 rfl)
    (of_decide_eq_true (exget c 131 rfl))
    (of_decide_eq_true (exget c 132 rfl))
    (exget c 133 rfl)
    xl_NoState
    xbb_NoState
    (He.eqO_ok (exget c 135 rfl))
    (He.eqO_ok (exget c 136 rfl))
    (exget c 137 rfl)
    (of_decide_eq_true (exget c 138 rfl))
    (of_decide_eq_true (exget c 139 rfl))
    (exget c 140 rfl)
    xl_NoText
    xbb_NoText
    (He.eqO_ok (exget c 142 rfl))
    (He.eqO_ok (exget c 143 rfl))
    (exget c 144 rfl)
    (of_decide_eq_true (exget c 145 rfl))
    (of_decide_eq_true (exget c 146 rfl))
    (exget c 147 rfl)
    (exget c 148 rfl)
    (He.eqO_ok (exget c 149 rfl))
    (exget c 150 rfl)
    (of_decide_eq_true (exget c 151 rfl))
    (of_decide_eq_true (exget c 152 rfl))
    (exget c 153 rfl)
    (exget c 154 rfl)
    (He.eqO_ok (exget c 155 rfl))
    (exget c 156 rfl)
    (of_decide_eq_true (exget c 157 rfl))
    (of_decide_eq_true (exget c 158 rfl))
    (exget c 159 rfl)
    (exget c 160 rfl)
    (He.eqO_ok (exget c 161 rfl))
    (exget c 162 rfl)
    (of_decide_eq_true (exget c 163 rfl))
    (of_decide_eq_true (exget c 164 rfl))
    (exget c 165 rfl)
    (exget c 166 rfl)
    (He.eqO_ok (exget c 167 rfl))
    (exget c 168 rfl)
    (of_decide_eq_true (exget c 169 rfl))
    (of_decide_eq_true (exget c 170 rfl))
    (exget c 171 rfl)
    xl_Over
    xbb_Over
    (He.eqO_ok (exget c 173 rfl))
    (He.eqO_ok (exget c 174 rfl))
    (exget c 175 rfl)
    (of_decide_eq_true (exget c 176 rfl))
    (of_decide_eq_true (exget c 177 rfl))
    (exget c 178 rfl)
    (exget c 179 rfl)
    (He.eqO_ok (exget c 180 rfl))
    (exget c 181 rfl)
    (of_decide_eq_true (exget c 182 rfl))
    (of_decide_eq_true (exget c 183 rfl))
    (exget c 184 rfl)
    (exget c 185 rfl)
    (He.eqO_ok (exget c 186 rfl))
    (exget c 187 rfl)
    (of_decide_eq_true (exget c 188 rfl))
    (of_decide_eq_true (exget c 189 rfl))
    (exget c 190 rfl)
    xl_Twice
    xbb_Twice
    (He.eqO_ok (exget c 192 rfl))
    (He.eqO_ok (exget c 193 rfl))
    (of_decide_eq_true (exget c 194 rfl))
    (He.eqO_ok (exget c 195 rfl))
    l0
    e0
    (exget c 196 rfl)
    (He.eqO_ok (exget c 197 rfl))
    l17
    e17
    (exget c 198 rfl)
    (He.eqO_ok (exget c 199 rfl))
    l18
    e18
    (exget c 200 rfl)
    (He.eqO_ok (exget c 201 rfl))
    l19
    e19
    (exget c 202 rfl)
    (He.eqO_ok (exget c 203 rfl))
    l20
    e20
    (exget c 204 rfl)
    (He.eqO_ok (exget c 205 rfl))
    l21
    e21
    (exget c 206 rfl)
    (He.eqO_ok (exget c 207 rfl))
    l22
    e22
    (exget c 208 rfl)
    (He.eqO_ok (exget c 209 rfl))
    l23
    e23
    (exget c 210 rfl)
    (He.eqO_ok (exget c 211 rfl))
    l24
    e24
    (exget c 212 rfl)
    (He.eqO_ok (exget c 213 rfl))
    l25
    e25
    (exget c 214 rfl)
    (He.eqO_ok (exget c 215 rfl))
    l26
    e26
    (exget c 216 rfl)
    (He.eqO_ok (exget c 217 rfl))
    l27
    e27
    (exget c 218 rfl)
    (He.eqO_ok (exget c 219 rfl))
    l1
    e1
    (exget c 220 rfl)
    (of_decide_eq_true (exget c 221 rfl))
    (He.eqO_ok (exget c 222 rfl))
    l2
    e2
    (exget c 223 rfl)
    (of_decide_eq_true (exget c 224 rfl))
    (He.eqO_ok (exget c 225 rfl))
    l3
    e3
    (exget c 226 rfl)
    (of_decide_eq_true (exget c 227 rfl))
    (He.eqO_ok (exget c 228 rfl))
    l4
    e4
    (exget c 229 rfl)
    (of_decide_eq_true (exget c 230 rfl))
    (He.eqO_ok (exget c 231 rfl))
    l5
    e5
    (exget c 232 rfl)
    (of_decide_eq_true (exget c 233 rfl))
    (He.eqO_ok (exget c 234 rfl))
    l6
    e6
    (exget c 235 rfl)
    (of_decide_eq_true (exget c 236 rfl))
    (He.eqO_ok (exget c 237 rfl))
    l7
    e7
    (exget c 238 rfl)
    (of_decide_eq_true (exget c 239 rfl))
    (He.eqO_ok (exget c 240 rfl))
    l8
    e8
    (exget c 241 rfl)
    (of_decide_eq_true (exget c 242 rfl))
    (He.eqO_ok (exget c 243 rfl))
    l9
    e9
    (exget c 244 rfl)
    (of_decide_eq_true (exget c 245 rfl))
    (He.eqO_ok (exget c 246 rfl))
    l10
    e10
    (exget c 247 rfl)
    (of_decide_eq_true (exget c 248 rfl))
    (He.eqO_ok (exget c 249 rfl))
    l11
    e11
    (exget c 250 rfl)
    (of_decide_eq_true (exget c 251 rfl))
    (He.eqO_ok (exget c 252 rfl))
    l12
    e12
    (exget c 253 rfl)
    (of_decide_eq_true (exget c 254 rfl))
    (He.eqO_ok (exget c 255 rfl))
    l13
    e13
    (exget c 256 rfl)
    (of_decide_eq_true (exget c 257 rfl))
    (He.eqO_ok (exget c 258 rfl))
    l14
    e14
    (exget c 259 rfl)
    (of_decide_eq_true (exget c 260 rfl))
    (He.eqO_ok (exget c 261 rfl))
    l15
    e15
    (exget c 262 rfl)
    (of_decide_eq_true (exget c 263 rfl))
    (He.eqO_ok (exget c 264 rfl))
    l16
    e16
    (exget c 265 rfl)
    (of_decide_eq_true (exget c 266 rfl))
    (He.eqO_ok (exget c 267 rfl))
    (He.eqO_ok (exget c 268 rfl))
    (He.eqO_ok (exget c 269 rfl))
    (He.eqO_ok (exget c 270 rfl))
    (He.eqO_ok (exget c 271 rfl))
    (He.eqO_ok (exget c 272 rfl))
    (He.eqO_ok (exget c 273 rfl))
    (He.eqO_ok (exget c 274 rfl))
    (He.eqO_ok (exget c 275 rfl))
    (He.eqO_ok (exget c 276 rfl))
    (He.eqO_ok (exget c 277 rfl))
    (He.eqO_ok (exget c 278 rfl))
    (He.eqO_ok (exget c 279 rfl))
    (He.eqO_ok (exget c 280 rfl))
    (He.eqO_ok (exget c 281 rfl))
    (He.eqO_ok (exget c 282 rfl))
    (He.eqO_ok (exget c 283 rfl))
    (He.eqO_ok (exget c 284 rfl))
    (He.eqO_ok (exget c 285 rfl))
    (He.eqO_ok (exget c 286 rfl))
    (He.eqO_ok (exget c 287 rfl))
    (He.eqO_ok (exget c 288 rfl))
    (He.eqO_ok (exget c 289 rfl))
    (He.eqO_ok (exget c 290 rfl))
    (He.eqO_ok (exget c 291 rfl))
    (He.eqO_ok (exget c 292 rfl))
    (subkB_ok (exget c 293 rfl) (exget c 294 rfl))
    (exAllB_ok (exget c 295 rfl) (exget c 296 rfl) (He.eqO_ok (exget c 297 rfl)) (He.eqO_ok (exget c 298 rfl)) (of_decide_eq_true (exget c 299 rfl)))
end WK
open PySem PySem.W PySem.Calls PyProof.Rows
set_option maxRecDepth 100000 in
set_option maxHeartbeats 0 in
theorem PySem.Challenge.cw_clockloom_k20_refusals_made_holds : PySem.Challenge.rw_clockloom_k20_refusals_made.Holds := by
  w_on; o_law
  refine HandSHeadRun.head_imp (r := OpenLaw.row PySem.Challenge.rw_clockloom_k20_refusals_made) (q := view (OpenLaw.row PySem.Challenge.rw_clockloom_k20_refusals_made).prog [43]) (H := WK.hkX) (ob := WK.obX) (M := 14000) (loose := WK.nm_all) (d := HandSHeadRun.topDef (OpenLaw.row PySem.Challenge.rw_clockloom_k20_refusals_made).prog 43) (kwd := []) WK.obX_eq
    WK.runX (by kernel_rfl) (by kernel_rfl) (by kernel_rfl) (by rfl) (by first | assumption | decide +kernel) (by decide +kernel) ⟨rfl, rfl, rfl, rfl, rfl, by decide +kernel⟩ ?hw ?hc
  case hw => w_witness2
  case hc =>
    refine WX.walk_at (l := PySem.Challenge.rw_clockloom_k20_refusals_made) (n := 63) rfl (by decide) (by kernel_rfl) ?F
    case F =>
      intro w mg fa h Y G hmg0
      obtain ⟨K, KX, c⟩ := Y
      have hmg : mg ("law" : PySem.Str) = some (.ref fa) := by
        have e : (HandSHeadRun.topDef (OpenLaw.row PySem.Challenge.rw_clockloom_k20_refusals_made).prog 43).name = ("law" : PySem.Str) := by kernel_rfl
        rw [← e]
        exact hmg0
      exact ⟨K, KX, WK.factsX (l := PySem.Challenge.rw_clockloom_k20_refusals_made) KX G hmg c⟩
