import PyProof.Rows.All
import Wide.All
import OpenK.AllK
import Wide.FinOn
import KE.KStateDown
import HandS.Head0
import HandS.Head1
import HandS.Head2
import HandS.Head3
import HandS.HeadEnd
import HandS.HeadHook1
import HandS.HeadHook2
import HandS.HeadHook3
import HandS.HeadHook4
import HandS.Base
import HandS.Call
import HandS.List
import HandS.Comp
import HandS.Ends
import HandS.Iter
import HandS.Text
import HandS.Words
import HandS.StrMore
import HandS.ForMost
import HandS.Exc
import HandS.ExcOwn
import HandS.ExcInit
import HandS.ExcField
import HandS.IsInst
import HandS.TryOnly
import HandS.WordsExc
import KE.KExcIs
import HandS.Walk
import KE.GoesZip
import KE.GoesMore
import KE.GoesEnum
import HandS.Defaults
import HandS.Gcd
import HandS.Dict
import HandS.Translate
import HandS.OwnEq
import HandS.MakeKwOnly
import HandS.FStr
import KE.KFmtOwn
import KE.KStrOpen
import HandS.Style
import HandS.Flow
import HandS.WideBits
import HandS.Wide
import HandS.Codes
import HandS.ExcIs
import PySem.Challenge.RW_clockloom_k05_words_as_objects
set_option Elab.async false
set_option linter.all false
set_option maxRecDepth 100000
set_option maxHeartbeats 2000000
namespace WK
/-- the sign at place i of the row that head and again tell -/
def row (h a : List Nat) (i : Nat) : Nat := if i < h.length then h.getD i 0 else a.getD ((i - h.length) % a.length) 0
def Per (R : Nat → Nat) (c p : Nat) : Prop := 0 < p ∧ ∀ i, c ≤ i → R (i + p) = R i
structure Tells (R : Nat → Nat) (x y : List Nat) : Prop where
  pos : 0 < y.length
  eq : ∀ i, row x y i = R i
structure Lst (R : Nat → Nat) (x y : List Nat) : Prop where
  tells : Tells R x y
  head : ∀ c p, Per R c p → x.length ≤ c
  again : ∀ c p, Per R c p → y.length ≤ p
theorem row_head {h a : List Nat} {i : Nat} (hi : i < h.length) : row h a i = h.getD i 0 := if_pos hi
theorem row_again {h a : List Nat} {i : Nat} (hi : h.length ≤ i) : row h a i = a.getD ((i - h.length) % a.length) 0 := if_neg (by omega)
theorem row_per {h a : List Nat} (ha : 0 < a.length) : Per (row h a) h.length a.length := by
  refine ⟨ha, fun i hi => ?_⟩
  rw [row_again (by omega), row_again hi, show i + a.length - h.length = (i - h.length) + a.length by omega, Nat.add_mod_right]
theorem Per.mul {R : Nat → Nat} {c p : Nat} (P : Per R c p) : ∀ (k i : Nat), c ≤ i → R (i + k * p) = R i
  | 0, i, _ => by rw [Nat.zero_mul, Nat.add_zero]
  | k + 1, i, hi => by
    rw [Nat.succ_mul, ← Nat.add_assoc, P.2 (i + k * p) (by omega), Per.mul P k i hi]
theorem Per.mod {R : Nat → Nat} {c p : Nat} (P : Per R c p) {i j : Nat} (hi : c ≤ i) (hj : c ≤ j) (e : (i - c) % p = (j - c) % p) : R i = R j := by
  have h1 := Nat.div_add_mod (i - c) p
  have h2 := Nat.div_add_mod (j - c) p
  have k1 : R i = R (c + (i - c) % p) := by
    have := P.mul ((i - c) / p) (c + (i - c) % p) (by omega)
    rw [← this, Nat.mul_comm]
    congr 1
    omega
  have k2 : R j = R (c + (j - c) % p) := by
    have := P.mul ((j - c) / p) (c + (j - c) % p) (by omega)
    rw [← this, Nat.mul_comm]
    congr 1
    omega
  rw [k1, k2, e]
/-- a period behind one place is one behind each place from which on there is one -/
theorem Per.down {R : Nat → Nat} {c p c' p' : Nat} (P : Per R c p) (P' : Per R c' p') : Per R c p' := by
  refine ⟨P'.1, fun i hi => ?_⟩
  have h1 := P.1
  have k : c' ≤ i + c' * p := by
    have : c' * 1 ≤ c' * p := Nat.mul_le_mul_left _ h1
    omega
  have e1 := P.mul c' (i + p') (by omega)
  have e2 := P.mul c' i hi
  have e3 := P'.2 (i + c' * p) k
  rw [← e1, ← e2, ← e3]
  congr 1
  omega
theorem Tells.per {R : Nat → Nat} {x y : List Nat} (T : Tells R x y) : Per R x.length y.length := by
  have h := row_per (h := x) T.pos
  exact ⟨h.1, fun i hi => by rw [← T.eq, ← T.eq]; exact h.2 i hi⟩
theorem getD_ext {x y : List Nat} (hl : x.length = y.length) (h : ∀ i, i < x.length → x.getD i 0 = y.getD i 0) : x = y := by
  apply List.ext_getElem hl
  intro i h1 h2
  have := h i h1
  rw [List.getD_eq_getElem?_getD, List.getD_eq_getElem?_getD, List.getElem?_eq_getElem h1, List.getElem?_eq_getElem h2] at this
  exact this
theorem Lst.uniq {R : Nat → Nat} {x y x' y' : List Nat} (L : Lst R x y) (L' : Lst R x' y') : x = x' ∧ y = y' := by
  have e1 : x.length = x'.length := Nat.le_antisymm (L.head _ _ L'.tells.per) (L'.head _ _ L.tells.per)
  have e2 : y.length = y'.length := Nat.le_antisymm (L.again _ _ L'.tells.per) (L'.again _ _ L.tells.per)
  refine ⟨getD_ext e1 fun i hi => ?_, getD_ext e2 fun i hi => ?_⟩
  · rw [← row_head (a := y) hi, ← row_head (h := x') (a := y') (by omega), L.tells.eq, L'.tells.eq]
  · have h1 := row_again (h := x) (a := y) (i := x.length + i) (by omega)
    have h2 := row_again (h := x') (a := y') (i := x'.length + i) (by omega)
    rw [show x.length + i - x.length = i by omega, Nat.mod_eq_of_lt hi] at h1
    rw [show x'.length + i - x'.length = i by omega, Nat.mod_eq_of_lt (by omega)] at h2
    rw [← h1, ← h2, L.tells.eq, L'.tells.eq, e1]
/-- a row with least places and a least period -/
theorem Lst.of {R : Nat → Nat} {x y : List Nat} (T : Tells R x y) (hc : ∀ c p, Per R c p → x.length ≤ c) (hp : ∀ p, Per R x.length p → y.length ≤ p) : Lst R x y :=
  ⟨T, hc, fun _ _ P => hp _ (T.per.down P)⟩
theorem row_ext {h a h' a' : List Nat} (e : ∀ i, row h a i = row h' a' i) : row h a = row h' a' := funext e
end WK
namespace WK
theorem Per.mono {R : Nat → Nat} {c c' p : Nat} (P : Per R c p) (h : c ≤ c') : Per R c' p := ⟨P.1, fun i hi => P.2 i (by omega)⟩
theorem least_one {P : Nat → Prop} : ∀ n, 1 ≤ n → P n → ∃ d, 1 ≤ d ∧ d ≤ n ∧ P d ∧ ∀ i, 1 ≤ i → i < d → ¬ P i := by
  intro n
  induction n using Nat.strongRecOn with
  | ind n ih =>
    intro h1 hp
    by_cases h : ∃ i, 1 ≤ i ∧ i < n ∧ P i
    · obtain ⟨i, a, b, c⟩ := h
      obtain ⟨d, e1, e2, e3, e4⟩ := ih i b a c
      exact ⟨d, e1, by omega, e3, e4⟩
    · exact ⟨n, h1, Nat.le_refl _, hp, fun i a b c => h ⟨i, a, b, c⟩⟩
theorem row_nil {a : List Nat} (i : Nat) : row [] a i = a.getD (i % a.length) 0 := by
  rw [row_again (Nat.zero_le _)]
  rfl
theorem row_shift {h a : List Nat} (i : Nat) : row h a (h.length + i) = row [] a i := by
  rw [row_again (by omega), row_nil, Nat.add_sub_cancel_left]
theorem getD_app {a b : List Nat} {i : Nat} : (a ++ b).getD i 0 = if i < a.length then a.getD i 0 else b.getD (i - a.length) 0 := by
  rw [List.getD_eq_getElem?_getD]
  by_cases h : i < a.length
  · rw [if_pos h, List.getElem?_append_left h, List.getD_eq_getElem?_getD]
  · rw [if_neg h, List.getElem?_append_right (by omega), List.getD_eq_getElem?_getD]
theorem getD_drop {a : List Nat} {d i : Nat} : (a.drop d).getD i 0 = a.getD (d + i) 0 := by
  rw [List.getD_eq_getElem?_getD, List.getElem?_drop, List.getD_eq_getElem?_getD]
theorem getD_take {a : List Nat} {d i : Nat} (h : i < d) : (a.take d).getD i 0 = a.getD i 0 := by
  rw [List.getD_eq_getElem?_getD, List.getElem?_take, if_pos h, List.getD_eq_getElem?_getD]
/-- the again stands at the d-th place of itself told twice -/
def Again (a : List Nat) (d : Nat) : Prop := ((a ++ a).drop d).take a.length = a
theorem again_row {a : List Nat} {i : Nat} (hi : i < 2 * a.length) : (a ++ a).getD i 0 = row [] a i := by
  rw [getD_app, row_nil]
  by_cases h : i < a.length
  · rw [if_pos h, Nat.mod_eq_of_lt h]
  · rw [if_neg h, Nat.mod_eq_sub_mod (by omega), Nat.mod_eq_of_lt (by omega)]
theorem again_iff {a : List Nat} {d : Nat} (h1 : 1 ≤ d) (hd : d ≤ a.length) : Again a d ↔ Per (row [] a) 0 d := by
  have hl : ((a ++ a).drop d).length = 2 * a.length - d := by rw [List.length_drop, List.length_append]; omega
  constructor
  · intro h
    refine ⟨h1, fun i _ => ?_⟩
    have ha : 0 < a.length := by omega
    have P := row_per (h := []) ha
    have e : ∀ j, j < a.length → row [] a (d + j) = row [] a j := fun j hj => by
      have q := congrArg (fun l : List Nat => l.getD j 0) h
      rw [getD_take hj, getD_drop, again_row (by omega)] at q
      rw [q, row_nil, Nat.mod_eq_of_lt hj]
    have hm := Nat.mod_lt i ha
    have k1 := P.mod (i := i + d) (j := d + i % a.length) (Nat.zero_le _) (Nat.zero_le _) (by
      show (i + d - 0) % a.length = (d + i % a.length - 0) % a.length
      rw [Nat.sub_zero, Nat.sub_zero, Nat.add_comm i d, Nat.add_mod_mod])
    have k2 := P.mod (i := i) (j := i % a.length) (Nat.zero_le _) (Nat.zero_le _) (by
      show (i - 0) % a.length = (i % a.length - 0) % a.length
      rw [Nat.sub_zero, Nat.sub_zero, Nat.mod_mod])
    rw [k1, e _ hm, k2]
  · intro h
    refine getD_ext (by rw [List.length_take, hl]; omega) fun j hj => ?_
    rw [List.length_take, hl] at hj
    have hj' : j < a.length := by omega
    rw [getD_take hj', getD_drop, again_row (by omega), Nat.add_comm, h.2 j (Nat.zero_le _), row_nil, Nat.mod_eq_of_lt hj']
/-- the least period of an again -/
structure Sho (a : List Nat) (d : Nat) : Prop where
  one : 1 ≤ d
  le : d ≤ a.length
  per : Per (row [] a) 0 d
  least : ∀ p, Per (row [] a) 0 p → d ≤ p
theorem sho_of {a : List Nat} {d : Nat} (h1 : 1 ≤ d) (hd : d ≤ a.length) (hm : Again a d) (hl : ∀ i, 1 ≤ i → i < d → ¬ Again a i) : Sho a d := by
  refine ⟨h1, hd, (again_iff h1 hd).mp hm, fun p hp => ?_⟩
  by_cases h : d ≤ p
  · exact h
  · exact absurd ((again_iff hp.1 (by omega)).mpr hp) (hl p hp.1 (by omega))
theorem again_self (a : List Nat) : Again a a.length := by
  unfold Again
  rw [List.drop_left, List.take_length]
theorem sho_ex {a : List Nat} (h : 0 < a.length) : ∃ d, 1 ≤ d ∧ d ≤ a.length ∧ Again a d ∧ ∀ i, 1 ≤ i → i < d → ¬ Again a i :=
  least_one a.length h (again_self a)
theorem Sho.row {a : List Nat} {d : Nat} (S : Sho a d) (i : Nat) : row [] (a.take d) i = row [] a i := by
  have hl : (a.take d).length = d := by rw [List.length_take]; exact Nat.min_eq_left S.le
  have hm := Nat.mod_lt i S.one
  rw [row_nil, hl, getD_take hm]
  have k := S.per.mod (i := i) (j := i % d) (Nat.zero_le _) (Nat.zero_le _) (by rw [Nat.sub_zero, Nat.sub_zero, Nat.mod_mod])
  have hle := S.le
  rw [k, row_nil, Nat.mod_eq_of_lt (Nat.lt_of_lt_of_le hm S.le)]
theorem Sho.row_head {a : List Nat} {d : Nat} (S : Sho a d) (h : List Nat) (i : Nat) : WK.row h (a.take d) i = WK.row h a i := by
  by_cases hi : i < h.length
  · rw [WK.row_head hi, WK.row_head hi]
  · obtain ⟨j, rfl⟩ : ∃ j, i = h.length + j := ⟨i - h.length, by omega⟩
    rw [row_shift, row_shift, S.row]
/-- the row of agains as a list -/
theorem rep_get {a : List Nat} (ha : 0 < a.length) : ∀ (k i : Nat), i < k * a.length → (List.flatten (List.replicate k a)).getD i 0 = a.getD (i % a.length) 0
  | 0, i, h => by omega
  | k + 1, i, h => by
    rw [List.replicate_succ, List.flatten_cons, getD_app]
    rw [Nat.succ_mul] at h
    by_cases hi : i < a.length
    · rw [if_pos hi, Nat.mod_eq_of_lt hi]
    · rw [if_neg hi, rep_get ha k (i - a.length) (by omega), ← Nat.mod_eq_sub_mod (by omega)]
theorem rep_length (a : List Nat) : ∀ k, (List.flatten (List.replicate k a)).length = k * a.length
  | 0 => by rw [Nat.zero_mul]; rfl
  | k + 1 => by rw [List.replicate_succ, List.flatten_cons, List.length_append, rep_length a k, Nat.succ_mul, Nat.add_comm]
/-- the head's last m signs are as in the row of agains -/
def Suf (h a : List Nat) (k m : Nat) : Prop := h.drop (h.length - m) = (List.flatten (List.replicate k a)).drop (k * a.length - m)
theorem suf_iff {h a : List Nat} {k m : Nat} (ha : 0 < a.length) (hk : h.length < k * a.length) (hm : m ≤ h.length) : Suf h a k m ↔ Per (row h a) (h.length - m) a.length := by
  have hL : (List.flatten (List.replicate k a)).length = k * a.length := rep_length a k
  have R := row_per (h := h) ha
  have key : ∀ j, j < m → (h.drop (h.length - m)).getD j 0 = row h a (h.length - m + j) ∧ ((List.flatten (List.replicate k a)).drop (k * a.length - m)).getD j 0 = row h a (h.length - m + j + k * a.length) := fun j hj => by
    constructor
    · rw [getD_drop, row_head (by omega)]
    · rw [getD_drop, rep_get ha k _ (by omega), row_again (by omega)]
      congr 2
      omega
  constructor
  · intro hs
    have e : ∀ i, h.length - m ≤ i → i < h.length → row h a (i + k * a.length) = row h a i := fun i h1 h2 => by
      have q := key (i - (h.length - m)) (by omega)
      rw [hs, show h.length - m + (i - (h.length - m)) = i by omega] at q
      rw [← q.2, ← q.1]
    have e2 : ∀ i, h.length - m ≤ i → row h a (i + k * a.length) = row h a i := fun i h1 => by
      by_cases h2 : i < h.length
      · exact e i h1 h2
      · exact R.mul k i (by omega)
    refine ⟨ha, fun i hi => ?_⟩
    rw [← e2 (i + a.length) (by omega), ← e2 i hi]
    have := R.2 (i + k * a.length) (by omega)
    rw [← this]
    congr 1
    omega
  · intro P
    refine getD_ext (by rw [List.length_drop, List.length_drop, hL]; omega) fun j hj => ?_
    rw [List.length_drop] at hj
    obtain ⟨k1, k2⟩ := key j (by omega)
    rw [k1, k2, P.mul k _ (by omega)]
theorem suf_zero {h a : List Nat} {k : Nat} : Suf h a k 0 := by
  unfold Suf
  rw [Nat.sub_zero, Nat.sub_zero, List.drop_length]
  have := rep_length a k
  rw [← this, List.drop_length]
theorem suf_le {h a : List Nat} {k m m' : Nat} (ha : 0 < a.length) (hk : h.length < k * a.length) (hm : m ≤ h.length) (hs : Suf h a k m) (h' : m' ≤ m) : Suf h a k m' :=
  (suf_iff ha hk (by omega)).mpr (((suf_iff ha hk hm).mp hs).mono (by omega))
/-- how many signs of the head are taken in -/
structure Tak (h a : List Nat) (m : Nat) : Prop where
  le : m ≤ h.length
  per : Per (row h a) (h.length - m) a.length
  least : ∀ c p, Per (row h a) c p → h.length - m ≤ c
theorem tak_of {h a : List Nat} {k m : Nat} (ha : 0 < a.length) (hk : h.length < k * a.length) (hm : m ≤ h.length) (hs : Suf h a k m) (hl : ∀ i, m < i → i ≤ h.length → ¬ Suf h a k i) : Tak h a m := by
  refine ⟨hm, (suf_iff ha hk hm).mp hs, fun c p P => ?_⟩
  by_cases h1 : h.length - m ≤ c
  · exact h1
  · have P2 := P.down (row_per (h := h) ha)
    refine absurd ((suf_iff ha hk (Nat.sub_le h.length c)).mpr ?_) (hl (h.length - c) (by omega) (by omega))
    rw [show h.length - (h.length - c) = c by omega]
    exact P2
/-- the again begun at another place -/
theorem turn_get {a : List Nat} {cut j : Nat} (hc : cut ≤ a.length) (hj : j < a.length) : (a.drop cut ++ a.take cut).getD j 0 = a.getD ((cut + j) % a.length) 0 := by
  rw [getD_app, List.length_drop]
  by_cases h : j < a.length - cut
  · rw [if_pos h, getD_drop, Nat.mod_eq_of_lt (by omega)]
  · rw [if_neg h, getD_take (by omega), Nat.mod_eq_sub_mod (by omega), Nat.mod_eq_of_lt (by omega)]
    congr 1
    omega
theorem turn_len {a : List Nat} {cut : Nat} (hc : cut ≤ a.length) : (a.drop cut ++ a.take cut).length = a.length := by
  rw [List.length_append, List.length_drop, List.length_take]
  omega
theorem lst_of {h a : List Nat} {d m : Nat} (ha : 0 < a.length) (S : Sho a d) (T : Tak h (a.take d) m) :
    Lst (row h a) (h.take (h.length - m)) ((a.take d).drop (d - m % d) ++ (a.take d).take (d - m % d)) := by
  have hl : (a.take d).length = d := by rw [List.length_take]; exact Nat.min_eq_left S.le
  have hR : row h (a.take d) = row h a := funext fun i => S.row_head h i
  have h1 := S.one
  have hmd := Nat.mod_lt m h1
  have hc : d - m % d ≤ (a.take d).length := by omega
  have hx : (h.take (h.length - m)).length = h.length - m := by rw [List.length_take]; omega
  have hm := T.le
  have T2 := T.per
  rw [hR, hl] at T2
  refine Lst.of ⟨by rw [turn_len hc]; omega, fun i => ?_⟩ ?_ ?_
  · by_cases hi : i < h.length - m
    · rw [row_head (by omega), getD_take hi, row_head (by omega)]
    · have e1 := row_again (h := h.take (h.length - m)) (a := (a.take d).drop (d - m % d) ++ (a.take d).take (d - m % d)) (i := i) (by omega)
      rw [e1, hx, turn_len hc, turn_get hc (Nat.mod_lt _ (by omega))]
      have e2 := T2.mul h.length i (by omega)
      have hb : h.length ≤ h.length * d := Nat.le_mul_of_pos_right _ h1
      rw [← e2, ← hR, row_again (by omega), hl]
      congr 1
      rw [Nat.add_mod_mod]
      have hdm := Nat.div_add_mod m d
      have e3 : d - m % d + m = d * (m / d + 1) := by
        rw [Nat.mul_add, Nat.mul_one]
        omega
      have e4 : i + h.length * d - h.length + (d - m % d + m) = (d - m % d + (i - (h.length - m))) + h.length * d := by omega
      have e5 : (i + h.length * d - h.length) % d = (i + h.length * d - h.length + (d - m % d + m)) % d := by rw [e3, Nat.add_mul_mod_self_left]
      rw [e5, e4, Nat.add_mul_mod_self_right]
  · intro c p P
    rw [hx]
    rw [← hR] at P
    exact T.least c p P
  · intro p P
    rw [turn_len hc, hl]
    rw [hx] at P
    refine S.least p ⟨P.1, fun i _ => ?_⟩
    have := P.2 (h.length + i) (by omega)
    rw [Nat.add_assoc, row_shift, row_shift] at this
    exact this
end WK
namespace WK
/-- the first n signs of a row -/
def Txt (R : Nat → Nat) (n : Nat) (t : List Nat) : Prop := t.length = n ∧ ∀ i, i < n → t.getD i 0 = R i
theorem Txt.uniq {R : Nat → Nat} {n : Nat} {t t' : List Nat} (h : Txt R n t) (h' : Txt R n t') : t = t' :=
  getD_ext (by rw [h.1, h'.1]) fun i hi => by
    rw [h.1] at hi
    rw [h.2 i hi, h'.2 i hi]
theorem Txt.take {R : Nat → Nat} {n m : Nat} {t : List Nat} (h : Txt R n t) (hm : m ≤ n) : Txt R m (t.take m) :=
  ⟨by rw [List.length_take, h.1]; omega, fun i hi => by rw [getD_take hi, h.2 i (by omega)]⟩
/-- the piece of a text -/
def piece (t : List Nat) (lo hi : Nat) : List Nat := (t.drop lo).take (hi - lo)
theorem piece_len {t : List Nat} {lo hi : Nat} (h : hi ≤ t.length) : (piece t lo hi).length = hi - lo := by
  unfold piece
  rw [List.length_take, List.length_drop]
  omega
theorem piece_get {t : List Nat} {lo hi i : Nat} (h : lo + i < hi) : (piece t lo hi).getD i 0 = t.getD (lo + i) 0 := by
  unfold piece
  rw [getD_take (by omega), getD_drop]
/-- what the law's look asks -/
def Win (t : List Nat) (cut size : Nat) : Prop :=
  (t.take cut ++ List.flatten (List.replicate (t.length / size + 1) (piece t cut (cut + size)))).take t.length = t
theorem win_iff {R : Nat → Nat} {n : Nat} {t : List Nat} (T : Txt R n t) {cut size c p : Nat} (P : Per R c p) (h1 : 1 ≤ size) (hn : max c cut + p + size ≤ n) : Win t cut size ↔ Per R cut size := by
  have hlen := T.1
  have hx : (t.take cut).length = cut := by rw [List.length_take]; omega
  have hw : (piece t cut (cut + size)).length = size := by rw [piece_len (by omega)]; omega
  have hk : n - cut ≤ (n / size + 1) * size := by
    have h2 := Nat.div_add_mod n size
    have h3 := Nat.mod_lt n h1
    rw [Nat.succ_mul, Nat.mul_comm]
    omega
  have hp := P.1
  have get : ∀ i, cut ≤ i → i < n → ((t.take cut ++ List.flatten (List.replicate (t.length / size + 1) (piece t cut (cut + size)))).take t.length).getD i 0 = R (cut + (i - cut) % size) := fun i h2 h3 => by
    have hm := Nat.mod_lt (i - cut) h1
    rw [getD_take (by omega), getD_app, hx, if_neg (by omega), hlen, rep_get (by omega) _ _ (by rw [hw]; omega), hw, piece_get (by omega), T.2 _ (by omega)]
  have low : ∀ i, i < cut → ((t.take cut ++ List.flatten (List.replicate (t.length / size + 1) (piece t cut (cut + size)))).take t.length).getD i 0 = R i := fun i h2 => by
    rw [getD_take (by omega), getD_app, hx, if_pos h2, getD_take h2, T.2 _ (by omega)]
  have hl : ((t.take cut ++ List.flatten (List.replicate (t.length / size + 1) (piece t cut (cut + size)))).take t.length).length = n := by
    rw [List.length_take, List.length_append, hx, rep_length, hw, hlen]
    omega
  constructor
  · intro h
    have e : ∀ i, cut ≤ i → i < n → R i = R (cut + (i - cut) % size) := fun i h2 h3 => by
      have q := get i h2 h3
      rw [h, T.2 i h3] at q
      exact q
    have s1 : ∀ i, cut ≤ i → i + size < n → R (i + size) = R i := fun i h2 h3 => by
      rw [e (i + size) (by omega) h3, e i h2 (by omega), show i + size - cut = i - cut + size by omega, Nat.add_mod_right]
    refine ⟨h1, fun i hi => ?_⟩
    by_cases h3 : i + size < n
    · exact s1 i hi h3
    · have P' : Per R (max c cut) p := P.mono (Nat.le_max_left _ _)
      have hc2 : cut ≤ max c cut := Nat.le_max_right _ _
      have hmm := Nat.mod_lt (i - max c cut) hp
      have g1 := P'.mod (i := i) (j := max c cut + (i - max c cut) % p) (by omega) (by omega) (by rw [Nat.add_sub_cancel_left, Nat.mod_mod])
      have g2 := P'.mod (i := i + size) (j := max c cut + (i - max c cut) % p + size) (by omega) (by omega) (by
        rw [show i + size - max c cut = (i - max c cut) + size by omega, show max c cut + (i - max c cut) % p + size - max c cut = (i - max c cut) % p + size by omega, Nat.mod_add_mod])
      rw [g1, g2]
      exact s1 _ (by omega) (by omega)
  · intro W
    refine getD_ext (by rw [hl, hlen]) fun i hi => ?_
    rw [hl] at hi
    rw [T.2 i hi]
    by_cases h2 : i < cut
    · exact low i h2
    · rw [get i (by omega) hi]
      exact W.mod (by omega) (by omega) (by rw [Nat.add_sub_cancel_left, Nat.mod_mod])
theorem lst_found {R : Nat → Nat} {n : Nat} {t : List Nat} (T : Txt R n t) {cut size c p B : Nat} (P : Per R c p) (hpB : p ≤ B) (h1 : 1 ≤ size) (hsB : size ≤ B) (hn : max c cut + B + B ≤ n) (hw : Win t cut size)
    (hc : ∀ c' s, c' < cut → 1 ≤ s → s ≤ B → ¬ Win t c' s) (hs : ∀ s, 1 ≤ s → s < size → ¬ Win t cut s) : Lst R (t.take cut) (piece t cut (cut + size)) := by
  have W := (win_iff T P h1 (by omega)).mp hw
  have hlen := T.1
  have hp := P.1
  have hx : (t.take cut).length = cut := by rw [List.length_take]; omega
  have hy : (piece t cut (cut + size)).length = size := by rw [piece_len (by omega)]; omega
  refine Lst.of ⟨by omega, fun i => ?_⟩ ?_ ?_
  · by_cases hi : i < cut
    · rw [row_head (by omega), getD_take hi, T.2 _ (by omega)]
    · have hm := Nat.mod_lt (i - cut) h1
      rw [row_again (by omega), hx, hy, piece_get (by omega), T.2 _ (by omega)]
      exact W.mod (by omega) (by omega) (by rw [Nat.add_sub_cancel_left, Nat.mod_mod])
  · intro c' p' P'
    rw [hx]
    by_cases h : cut ≤ c'
    · exact h
    · exact absurd ((win_iff T P hp (by omega)).mpr (P'.down P)) (hc c' p (by omega) hp hpB)
  · intro p' P'
    rw [hx] at P'
    rw [hy]
    by_cases h : size ≤ p'
    · exact h
    · exact absurd ((win_iff T P P'.1 (by omega)).mpr P') (hs p' P'.1 (by omega))
end WK
namespace WK
/-- how many ones stand at the first n places -/
def cnt (R : Nat → Nat) : Nat → Nat
  | 0 => 0
  | n + 1 => cnt R n + (if R n = 49 then 1 else 0)
theorem cnt_le {R : Nat → Nat} : ∀ {n m : Nat}, n ≤ m → cnt R n ≤ cnt R m
  | n, 0, h => by
    have : n = 0 := by omega
    subst this
    exact Nat.le_refl _
  | n, m + 1, h => by
    by_cases e : n = m + 1
    · subst e
      exact Nat.le_refl _
    · have := cnt_le (R := R) (show n ≤ m by omega)
      show _ ≤ cnt R m + _
      omega
theorem cnt_lt {R : Nat → Nat} {n m : Nat} (h : n < m) (hn : R n = 49) : cnt R n < cnt R m := by
  have h1 := cnt_le (R := R) (show n + 1 ≤ m from h)
  have h2 : cnt R (n + 1) = cnt R n + 1 := by
    show cnt R n + (if R n = 49 then 1 else 0) = _
    rw [if_pos hn]
  omega
theorem place_uniq {R : Nat → Nat} {p q : Nat} (hp : R p = 49) (hq : R q = 49) (e : cnt R p = cnt R q) : p = q := by
  rcases Nat.lt_trichotomy p q with h | h | h
  · have := cnt_lt h hp
    omega
  · exact h
  · have := cnt_lt h hq
    omega
theorem cnt_le_self {R : Nat → Nat} : ∀ n, cnt R n ≤ n
  | 0 => Nat.le_refl _
  | n + 1 => by
    have := cnt_le_self (R := R) n
    show cnt R n + _ ≤ _
    split <;> omega
theorem cnt_congr {R R' : Nat → Nat} : ∀ {n : Nat}, (∀ i, i < n → R i = R' i) → cnt R n = cnt R' n
  | 0, _ => rfl
  | n + 1, h => by
    show cnt R n + _ = cnt R' n + _
    rw [cnt_congr (fun i hi => h i (by omega)), h n (by omega)]
theorem cnt_add {R : Nat → Nat} (n : Nat) : ∀ m, cnt R (n + m) = cnt R n + cnt (fun i => R (n + i)) m
  | 0 => rfl
  | m + 1 => by
    show cnt R (n + m) + (if R (n + m) = 49 then 1 else 0) = cnt R n + (cnt (fun i => R (n + i)) m + (if R (n + m) = 49 then 1 else 0))
    rw [cnt_add n m]
    omega
/-- ones of a list -/
theorem count_take {l : List Nat} : ∀ {k : Nat}, k ≤ l.length → (l.take k).count 49 = cnt (fun i => l.getD i 0) k
  | 0, _ => rfl
  | k + 1, h => by
    rw [List.take_add_one, List.count_append, count_take (show k ≤ l.length by omega), List.getElem?_eq_getElem (show k < l.length by omega)]
    show _ = cnt (fun i => l.getD i 0) k + (if l.getD k 0 = 49 then 1 else 0)
    congr 1
    rw [List.getD_eq_getElem?_getD, List.getElem?_eq_getElem (show k < l.length by omega)]
    show List.count 49 [l[k]] = if l[k] = 49 then 1 else 0
    by_cases e : l[k] = 49
    · rw [e]; rfl
    · rw [if_neg e, List.count_eq_zero]
      intro hm
      exact e (List.mem_singleton.mp hm).symm
theorem count_cnt (l : List Nat) : l.count 49 = cnt (fun i => l.getD i 0) l.length := by
  rw [← count_take (Nat.le_refl _), List.take_length]
theorem cnt_head {h a : List Nat} {k : Nat} (hk : k ≤ h.length) : cnt (row h a) k = (h.take k).count 49 := by
  rw [count_take hk]
  exact cnt_congr fun i hi => row_head (by omega)
theorem cnt_rounds {a : List Nat} : ∀ (q : Nat), cnt (row [] a) (q * a.length) = q * a.count 49
  | 0 => by rw [Nat.zero_mul, Nat.zero_mul]; rfl
  | q + 1 => by
    rw [Nat.succ_mul, Nat.succ_mul, cnt_add, cnt_rounds q]
    congr 1
    rw [count_cnt]
    refine cnt_congr fun i hi => ?_
    show row [] a (q * a.length + i) = a.getD i 0
    rw [row_nil, Nat.add_comm, Nat.add_mul_mod_self_right, Nat.mod_eq_of_lt hi]
theorem cnt_again {a : List Nat} (q : Nat) {r : Nat} (hr : r ≤ a.length) : cnt (row [] a) (q * a.length + r) = q * a.count 49 + (a.take r).count 49 := by
  rw [cnt_add, cnt_rounds, count_take hr]
  congr 1
  refine cnt_congr fun i hi => ?_
  show row [] a (q * a.length + i) = a.getD i 0
  rw [row_nil, Nat.add_comm, Nat.add_mul_mod_self_right, Nat.mod_eq_of_lt (by omega)]
theorem cnt_row {h a : List Nat} (m : Nat) : cnt (row h a) (h.length + m) = h.count 49 + cnt (row [] a) m := by
  rw [cnt_add, cnt_head (Nat.le_refl _), List.take_length]
  congr 1
  exact cnt_congr fun i _ => row_shift i
theorem cnt_far {h a : List Nat} {k : Nat} (ha : 0 < a.length) (hk : h.length ≤ k) : cnt (row h a) k = h.count 49 + (k - h.length) / a.length * a.count 49 + (a.take ((k - h.length) % a.length)).count 49 := by
  have h1 := Nat.div_add_mod (k - h.length) a.length
  have h2 := Nat.mod_lt (k - h.length) ha
  have e : k = h.length + ((k - h.length) / a.length * a.length + (k - h.length) % a.length) := by
    rw [Nat.mul_comm]
    omega
  have := cnt_row (h := h) (a := a) ((k - h.length) / a.length * a.length + (k - h.length) % a.length)
  rw [← e] at this
  rw [this, cnt_again _ (by omega)]
  omega
/-- the place of a one in a list -/
def At1 (l : List Nat) (k p : Nat) : Prop := p < l.length ∧ l.getD p 0 = 49 ∧ (l.take p).count 49 = k
theorem at1_next {l : List Nat} {lo k : Nat} (hlo : lo ≤ l.length) (hk : (l.take lo).count 49 = k) (h : k < l.count 49) : ∃ p, lo ≤ p ∧ At1 l k p ∧ ∀ i, lo ≤ i → i < p → l.getD i 0 ≠ 49 := by
  have main : ∀ n lo, lo + n = l.length → (l.take lo).count 49 = k → ∃ p, lo ≤ p ∧ At1 l k p ∧ ∀ i, lo ≤ i → i < p → l.getD i 0 ≠ 49 := by
    intro n
    induction n with
    | zero =>
      intro lo e hk
      rw [show lo = l.length by omega, List.take_length] at hk
      omega
    | succ n ih =>
      intro lo e hk
      by_cases h1 : l.getD lo 0 = 49
      · exact ⟨lo, Nat.le_refl _, ⟨by omega, h1, hk⟩, fun i a b => by omega⟩
      · have hk2 : (l.take (lo + 1)).count 49 = k := by
          rw [count_take (by omega)]
          rw [count_take (by omega)] at hk
          show cnt (fun i => l.getD i 0) lo + (if l.getD lo 0 = 49 then 1 else 0) = k
          rw [if_neg h1]
          exact hk
        obtain ⟨p, p1, p2, p3⟩ := ih (lo + 1) (by omega) hk2
        exact ⟨p, by omega, p2, fun i a b => by
          by_cases e : i = lo
          · rw [e]; exact h1
          · exact p3 i (by omega) b⟩
  exact main (l.length - lo) lo (by omega) hk
theorem at1_succ {l : List Nat} {k p : Nat} (h : At1 l k p) : (l.take (p + 1)).count 49 = k + 1 := by
  obtain ⟨h1, h2, h3⟩ := h
  rw [count_take (by omega)]
  rw [count_take (by omega)] at h3
  show cnt (fun i => l.getD i 0) p + (if l.getD p 0 = 49 then 1 else 0) = k + 1
  rw [if_pos h2, h3]
/-- the place of the 1 ahead of which k 1s stand -/
def Place (R : Nat → Nat) (k p : Nat) : Prop := R p = 49 ∧ cnt R p = k
theorem place_head {h a : List Nat} {k p : Nat} (A : At1 h k p) : Place (row h a) k p := by
  obtain ⟨h1, h2, h3⟩ := A
  exact ⟨by rw [row_head h1]; exact h2, by rw [cnt_head (by omega)]; exact h3⟩
theorem place_again {h a : List Nat} {k p q : Nat} (ha : 0 < a.length) (A : At1 a k p) : Place (row h a) (h.count 49 + q * a.count 49 + k) (h.length + q * a.length + p) := by
  obtain ⟨h1, h2, h3⟩ := A
  constructor
  · rw [Nat.add_assoc, row_shift, row_nil, Nat.add_comm, Nat.add_mul_mod_self_right, Nat.mod_eq_of_lt h1]
    exact h2
  · rw [Nat.add_assoc, cnt_row, cnt_again q (by omega), h3]
    omega
/-- with no 1 in the again there are as many 1s as the head has -/
theorem no_place {h a : List Nat} {k p : Nat} (ha : 0 < a.length) (h0 : a.count 49 = 0) (hk : h.count 49 ≤ k) : ¬ Place (row h a) k p := fun ⟨h1, h2⟩ => by
  by_cases hp : p < h.length
  · have := cnt_lt hp h1
    rw [h2, cnt_head (Nat.le_refl _), List.take_length] at this
    omega
  · rw [row_again (by omega)] at h1
    have hm := Nat.mod_lt (p - h.length) ha
    have : 49 ∈ a := by
      rw [← h1, List.getD_eq_getElem?_getD, List.getElem?_eq_getElem hm]
      exact List.getElem_mem hm
    exact absurd this (List.count_eq_zero.mp h0)
end WK
namespace WK
/-- the signs of one row put on another one -/
def onr (R S : Nat → Nat) (k : Nat) : Nat := if R k = 49 then S (cnt R k) else 48
structure OnLen (x1 y1 x2 y2 : List Nat) (L A : Nat) : Prop where
  ge : x1.length ≤ L
  none : y1.count 49 = 0 → L = x1.length ∧ A = y1.length
  has : 0 < y1.count 49 → x2.length ≤ cnt (row x1 y1) L
  least : 0 < y1.count 49 → ∀ m, x1.length ≤ m → x2.length ≤ cnt (row x1 y1) m → L ≤ m
  again : 0 < y1.count 49 → A = y2.length / Nat.gcd y2.length (y1.count 49) * y1.length
theorem OnLen.uniq {x1 y1 x2 y2 : List Nat} {L A L' A' : Nat} (h : OnLen x1 y1 x2 y2 L A) (h' : OnLen x1 y1 x2 y2 L' A') : L = L' ∧ A = A' := by
  by_cases c : y1.count 49 = 0
  · obtain ⟨a1, a2⟩ := h.none c
    obtain ⟨b1, b2⟩ := h'.none c
    exact ⟨by rw [a1, b1], by rw [a2, b2]⟩
  · have c : 0 < y1.count 49 := by omega
    exact ⟨Nat.le_antisymm (h.least c _ h'.ge (h'.has c)) (h'.least c _ h.ge (h.has c)), by rw [h.again c, h'.again c]⟩
theorem times_dvd {n e t : Nat} (hn : 0 < n) : t * e % n = 0 ↔ n / Nat.gcd n e ∣ t := by
  have g := Nat.gcd_pos_of_pos_left e hn
  obtain ⟨n', hn'⟩ := Nat.gcd_dvd_left n e
  obtain ⟨e', he'⟩ := Nat.gcd_dvd_right n e
  have hd : n / Nat.gcd n e = n' := Nat.div_eq_of_eq_mul_right g hn'
  have co : Nat.Coprime n' e' := by
    have := Nat.coprime_div_gcd_div_gcd (m := n) (n := e) g
    rw [hd, Nat.div_eq_of_eq_mul_right g he'] at this
    exact this
  rw [hd, ← Nat.dvd_iff_mod_eq_zero]
  constructor
  · intro h
    have h : Nat.gcd n e * n' ∣ Nat.gcd n e * (t * e') := by
      rw [← hn', ← Nat.mul_assoc, Nat.mul_comm _ t, Nat.mul_assoc, ← he']
      exact h
    exact co.dvd_of_dvd_mul_right (Nat.dvd_of_mul_dvd_mul_left g h)
  · intro h
    obtain ⟨q, rfl⟩ := h
    refine ⟨q * e', ?_⟩
    calc n' * q * e = n' * q * (Nat.gcd n e * e') := by rw [← he']
      _ = (Nat.gcd n e * n') * (q * e') := by rw [Nat.mul_comm (Nat.gcd n e) n', Nat.mul_assoc, Nat.mul_assoc, Nat.mul_left_comm q]
      _ = n * (q * e') := by rw [← hn']
theorem times_pos {n e : Nat} (hn : 0 < n) : 1 ≤ n / Nat.gcd n e := Nat.div_pos (Nat.le_of_dvd hn (Nat.gcd_dvd_left n e)) (Nat.gcd_pos_of_pos_left e hn)
theorem cnt_more {x y : List Nat} (hy : 0 < y.length) {k : Nat} (hk : x.length ≤ k) (r : Nat) : cnt (row x y) (k + r * y.length) = cnt (row x y) k + r * y.count 49 := by
  rw [cnt_far hy (by omega), cnt_far hy hk, show k + r * y.length - x.length = k - x.length + r * y.length by omega, Nat.add_mul_mod_self_right, Nat.add_mul_div_right _ _ hy, Nat.add_mul]
  omega
theorem none_on {x y : List Nat} (hy : 0 < y.length) (h : y.count 49 = 0) {k : Nat} (hk : x.length ≤ k) : row x y k ≠ 49 := fun e => by
  refine no_place hy h (k := cnt (row x y) k) ?_ ⟨e, rfl⟩
  rw [cnt_far hy hk]
  omega
theorem on_per {x1 y1 x2 y2 : List Nat} {L A : Nat} (h : OnLen x1 y1 x2 y2 L A) (h1 : 0 < y1.length) (h2 : 0 < y2.length) : Per (onr (row x1 y1) (row x2 y2)) L A := by
  by_cases c : y1.count 49 = 0
  · obtain ⟨a1, a2⟩ := h.none c
    refine ⟨by omega, fun i hi => ?_⟩
    unfold onr
    rw [if_neg (none_on h1 c (by omega)), if_neg (none_on h1 c (by omega))]
  · have c : 0 < y1.count 49 := by omega
    have hA := h.again c
    have tp := times_pos (e := y1.count 49) h2
    refine ⟨by rw [hA]; exact Nat.mul_pos tp h1, fun i hi => ?_⟩
    have hg := h.ge
    have e1 : row x1 y1 (i + A) = row x1 y1 i := by rw [hA]; exact (row_per h1).mul _ i (by omega)
    have e2 : cnt (row x1 y1) (i + A) = cnt (row x1 y1) i + y2.length / Nat.gcd y2.length (y1.count 49) * y1.count 49 := by rw [hA]; exact cnt_more h1 (by omega) _
    obtain ⟨q, hq⟩ := Nat.dvd_iff_mod_eq_zero.mpr ((times_dvd (e := y1.count 49) (t := y2.length / Nat.gcd y2.length (y1.count 49)) h2).mpr (Nat.dvd_refl _))
    have e3 : row x2 y2 (cnt (row x1 y1) (i + A)) = row x2 y2 (cnt (row x1 y1) i) := by
      rw [e2, hq, Nat.mul_comm]
      have := cnt_le (R := row x1 y1) hi
      exact (row_per h2).mul q _ (by have := h.has c; omega)
    unfold onr
    rw [e1, e3]
theorem row_of_txt {R : Nat → Nat} {L A : Nat} {t : List Nat} (T : Txt R (L + A) t) (P : Per R L A) : row (t.take L) (t.drop L) = R := by
  have hl := T.1
  have hp := P.1
  have l1 : (t.take L).length = L := by rw [List.length_take]; omega
  have l2 : (t.drop L).length = A := by rw [List.length_drop]; omega
  funext i
  by_cases hi : i < L
  · rw [row_head (by omega), getD_take hi, T.2 i (by omega)]
  · have hm := Nat.mod_lt (i - L) hp
    rw [row_again (by omega), l1, l2, getD_drop, T.2 _ (by omega)]
    refine P.mod (by omega) (by omega) ?_
    rw [Nat.add_sub_cancel_left, Nat.mod_mod]
/-! ### signs in the stead of the 1s -/
def lay : List Nat → List Nat → List Nat
  | [], _ => []
  | c :: r, s => if c = 49 then s.headD 0 :: lay r (s.drop 1) else c :: lay r s
theorem lay_len : ∀ (t s : List Nat), (lay t s).length = t.length
  | [], _ => rfl
  | c :: r, s => by
    unfold lay
    by_cases h : c = 49
    · rw [if_pos h, List.length_cons, List.length_cons, lay_len]
    · rw [if_neg h, List.length_cons, List.length_cons, lay_len]
theorem lay_get : ∀ (t s : List Nat) (i : Nat), i < t.length → (lay t s).getD i 0 = if t.getD i 0 = 49 then s.getD ((t.take i).count 49) 0 else t.getD i 0
  | [], _, i, h => by simp at h
  | c :: r, s, 0, _ => by
    unfold lay
    by_cases h : c = 49
    · rw [if_pos h, List.getD_cons_zero, List.getD_cons_zero, if_pos h]
      cases s <;> rfl
    · rw [if_neg h, List.getD_cons_zero, List.getD_cons_zero, if_neg h]
  | c :: r, s, i + 1, hi => by
    have hi : i < r.length := by simpa using hi
    unfold lay
    by_cases h : c = 49
    · rw [if_pos h, List.getD_cons_succ, List.getD_cons_succ, lay_get r _ i hi, List.take_succ_cons, List.count_cons, h]
      simp only [beq_self_eq_true, if_true]
      rw [getD_drop, Nat.add_comm]
    · rw [if_neg h, List.getD_cons_succ, List.getD_cons_succ, lay_get r _ i hi, List.take_succ_cons, List.count_cons, show (c == 49) = false by simpa using h]
      rfl
def spl : List Nat → List (List Nat)
  | [] => [[]]
  | c :: r => if c = 49 then [] :: spl r else match spl r with
    | g :: gs => (c :: g) :: gs
    | [] => [[c]]
def wv : List (List Nat) → List Nat → List Nat
  | [], _ => []
  | [g], _ => g
  | g :: gs, s => g ++ s.headD 0 :: wv gs (s.drop 1)
theorem spl_ne : ∀ t, spl t ≠ []
  | [] => by unfold spl; exact fun h => nomatch h
  | c :: r => by
    unfold spl
    split
    · exact fun h => nomatch h
    · split
      · exact fun h => nomatch h
      · exact fun h => nomatch h
theorem spl_len : ∀ t, (spl t).length = t.count 49 + 1
  | [] => rfl
  | c :: r => by
    have ih := spl_len r
    unfold spl
    by_cases h : c = 49
    · rw [if_pos h, List.length_cons, ih, List.count_cons, if_pos (by simpa using h)]
    · rw [if_neg h, List.count_cons, if_neg (by simpa using h)]
      cases e : spl r with
      | nil => exact absurd e (spl_ne r)
      | cons g gs =>
        rw [e] at ih
        exact ih
theorem wv_spl : ∀ (t s : List Nat), wv (spl t) s = lay t s
  | [], _ => rfl
  | c :: r, s => by
    have ih := fun s => wv_spl r s
    unfold spl lay
    by_cases h : c = 49
    · rw [if_pos h, if_pos h]
      cases e : spl r with
      | nil => exact absurd e (spl_ne r)
      | cons g gs =>
        rw [← ih, e]
        rfl
    · rw [if_neg h, if_neg h]
      cases e : spl r with
      | nil => exact absurd e (spl_ne r)
      | cons g gs =>
        rw [← ih, e]
        cases gs with
        | nil => rfl
        | cons g2 gs => rfl
theorem wv_flat : ∀ (gs : List (List Nat)) (s : List Nat) (h : gs ≠ []), gs.length = s.length + 1 → (List.zipWith (fun g c => g ++ [c]) gs s).flatten ++ gs.getLast h = wv gs s
  | [], _, h, _ => absurd rfl h
  | [g], [], _, _ => by simp [wv]
  | [g], c :: s, _, e => by simp at e
  | g :: g2 :: gs, [], _, e => by simp at e
  | g :: g2 :: gs, c :: s, _, e => by
    have ih := wv_flat (g2 :: gs) s (List.cons_ne_nil _ _) (by simpa using e)
    rw [List.zipWith_cons_cons, List.flatten_cons, List.getLast_cons (List.cons_ne_nil _ _), List.append_assoc, ih]
    show _ = g ++ c :: wv (g2 :: gs) s
    rw [List.append_assoc]
    rfl
theorem lay_on {R S : Nat → Nat} {n : Nat} {t s : List Nat} (T : Txt R n t) (b : ∀ i, R i = 48 ∨ R i = 49) (Z : Txt S (t.count 49) s) : Txt (onr R S) n (lay t s) := by
  refine ⟨by rw [lay_len, T.1], fun i hi => ?_⟩
  have hl := T.1
  rw [lay_get _ _ _ (by omega), T.2 i hi]
  have hc : (t.take i).count 49 = cnt R i := by
    rw [count_take (by omega)]
    exact cnt_congr fun j hj => T.2 j (by omega)
  unfold onr
  by_cases h : R i = 49
  · rw [if_pos h, if_pos h, hc]
    refine Z.2 _ ?_
    have : t.count 49 = cnt R n := by
      rw [count_cnt, hl]
      exact cnt_congr fun j hj => T.2 j hj
    rw [this]
    exact cnt_lt hi h
  · rw [if_neg h, if_neg h]
    rcases b i with z | z
    · exact z
    · exact absurd z h
theorem onr_bin {R S : Nat → Nat} (b : ∀ i, S i = 48 ∨ S i = 49) (k : Nat) : onr R S k = 48 ∨ onr R S k = 49 := by
  unfold onr
  split
  · exact b _
  · exact .inl rfl
end WK
namespace WK
open PySem PySem.Spec PyProof.Rows L2

/-! ### texts as lists of codes -/
def tx (l : List Nat) : Str := ⟨l.toArray⟩
theorem tx_toList (l : List Nat) : (tx l).cps.toList = l := rfl
theorem tx_len (l : List Nat) : (tx l).length = l.length := by
  show l.toArray.size = l.length
  exact List.size_toArray
theorem tx_inj {a b : List Nat} (h : tx a = tx b) : a = b := by
  have := congrArg (fun z : Str => z.cps.toList) h
  exact this
theorem tx_eq (a b : List Nat) : decide (V.str (tx a) = V.str (tx b)) = decide (a = b) := by
  by_cases e : a = b
  · subst e; simp
  · rw [decide_eq_false e, decide_eq_false]
    intro z
    exact e (tx_inj (V.str.inj z))
theorem tx_add (a b : List Nat) : tx a ++ tx b = tx (a ++ b) := by
  show (⟨a.toArray ++ b.toArray⟩ : Str) = ⟨(a ++ b).toArray⟩
  congr 1
  simp
def cutL (l : List Nat) (lo hi : Nat) : List Nat := (l.drop lo).take (hi - lo)
theorem cut_nn (l : List Nat) (lo hi : Nat) : cutS (tx l) (some (lo : Int)) (some (hi : Int)) = tx (cutL l (min lo l.length) (min hi l.length)) := by
  have e : ∀ n, n = l.length → (⟨(List.take (HT.sIx n n (some (hi : Int)) - HT.sIx n 0 (some (lo : Int))) (List.drop (HT.sIx n 0 (some (lo : Int))) l)).toArray⟩ : Str) = tx (cutL l (min lo l.length) (min hi l.length)) := fun n en => by
    subst en
    rw [HT.sIx_nat, HT.sIx_nat]
    rfl
  exact e _ (tx_len l)
theorem cut_n0 (l : List Nat) (lo : Nat) : cutS (tx l) (some (lo : Int)) none = tx (l.drop lo) := by
  show (⟨_⟩ : Str) = ⟨_⟩
  congr 1
  rw [tx_len]
  show (List.take _ (List.drop _ l)).toArray = _
  rw [HT.sIx_nat, HT.sIx_none]
  by_cases h : lo ≤ l.length
  · rw [Nat.min_eq_left h, List.take_of_length_le (by rw [List.length_drop]; omega)]
  · rw [Nat.min_eq_right (by omega), List.drop_of_length_le (by omega), List.drop_of_length_le (show l.length ≤ lo by omega)]
    simp
theorem cut_0n (l : List Nat) (hi : Nat) : cutS (tx l) none (some (hi : Int)) = tx (l.take hi) := by
  show (⟨_⟩ : Str) = ⟨_⟩
  congr 1
  rw [tx_len]
  show (List.take _ (List.drop _ l)).toArray = _
  rw [HT.sIx_nat, HT.sIx_none, List.drop_zero, Nat.sub_zero]
  by_cases h : hi ≤ l.length
  · rw [Nat.min_eq_left h]
  · rw [Nat.min_eq_right (by omega), List.take_of_length_le (by omega), List.take_of_length_le (by omega)]
/-- the list n times -/
def rep (a : List Nat) (n : Nat) : List Nat := (List.replicate n a).flatten
theorem rep_zero (a : List Nat) : rep a 0 = [] := rfl
theorem rep_succ (a : List Nat) (n : Nat) : rep a (n + 1) = a ++ rep a n := by
  unfold rep
  rw [List.replicate_succ, List.flatten_cons]
theorem rep_len (a : List Nat) : ∀ n, (rep a n).length = n * a.length
  | 0 => by rw [rep_zero, Nat.zero_mul]; rfl
  | n + 1 => by rw [rep_succ, List.length_append, rep_len a n, Nat.succ_mul, Nat.add_comm]
theorem foldl_app (a : List Nat) : ∀ (n : Nat) (acc : List Nat), List.foldl (fun x1 x2 => x1 ++ x2) acc.toArray (List.replicate n a.toArray) = (acc ++ rep a n).toArray
  | 0, acc => by rw [rep_zero, List.append_nil]; rfl
  | n + 1, acc => by
    rw [List.replicate_succ, List.foldl_cons, rep_succ]
    have e : acc.toArray ++ a.toArray = (acc ++ a).toArray := by simp
    rw [e, foldl_app a n (acc ++ a), List.append_assoc]
theorem tx_mul (a : List Nat) (n : Nat) : Txt.mul (tx a) (n : Int) = tx (rep a n) := by
  unfold Txt.mul
  by_cases h0 : n = 0
  · subst h0
    rfl
  · rw [if_neg (by omega)]
    by_cases h1 : ((n : Int) == 1 || (tx a).length == 0) = true
    · rw [if_pos h1]
      rw [Bool.or_eq_true, beq_iff_eq, beq_iff_eq, tx_len] at h1
      rcases h1 with h1 | h1
      · have : n = 1 := by omega
        subst this
        rw [rep_succ, rep_zero, List.append_nil]
      · have : a = [] := List.length_eq_zero_iff.mp h1
        subst this
        have : rep [] n = [] := List.length_eq_zero_iff.mp (by rw [rep_len]; simp)
        rw [this]
    · rw [if_neg h1, Int.toNat_natCast]
      show (⟨_⟩ : Str) = ⟨_⟩
      congr 1
      have := foldl_app a n []
      rw [List.nil_append] at this
      exact this
theorem mulOk (a : List Nat) (n : Nat) (h : a.length * n ≤ 1000000) (h2 : n ≤ 1000000) : PySem.MulOk (tx a) (n : Int) := by
  refine ⟨?_, fun h1 _ => ?_, fun h1 _ => ?_⟩
  · rw [Bool.or_eq_false_iff, decide_eq_false_iff_not, decide_eq_false_iff_not]
    constructor <;> omega
  · rw [tx_len]
    have h3 : (a.length : Int) * n ≤ 1000000 := by
      have := Int.ofNat_le.mpr h
      rw [Int.natCast_mul] at this
      exact this
    intro z
    have h4 : (2 ^ 63 - 1 : Int) < n * ((2 ^ 63 - 1) / n + 1) := by
      have := Int.lt_mul_ediv_self_add (x := (2 ^ 63 - 1 : Int)) (k := (n : Int)) (by omega)
      rw [Int.mul_add, Int.mul_one]
      exact this
    have h5 : (n : Int) * ((2 ^ 63 - 1) / n + 1) ≤ n * a.length := Int.mul_le_mul_of_nonneg_left (by omega) (by omega)
    rw [Int.mul_comm] at h3
    omega
  · rw [tx_len, Int.toNat_natCast]
    show decide _ = false
    rw [decide_eq_false_iff_not]
    have : (sizeLine : Nat) = 16777216 := by decide
    omega
section
variable {X : Cx}
theorem op_mul_str : OpR X (binaryOp .Mult) (fun x y H Q => ∃ (a : List Nat) (n : Nat), x = .str (tx a) ∧ y = .int (n : Int) ∧ a.length * n ≤ 1000000 ∧ n ≤ 1000000 ∧ Q (.str (tx (rep a n))) H) := by
  intro pins s σ H x y v u Q I rx ry h
  obtain ⟨a, n, rfl, rfl, h1, h2, q⟩ := h
  obtain ⟨t, rfl⟩ := rx
  obtain ⟨t', rfl⟩ := ry
  refine PySem.SB.mul (mulOk a n h1 h2) (fun t' tk => ⟨.str (Txt.mul (tx a) n), H, I.tok _, ⟨_, rfl⟩, ?_⟩)
  rw [tx_mul]
  exact q
def CPowB (i j : Int) : Prop := 0 ≤ j ∧ (Builtin.Int.intBits i : Int) * j ≤ 2 ^ 27
theorem op_powB : OpR X (binaryOp .Pow) (rI CPowB fun i j => .int (i ^ j.toNat)) := opI fun _ _ _ _ _ _ _ hc q => PyProof.Rows.pow_int hc.1 hc.2 q
end
end WK
/-! An exception that a name keeps behind its try: the object is tracked from the end of the suite on. -/
namespace WX
open PySem PySem.Spec PyProof.Rows L2
/-- an exception of the class cls, its own dict at d, stands at a -/
def ExT (a : Addr) (cls : Value) (d : Option Addr) : HO := .ext fun h => ∃ oe, h.get? a = some oe ∧ Zc cls d oe ∧ ∃ vs, oe.data = .fields vs
theorem exT_ok {P : Program} {w : World} {H : Hp} {h : Heap} {a : Addr} {cls : Value} {d : Option Addr} {oe : Obj} (e : h.get? a = some oe) (z : Zc cls d oe) (f : ∃ vs, oe.data = .fields vs) : ObjOk P w H h a (ExT a cls d) :=
  ⟨⟨oe, e, z, f⟩, ⟨oe, e⟩, fun _ _ ⟨o, q, r⟩ k => ⟨o, k o q, r⟩⟩
section
variable {X : Cx} {pins : List (Addr × Obj)} {σ : L2.St} {H : Hp} {s : Shared}
/-- a pinned object that is new to the frame is tracked -/
theorem track {a : Addr} {oe : Obj} {o : HO} (I : Inv X ((a, oe) :: pins) σ H s) (h0 : X.s_0.heap.get? a = none) (hp : ∀ p ∈ X.pn ++ pins, p.1 ≠ a) (new : ObjOk X.prog X.w (upd H a o) s.heap a o) : Inv X pins σ (upd H a o) s := by
  have mem : (a, oe) ∈ X.pn ++ (a, oe) :: pins := List.mem_append_right _ List.mem_cons_self
  obtain ⟨g1, g2, g3, g4, g5⟩ := I.pin _ mem
  have n0 : ∀ b u, X.s_0.heap.get? b = some u → b ≠ a := fun b u e z => by
    rw [z, h0] at e
    cases e
  have nt : ∀ b u, H b = some u → b ≠ a := fun b u e z => by
    rw [z] at e
    exact absurd (e.symm.trans g2) (by intro y; cases y)
  refine ⟨I.ok, I.os, I.bare, ⟨I.base.keep, I.base.slot, fun b u e n x => ?_, I.base.there, fun b xs e => ?_, fun b u v e => ?_, fun b ps e => ?_⟩, I.loc, I.cell, ?_, fun x c e => ?_, fun p hm => ?_, fun b u e => ?_, I.len⟩
  · rw [upd_ne (n0 b u e)]
    exact I.base.free b u e n x
  · have q := I.base.tups b xs e
    rw [upd_ne (nt _ _ q)]
    exact q
  · have q := I.base.frzs b u v e
    rw [upd_ne (nt _ _ q)]
    exact q
  · obtain ⟨m, q⟩ := I.base.tbls b ps e
    exact ⟨m, by rw [upd_ne (nt _ _ q)]; exact q⟩
  · rw [upd_ne (Ne.symm g3)]
    exact I.free
  · obtain ⟨v, oc, e1, e2⟩ := I.cell x c e
    have ne : c ≠ a := fun z => by
      rw [z] at e1
      have := g1.symm.trans e1
      cases this
      exact g5 v e2
    rw [upd_ne ne]
    exact I.freeC x c e
  · have hm' : p ∈ X.pn ++ (a, oe) :: pins := by
      rcases List.mem_append.mp hm with h | h
      · exact List.mem_append_left _ h
      · exact List.mem_append_right _ (List.mem_cons_of_mem _ h)
    obtain ⟨k1, k2, k3⟩ := I.pin p hm'
    exact ⟨k1, by rw [upd_ne (hp p hm)]; exact k2, k3⟩
  · by_cases z : b = a
    · subst z
      rw [upd_same] at e
      cases e
      exact new
    · rw [upd_ne z] at e
      refine (I.hok b u e).stay (fun _ _ _ q => q) (fun c q => ?_) fun c xs q => ?_
      · rw [upd_ne (nt _ _ q)]
        exact q
      · rw [upd_ne (nt _ _ q)]
        exact q
end
/-- what 'except x as n: v = n' wishes: slot i is n's, slot j is v's -/
def wKeep (K : PySem.W.Frag) (c : Value) (i j : Nat) (D : Ends) : WX := fun cls d σ H =>
  PySem.W.exmOne K cls c = some true ∧ ∀ a, H a = none → D.nx (((σ.set i (some (.ref a))).set j (some (.ref a))).set i none) (upd H a (ExT a cls d))
section
variable {X : Cx} {x n v : Str} {c : Value} {i j : Nat} {body : List Stmt} {np vp mp sp pos pos' : Pos} {tb : WX → TS}
theorem ps_try_keep (hs : X.stack = X.env :: X.outer) (hex : X.ex = []) (hf : X.env.frame = some X.env.locals) (hN : X.N.Nodup) (hi : X.N[i]? = some n) (hj : X.N[j]? = some v) (hln : X.env.kindOf n = some .local) (hlv : Loc X.env.scope v) (hvf : X.fn v = true ∨ X.env.scope.names.lookup v = some .local) (hc : Names X x c)
    (hsw : swapsWith (.Name n mp) (some (.Name v vp)) sp.line X.env = pure false) (hvis : Vis X.env.scope n) (hdb : (n == ("__debug__" : Str)) = false) (hcd : (n == ("__classdict__" : Str)) = false)
    (hb : ∀ (W : WX) (pn : List (Addr × Obj)) (xe : Value → Shared → Prop), Takes (X.tr pn xe) W → PassesOwn (model X.prog X.w) X.A X.env xe → PSs (X.tr pn xe) body (tb W)) :
    PS X (.Try body [.ExceptHandler (some (.Name x np)) (some n) [.Assign [.Name v vp] (.Name n mp) sp] pos'] [] [] pos) (fun D σ H => tb (wKeep X.K c i j D) D σ H) := by
  constructor
  intro pins s σ H D I h
  have fr : X.A.frames = some (X.env :: X.outer) := by rw [I.ok.frames, hs]
  let hd : List ExceptHandler := [.ExceptHandler (some (.Name x np)) (some n) [.Assign [.Name v vp] (.Name n mp) sp] pos']
  let Z : Value → Shared → Prop := fun e s1 => wpAny (model X.prog X.w) X.A (noteFrame e X.env) (fun _ s2 => wpAny (model X.prog X.w) X.A (setFlight e none)
    (fun _ s3 => wpAny (model X.prog X.w) X.A (handleBy e X.env hd) (SP X pins D) X.xe s3) X.xe s2) X.xe s1
  have tk : Takes (X.tr (X.pn ++ pins) Z) (wKeep X.K c i j D) := by
    intro u s' xx
    obtain ⟨a, B, sI, ps, σ', H', cls, d, rfl, J', nb, up, sky, na, os, ag, em, hy⟩ := xx
    have J : Inv X pins σ' H' sI := J'.ofTry I.ok
    have sky2 : Sky B (X.env :: X.outer) a (Zc cls d) X.env.locals s'.heap := by
      rw [← hs]
      exact sky
    refine Sky.land Zc.steady fr hf sky2 fun g3 f3 u3 => ?_
    have K3 : Inv X pins σ' H' { s' with heap := g3 } := J.landed nb f3.1 (up.trans u3) os ag
    obtain ⟨o3, w3, e3, z3, d3⟩ := f3.there
    have na3 : a ∉ frs (X.env :: X.outer) := fun hm => by
      obtain ⟨_, o', e', nf⟩ := f3.2.2.1.mem hm
      rw [e3] at e'
      cases e'
      exact nf _ d3
    have nL : a ≠ X.env.locals := fun z => na3 (List.mem_filterMap.mpr ⟨X.env, List.mem_cons_self, by rw [hf, z]⟩)
    have nF : a ∉ X.fs := fun hm => by
      obtain ⟨e, he, q⟩ := List.mem_filterMap.mp hm
      exact na3 (List.mem_filterMap.mpr ⟨e, List.mem_cons_of_mem _ he, q⟩)
    have ban : B.get? a = none := f3.2.1
    have old : ∀ b o, sI.heap.get? b = some o → b ∉ frs X.stack → b ≠ a := fun b o e nf z => by
      have := nb b o e nf
      rw [z, ban] at this
      cases this
    have frx : frs X.stack = frs (X.env :: X.outer) := by rw [hs]
    have n0 : X.s_0.heap.get? a = none := by
      cases q : X.s_0.heap.get? a with
      | none => rfl
      | some o =>
        obtain ⟨o', e'⟩ := J.base.there a o q (by rw [hex]; intro z; cases z)
        exact absurd rfl (old a o' e' (by rw [frx]; exact na3))
    have pna : ∀ p ∈ X.pn ++ pins, p.1 ≠ a := fun p hp => by
      obtain ⟨q1, _, q3, q4, _⟩ := J.pin p hp
      refine old p.1 p.2 q1 fun hm => ?_
      rw [frx] at hm
      obtain ⟨e, he, q⟩ := List.mem_filterMap.mp hm
      rcases List.mem_cons.mp he with r | r
      · rw [r, hf] at q
        exact q3 (Option.some.inj q).symm
      · exact q4 (List.mem_filterMap.mpr ⟨e, r, q⟩)
    have S3 := K3.suite e3 d3 na nL nF
    refine wpAny_handleBy_cons (codeAny_handlers_test ?_) (by intro q; cases q)
    have ty : PySem.W.Looks (model X.prog X.w) g3 (typeOf (.ref a)) cls := by
      intro A' Q' E' s1 kk qq
      exact wpAny_typeOf_ref (kk _ _ e3) (by rw [z3.1]; exact qq)
    have mt := PySem.W.exm_one (M := model X.prog X.w) K3.kIn ty em
    have nm : ∀ {Q' : Value → Shared → Prop} {E' : Value → Shared → Prop}, Q' c { s' with heap := g3 } → wpAny (model X.prog X.w) (X.A.mark (some (.ref a))) (eval (.Name x np) X.env) Q' E' { s' with heap := g3 } := by
      intro Q' E' qq
      obtain ⟨r1, r2, r3 | ⟨r3, r4, r5⟩⟩ := hc
      · exact ld_glob (X := X.suite a ((a, o3) :: (X.pn ++ pins))) S3 r1 r3 qq r2
      · exact ld_blt (X := X.suite a ((a, o3) :: (X.pn ++ pins))) S3 r1 r3 r4 qq r5 r2
    refine nm (mt.here (codeAny_handlers_suite_as ?_))
    refine HandSPX.lands_againZ f3 fun g4 f4 u4 => ?_
    have K4 : Inv X pins σ' H' { s' with heap := g4 } := J.landed nb f4.1 ((up.trans u3).trans u4) os ag
    obtain ⟨o4, w4, e4, z4, d4⟩ := f4.there
    have S4 := K4.suite e4 d4 na nL nF
    refine store_ok (X := X.suite a ((a, o4) :: (X.pn ++ pins))) (v := .ref a) S4 hN hi (.inl hln) rfl (fun s5 S5 => ?_) (.inr hln)
    have asg : PSs (X.suite a ((a, o4) :: (X.pn ++ pins))) [.Assign [.Name v vp] (.Name n mp) sp] (tAsg (tVar i) (gName j)) :=
      pss_one (ps_set hN hj hlv (pe_var hi hvis hdb hcd) hsw hvf)
    have hlen : i < σ'.length := by
      rw [J.len]
      exact (List.getElem?_eq_some_iff.mp hi).1
    let D2 : Ends := { nx := fun σ6 H6 => σ6 = (σ'.set i (some (.ref a))).set j (some (.ref a)) ∧ H6 = H', rt := fun _ _ => False }
    refine wpAny_mono (asg.run [] s5 _ H' D2 S5 ⟨.ref a, List.getElem?_set_self hlen, rfl, rfl⟩) (fun f6 s6 q6 => ?_) (fun _ _ z => z.elim)
    cases f6 with
    | next =>
      obtain ⟨σ6, H6, S6, rfl, rfl⟩ := q6
      obtain ⟨b1, b2, b3, b4, b5, b6, b7, b8, b9, b10, b11⟩ := S6
      have S7 : Inv X ((a, o4) :: pins) ((σ'.set i (some (.ref a))).set j (some (.ref a))) H6 s6 := by
        refine ⟨I.ok, b2, b3, b4, b5, b6, b7, b8, fun p hp => b9 p (List.mem_append_left _ ?_), b10, b11⟩
        rcases List.mem_append.mp hp with r | r
        · exact List.mem_cons_of_mem _ (List.mem_append_left _ r)
        · rcases List.mem_cons.mp r with r | r
          · rw [r]
            exact List.mem_cons_self
          · exact List.mem_cons_of_mem _ (List.mem_append_right _ r)
      refine gone_ok S7 hN hi hln fun s8 S8 => ?_
      have at8 : s8.heap.get? a = some o4 := (S8.pin (a, o4) (List.mem_append_right _ List.mem_cons_self)).1
      exact ⟨_, _, track S8 n0 pna (exT_ok at8 z4 ⟨_, d4⟩), hy a na⟩
    | brk =>
      obtain ⟨_, _, _, z⟩ := q6
      exact z.elim
    | cont =>
      obtain ⟨_, _, _, z⟩ := q6
      exact z.elim
    | ret u =>
      obtain ⟨_, _, _, _, _, z⟩ := q6
      exact z.elim
  refine wpAny_Try_except (wpAny_mono ((hb _ (X.pn ++ pins) Z tk PassesOwn.looking).run [] s σ H D (I.toTry _) h) (fun f s1 q => ?_) fun _ _ z => z)
  cases f with
  | next =>
    obtain ⟨σ1, H1, J1, q1⟩ := q
    exact wpAny_execs_nil ⟨σ1, H1, J1.ofTry I.ok, q1⟩
  | brk =>
    obtain ⟨σ1, H1, J1, q1⟩ := q
    exact ⟨σ1, H1, J1.ofTry I.ok, q1⟩
  | cont =>
    obtain ⟨σ1, H1, J1, q1⟩ := q
    exact ⟨σ1, H1, J1.ofTry I.ok, q1⟩
  | ret u =>
    obtain ⟨v1, σ1, H1, J1, r1, q1⟩ := q
    exact ⟨v1, σ1, H1, J1.ofTry I.ok, r1, q1⟩
end
/-- what the class says, so that isinstance asks its instances rightly -/
structure ExK (K : PySem.W.Frag) (D : Addr) : Prop where
  hg : PySem.W.findIn K (.ref D) "__getattribute__" = some (some (.builtin "BaseException.__getattribute__"))
  hk : PySem.W.findIn K (.ref D) "__getattr__" = some none
  hs : PySem.W.subIn K (.ref D) (.type "BaseException") = some true
  hd : PySem.W.hasDictIn K D = true
  ha : PySem.W.findIn K (.ref D) "__class__" = some (some (.builtin "object.__class__"))
  hn : PySem.W.specialIn K (.builtin "object.__class__") "__get__" = some (some (.builtin "getset_descriptor.__get__"))
  ht : PySem.W.takesIn K (.builtin "object.__class__") = some true
  hm : PySem.W.mroIn K D (.type "object") = some true
/-- the error's own dict: none, or there -/
def ExD (H : Hp) (d : Option Addr) : Prop := d = none ∨ ∃ dd fs, d = some dd ∧ H dd = some (.xd fs)
section
variable {X : Cx}
theorem inst_of {pins : List (Addr × Obj)} {σ : L2.St} {H : Hp} {s : Shared} {a D : Addr} {d : Option Addr} (I : Inv X pins σ H s) (h : H a = some (ExT a (.ref D) d)) (hd : ExD H d) : ∃ ox od, PySem.W.InstAt s.heap a ox D od := by
  obtain ⟨⟨oe, e, z, vs, f⟩, _, _⟩ := I.hok a _ h
  have nc : PySem.W.notCls oe = true := by
    unfold PySem.W.notCls
    rw [f] <;> rfl
  rcases hd with rfl | ⟨dd, fs, rfl, hx⟩
  · refine ⟨oe, none, e, z.1, nc, ?_⟩
    rw [z.2]
    trivial
  · have hx : ObjOk X.prog X.w H s.heap dd (.xd fs) := I.hok dd _ hx
    obtain ⟨mA, hns, _⟩ := hx
    obtain ⟨od, ho, _⟩ := lookIn_ns hns
    exact ⟨oe, some od, e, z.1, nc, by rw [z.2]; exact ho⟩
def rIsX (K : PySem.W.Frag) : List V → Hp → VK → Prop := fun xs H Q => ∃ (a D : Addr) (d : Option Addr) (c : V) (cv : Value) (b : Bool), xs = [.ref a, c] ∧ H a = some (ExT a (.ref D) d) ∧ ExD H d ∧ ExK K D ∧ ClsV c cv ∧ PySem.W.kitOne K (.ref D) cv = some b ∧ Q (.bl b) H
theorem call_isX : CallR X (.builtin "isinstance") (rIsX X.K) := by
  intro pins s σ H xs us Q I r h
  obtain ⟨a, D, d, c, cv, b, rfl, h1, h2, T, hc, e, q⟩ := h
  cases r with
  | cons rx rr =>
    cases rr with
    | cons rt rr =>
      cases rr
      cases rx
      have ec := hc.eq rt
      subst ec
      obtain ⟨ox, od, J⟩ := inst_of I h1 h2
      obtain ⟨cd, hcd, _⟩ := PySem.W.any_some T.hd
      have kit := PySem.W.kitx_exc (x := a) (ox := ox) (od := od) (by rw [hcd]; rfl) T.hg T.hk T.hs T.ha T.hn T.ht T.hm
      exact PySem.W.kia_one kit I.kIn J e (fun z => nomatch z) fun tk => ⟨.bl b, H, I.tok tk, rfl, q⟩
def tXa (K : PySem.W.Frag) (f : Str) (te : TE) : TE := fun σ H Q => te σ H fun x H1 => ∃ (a C dd : Addr) (fs : List (Str × V)) (v : V), x = .ref a ∧ H1 a = some (ExT a (.ref C) (some dd)) ∧ H1 dd = some (.xd fs) ∧ fs.lookup f = some v ∧
  ExK K C ∧ PySem.W.findIn K (.ref C) f = some none ∧ Q v H1
theorem pe_xa {e : Expr} {te : TE} {n : Str} {pos : Pos} (he : PE X e te) (hb : attributeBase e n X.env (eval e X.env) = eval e X.env := by rfl) : PE X (.Attribute e n pos) (tXa X.K n te) := by
  constructor
  intro pins s σ H Q I h
  refine attr_of hb (thn (he.run pins s σ H _ I h) fun u s1 hh => ?_)
  obtain ⟨x, H1, I1, rx, a, C, dd, fs, v, rfl, ha, hx, hl, T, hno, q⟩ := hh
  cases rx
  obtain ⟨⟨oe, e1, z, vs, f⟩, _, _⟩ := I1.hok a _ ha
  have hx2 : ObjOk X.prog X.w H1 s1.heap dd (.xd fs) := I1.hok dd _ hx
  obtain ⟨mA, hns, hr⟩ := hx2
  obtain ⟨od, ho, hlk⟩ := lookIn_ns hns
  obtain ⟨u, hu, ru⟩ := RelO.some_of (v := v) (o := mA n) (by rw [← hl]; exact hr n)
  have J : PySem.W.InstAt s1.heap a oe C (some od) := ⟨e1, z.1, (by unfold PySem.W.notCls; rw [f] <;> rfl), by rw [z.2]; exact ho⟩
  have found := PySem.W.findObj_own (od := od) T.hd hno rfl ((hlk n).trans (by rw [hu]))
  exact HandSPX.exc_get I1.kIn J T.hg T.hk T.hs found (handed_of ru) ⟨v, H1, I1.tok _, ru, q⟩
end
end WX
/-! zip of a list and a text, walked. -/
namespace WX
open PySem PySem.Spec PyProof.Rows L2
theorem nn (N : Nat) {i j : Nat} (h : i ≠ j) : N + i ≠ N + j := by omega
theorem n0 (N : Nat) {j : Nat} (h : 0 ≠ j) : N ≠ N + j := by omega
theorem n1 (N : Nat) {j : Nat} (h : j ≠ 0) : N + j ≠ N := by omega
local macro_rules | `(tactic| trivial) => `(tactic| first | exact nn _ (by decide) | exact n0 _ (by decide) | exact n1 _ (by decide))
/-- the list at a as it stands at each turn, the signs of the text, in new pairs -/
def Itzs (K : PySem.W.Frag) (a : Addr) (y : Str) : It :=
  ⟨fun i H => ∃ xs, SqL K H a xs ∧ i < xs.length ∧ i < y.cps.size,
    fun i H v H' => ∃ T x c, v = .ref T ∧ H T = none ∧ H' = upd H T (.tup [x, .str ⟨#[c]⟩]) ∧ (∀ xs, SqL K H a xs → xs[i]? = some x) ∧ y.cps[i]? = some c,
    fun i H => ∃ xs, SqL K H a xs ∧ i ≤ xs.length ∧ i ≤ y.cps.size ∧ (i = xs.length ∨ i = y.cps.size)⟩
def StZ (N a : Addr) (y : Str) (t : Tok) (i : Nat) (h : Heap) : Prop :=
  IsZip h (N + 4) (N + 2) (N + 3) .none ∧ IsTupOf2 h (N + 2) (.ref N) (.ref (N + 1)) ∧ (∃ u v, IsTupOf2 h (N + 3) u v) ∧ h.IsListIter N a i ∧ h.IsStrIter (N + 1) (strIterType y) y t i
theorem five {N c : Addr} (h : c ∈ [N + 4, N + 2, N + 3, N, N + 1]) : c = N + 4 ∨ c = N + 2 ∨ c = N + 3 ∨ c = N ∨ c = N + 1 := by simpa using h
theorem turn_zs {P : Program} {w : World} {K : PySem.W.Frag} {elts : List Expr} {kk : Nat} {tpos : Pos} {N a : Addr} {y : Str} {t : Tok} (la : a < N) :
    Turn P w K (.Tuple elts kk tpos) (Itzs K a y) [N + 4, N + 2, N + 3, N, N + 1] (N + 4) (StZ N a y t) where
  mem := by simp
  obj := fun i h st c hc => by
    obtain ⟨g1, g2, ⟨u, v, g3⟩, ⟨o1, e1, _, d1⟩, ⟨o2, e2, _, d2⟩⟩ := st
    rcases five hc with r | r | r | r | r
    · rw [r]; exact ⟨_, g1, fun _ q => nomatch q⟩
    · rw [r]; exact ⟨_, g2, fun _ q => nomatch q⟩
    · rw [r]; exact ⟨_, g3, fun _ q => nomatch q⟩
    · rw [r]; exact ⟨o1, e1, fun _ q => by rw [d1] at q; cases q⟩
    · rw [r]; exact ⟨o2, e2, fun _ q => by rw [d2] at q; cases q⟩
  keep := fun i h h' st k => by
    obtain ⟨g1, g2, ⟨u, v, g3⟩, g4, ⟨o2, e2, r2⟩⟩ := st
    exact ⟨k _ (by simp) _ g1, k _ (by simp) _ g2, ⟨u, v, k _ (by simp) _ g3⟩, g4.at fun o q => k _ (by simp) o q, ⟨o2, k _ (by simp) _ e2, r2⟩⟩
  item := by
    intro X hP hw hK hc i pins s σ H E I hf st hg
    subst hP hw hK
    obtain ⟨g1, g2, ⟨u, v, g3⟩, g4, g5⟩ := st
    obtain ⟨xs, hq, k1, k2⟩ := hg
    obtain ⟨its, rv, p, _⟩ := I.list hq
    have hh : X.A.in1.handled = none := I.ok.hd hc
    have ls := rv.length
    have S : ZipSep2 (N + 4) (N + 2) (N + 3) N (N + 1) (N :: [a]) ((N + 1) :: []) := zip_sep2 (fun b hb => by rw [List.mem_singleton.mp hb]; exact la) (fun b hb => nomatch hb)
    have D1 := Draws.list (prog := X.prog) (w := X.w) hh N a (Nat.ne_of_lt la) its.toArray
    have D2 := Draws.text (prog := X.prog) (w := X.w) hh (N + 1) y t
    have zl : N + 4 < s.heap.objs.size := Heap.lt_size g1
    refine wpAny_pyNext_zipD2_item S D1 D2 g1 g2 g3 ⟨g4, p.isList⟩ g5 (by rw [List.size_toArray]; omega) k2 fun x1 x2 h' tk p1 p2 z1 z2 z3 z4 z5 z6 z7 => ?_
    obtain ⟨c, tc, ec, rfl⟩ := p2
    have hx : its[i]? = some x1 := by simpa using p1
    have hxi : i < xs.length := k1
    obtain ⟨u1, hu1, ru⟩ := rv.get (List.getElem?_eq_getElem hxi)
    have eu : u1 = x1 := Option.some.inj (hu1.symm.trans hx)
    subst eu
    refine ⟨_, rfl, wpAny_letOwnedTupleGo_zip (s := { s with heap := h', toks := tk }) z1 fun h'' y1 sb => ?_⟩
    have hT2 : h''.get? s.heap.objs.size = some { cls := .type "tuple", data := .seq #[u1, .str ⟨#[c]⟩ tc] } := (sb.2 _ (Nat.ne_of_gt zl)).trans z5
    have new : ObjOk X.prog X.w (upd H s.heap.objs.size (.tup [xs[i], .str ⟨#[c]⟩])) h'' s.heap.objs.size (.tup [xs[i], .str ⟨#[c]⟩]) :=
      ⟨by show 2 ≤ sizeLine; decide, [u1, .str ⟨#[c]⟩ tc], .cons ru (.cons ⟨tc, rfl⟩ .nil), ⟨_, hT2, rfl, _, rfl⟩⟩
    have far : ∀ b o, b ∉ [N + 4, N + 2, N + 3, N, N + 1] → s.heap.get? b = some o → h''.get? b = some o := fun b o hb q => by
      have m1 : b ≠ N + 4 := fun r => hb (by rw [r]; simp)
      have m3 : b ≠ N + 3 := fun r => hb (by rw [r]; simp)
      have m4 : b ≠ N := fun r => hb (by rw [r]; simp)
      have m5 : b ≠ N + 1 := fun r => hb (by rw [r]; simp)
      exact (sb.2 b m1).trans (z7 b o m1 m3 m4 m5 q)
    have I1 : Inv X pins σ (upd H s.heap.objs.size (.tup [xs[i], .str ⟨#[c]⟩])) { s with heap := h'', toks := tk } := I.turnedNew (t' := tk) far hf (Nat.le_refl _) new
    refine ⟨.ref s.heap.objs.size, _, I1, rfl, ⟨_, xs[i], c, rfl, I.hok.fresh (Nat.le_refl _), rfl, fun l hl => by rw [I.list_inj hl hq]; exact List.getElem?_eq_getElem hxi, ec⟩, ⟨y1, ?_, ⟨_, _, (sb.2 _ (by trivial)).trans z2⟩, ?_, ?_⟩, fun b hb => ?_⟩
    · exact (sb.2 _ (by trivial)).trans (z7 _ _ (by trivial) (by trivial) (by trivial) (by trivial) g2)
    · exact z3.1.at fun o q => (sb.2 _ (by trivial)).trans q
    · obtain ⟨o2, q2, r2⟩ := z4
      exact ⟨o2, (sb.2 _ (by trivial)).trans q2, r2⟩
    · have bl : b < s.heap.objs.size := by
        rcases five hb with r | r | r | r | r
        · rw [r]; exact zl
        · rw [r]; exact Heap.lt_size g2
        · rw [r]; exact Heap.lt_size g3
        · rw [r]; obtain ⟨_, e1, _⟩ := g4; exact Heap.lt_size e1
        · rw [r]; obtain ⟨_, e1, _⟩ := g5; exact Heap.lt_size e1
      rw [upd_ne (Nat.ne_of_lt bl)]
      exact (hf b hb).1
  done := by
    intro X hP hw hK hc i pins s σ H E I hf st hg
    subst hP hw hK
    obtain ⟨g1, g2, ⟨u, v, g3⟩, g4, g5⟩ := st
    obtain ⟨xs, hq, k1, k2, k3⟩ := hg
    obtain ⟨its, rv, p, _⟩ := I.list hq
    have hh : X.A.in1.handled = none := I.ok.hd hc
    have ls := rv.length
    have S : ZipSep2 (N + 4) (N + 2) (N + 3) N (N + 1) (N :: [a]) ((N + 1) :: []) := zip_sep2 (fun b hb => by rw [List.mem_singleton.mp hb]; exact la) (fun b hb => nomatch hb)
    have D1 := Draws.list (prog := X.prog) (w := X.w) hh N a (Nat.ne_of_lt la) its.toArray
    have D2 := Draws.text (prog := X.prog) (w := X.w) hh (N + 1) y t
    refine wpAny_pyNext_zipD2_end S D1 D2 g1 g2 g3 ⟨g4, p.isList⟩ g5 (by rw [List.size_toArray]; omega) k2 (by rw [List.size_toArray]; omega) fun h' tk z7 => ⟨rfl, I.turnedL (t' := tk) (ch := [N + 4, N + 2, N + 3, N, N + 1]) (fun b o hb q => ?_) hf⟩
    exact z7 b o (fun r => hb (by rw [r]; simp)) (fun r => hb (by rw [r]; simp)) (fun r => hb (by rw [r]; simp)) (fun r => hb (by rw [r]; simp)) q
  self := fun A i s Q E st h => wpAny_pyIter_zip st.1 h
def iZipS (K : PySem.W.Frag) (ta : TA) : TI := fun σ H R => ta σ H fun vs H1 => ∃ a xs y, vs = [.ref a, .str y] ∧ SqL K H1 a xs ∧ R (Itzs K a y) H1
theorem pi_zips {X : Cx} {e e2 : Expr} {ta : TA} {p pos tpos : Pos} {elts : List Expr} {kk : Nat} (hg : Gl X "zip") (hm : X.mg "zip" = none) (ha : PA X [e, e2] ta)
    (hs : starEach [e, e2] X.env = (false, eval e X.env) :: starEach [e2] X.env := by rfl) (hpl : (backTo pos (starEach [e2] X.env)).any (·.1) = false := by rfl) :
    PI X (.Tuple elts kk tpos) (.Call (.Name "zip" p) [e, e2] [] pos) (iZipS X.K ta) := by
  constructor
  intro pins s σ H R I h
  refine Call_ (ld_blt I hg hm boot_zip (callWith_type1 (thn (ha.run pos pins s σ H _ I h) fun us s1 h1 => ?_) hs hpl))
  obtain ⟨vs, H1, I1, r1, a, xs, y, rfl, hq, q⟩ := h1
  cases r1 with
  | cons r r2 =>
    cases r2 with
    | cons r' r3 =>
      cases r3
      cases r
      obtain ⟨t, rfl⟩ := r'
      obtain ⟨its, rv, pl, _⟩ := I1.list hq
      have la : a < s1.heap.objs.size := pl.lt
      refine zip_begins2 (begins_list a its.toArray) (begins_text y t) pl.isList trivial fun h' z1 z2 z3 z4 z5 z6 z7 => wpAny_pyIter_zip z1 ?_
      have I2 : Inv X pins σ H1 { s1 with heap := h' } := I1.kept (t' := s1.toks) z7
      refine ⟨s1.heap.objs.size + 4, [s1.heap.objs.size + 4, s1.heap.objs.size + 2, s1.heap.objs.size + 3, s1.heap.objs.size, s1.heap.objs.size + 1], _, _, H1, rfl, I2, turn_zs (t := t) la, ⟨z1, z2, ⟨_, _, z3⟩, ⟨_, z4, rfl, rfl⟩, ⟨_, z5, rfl, rfl⟩⟩, fun c hc => ?_, q⟩
      have cl : s1.heap.objs.size ≤ c := by
        rcases five hc with r | r | r | r | r
        · rw [r]; exact Nat.le_add_right _ _
        · rw [r]; exact Nat.le_add_right _ _
        · rw [r]; exact Nat.le_add_right _ _
        · rw [r]; exact Nat.le_refl _
        · rw [r]; exact Nat.le_add_right _ _
      exact I1.fpOk cl (I1.hok.fresh cl)
/-- its turns: a new pair of the i-th item and the i-th sign -/
def YZs (xs : List V) (y : List Nat) : Nat → Hp → V → Hp → Prop := fun i H v H' => ∃ T x c, v = .ref T ∧ H T = none ∧ H' = upd H T (.tup [x, .str ⟨#[c]⟩]) ∧ xs[i]? = some x ∧ y[i]? = some c
theorem walk_zs {K : PySem.W.Frag} {a : Addr} {xs : List V} {y : Str} {n : Nat} (hn : n = min xs.length y.cps.size) : Walk (Itzs K a y) n (fun H => SqL K H a xs) (YZs xs y.cps.toList) where
  goes := fun i H hi g => ⟨xs, g, by omega, by omega⟩
  stops := fun H g => ⟨xs, g, by omega, by omega, by omega⟩
  yields := fun i H x H' hi g h => by
    obtain ⟨T, x1, c, e1, e2, e3, e4, e5⟩ := h
    exact ⟨T, x1, c, e1, e2, e3, e4 xs g, by simpa using e5⟩
end WX
/-! The greatest of a pair; calls with a keyword, or with what is left out, that may raise within a try. -/
namespace WX
open PySem PySem.Spec PyProof.Rows L2
def rMaxT (K : PySem.W.Frag) : List V → Hp → VK → Prop := fun vs H Q => ∃ (a : Addr) (i j : Int), vs = [.ref a] ∧ SqT K H a [.int i, .int j] ∧ ∀ m, (m = i ∨ m = j) → i ≤ m → j ≤ m → Q (.int m) H
theorem cr_maxT {X : Cx} (hc : X.calm = true) : CallR X (.builtin "max") (rMaxT X.K) := by
  intro pins s σ H vs us Q I r h
  obtain ⟨a, i, j, rfl, hs, q⟩ := h
  obtain ⟨its, rv, pl, _⟩ := Inv.tuple I hs
  rw [Vals.ref1 r]
  obtain ⟨u, w', rfl, ⟨t1, rfl⟩, ⟨t2, rfl⟩⟩ := vals2 rv
  have hh : X.A.in1.handled = none := I.ok.hd hc
  have tp : s.heap.IsTuple a #[Value.int i t1, Value.int j t2] := pl
  have la : a < s.heap.objs.size := by
    obtain ⟨o, e, _⟩ := tp
    exact Heap.lt_size e
  refine call_max_walk (wpAny_pyIter_tuple tp ?_)
  refine ⟨s.heap.objs.size, [s.heap.objs.size, a], [s.heap.objs.size], 2, (fun k v => (#[Value.int i t1, Value.int j t2] : Array Value)[k]? = some v), _, fun p q => decide ((fun n => if n = 0 then i else j) p > (fun n => if n = 0 then i else j) q), rfl, PySem.Walks.tuple hh s.heap.objs.size a (Nat.ne_of_lt la) #[Value.int i t1, Value.int j t2], ⟨⟨_, Heap.get?_push_size _ rfl, rfl, rfl⟩, ?_⟩, ?_, by decide, ?_, ?_⟩
  · obtain ⟨o, e, e2⟩ := tp
    exact ⟨o, (Heap.get?_push_ne s.heap _ _ (Nat.ne_of_lt la)).trans e, e2⟩
  · intro b hb
    rw [Heap.size_push]
    rcases List.mem_cons.mp hb with r | r
    · rw [r]; exact Nat.lt_succ_self _
    · rw [List.mem_singleton.mp r]; exact Nat.lt_succ_of_lt la
  · refine PySem.CmpOf.ints_gt (fun n => if n = 0 then i else j) fun k v hk => ?_
    match k, hk with
    | 0, hk => exact ⟨t1, (Option.some.inj hk).symm⟩
    | 1, hk => exact ⟨t2, (Option.some.inj hk).symm⟩
    | k + 2, hk => simp at hk
  · intro v h' tk hv hk
    obtain ⟨b1, b2⟩ := argBest_gt (fun n => if n = 0 then i else j) 1
    have hv : (#[Value.int i t1, Value.int j t2] : Array Value)[argBest (fun p q => decide ((fun n => if n = 0 then i else j) p > (fun n => if n = 0 then i else j) q)) 1]? = some v := hv
    have keep : ∀ (b : Addr) (o : Obj), s.heap.get? b = some o → h'.get? b = some o := fun b o e => hk b o (fun z => by
      rw [List.mem_singleton.mp z] at e
      exact absurd (Heap.lt_size e) (Nat.lt_irrefl _)) ((Heap.get?_push_ne s.heap _ _ (Nat.ne_of_lt (Heap.lt_size e))).trans e)
    have g0 := b2 0 (by decide)
    have g1 := b2 1 (by decide)
    generalize argBest (fun p q => decide ((fun n => if n = 0 then i else j) p > (fun n => if n = 0 then i else j) q)) 1 = m at *
    match m, b1, hv, g0, g1 with
    | 0, _, hv, g0, g1 => exact ⟨.int i, H, I.kept (t' := tk) keep, ⟨t1, (Option.some.inj hv).symm⟩, q i (.inl rfl) g0 g1⟩
    | 1, _, hv, g0, g1 => exact ⟨.int j, H, I.kept (t' := tk) keep, ⟨t2, (Option.some.inj hv).symm⟩, q j (.inr rfl) g0 g1⟩
/-! ### calls within a try -/
theorem run_fnX {X : Cx} {CX : CXT} {k : Nat} {f : Addr} {fd : FuncData} {ps : List Str} {sp : Sp} {E : XK} {pins : List (Addr × Obj)} {σ : L2.St} {H : Hp} {s : Shared} {Q : VK} {us : List Value} {kw : List (Str × Value)} {bs : List Value} {vs : List V}
    (F : FnOk X.prog X.w X.K X.mg X.base CX k f fd ps sp) (hr : Room k X.A) (b : BindsTo s fd ⟨us, kw⟩ (ps.zip bs)) (hx : PassesAt CX X σ E) (I : Inv X pins σ H s) (r : Vals vs bs) (h : sp vs H Q E) :
    wpAny (model X.prog X.w) X.A (call (.ref f) us kw) (EP X pins σ Q) X.xe s := by
  refine wpAny_call (codeAny_mono (F.run X.A X.stack s H ⟨us, kw⟩ bs vs Q E hr (Inv.env0 I) b r h) fun r s' hq => ?_)
  cases r with
  | error e => exact hx pins H s e s' I hq
  | ok fl =>
    cases fl with
    | ret u => exact Inv.after I hq
    | next => exact hq.elim
    | brk => exact hq.elim
    | cont => exact hq.elim
/-- what is left out told by dvs -/
def tCallD (sp : Sp) (dvs : List V) (E : L2.St → XK) (t : TA) : TE := fun σ H Q => t σ H fun vs H1 => sp (vs ++ dvs) H1 Q (E σ)
theorem pe_callD {X : Cx} {CX : CXT} {k : Nat} {f : Addr} {fd : FuncData} {ps : List Str} {sp : Sp} {dvs : List V} {ds : List Value} {E : L2.St → XK} {x : Str} {p pos : Pos} {e : Expr} {es : List Expr} {t : TA}
    (F : FnOk X.prog X.w X.K X.mg X.base CX k f fd ps sp) (hr : Room k X.A) (hg : Gl X x) (hm : X.mg x = some (.ref f)) (hk : PySem.W.keepIn X.K (.ref f) = true) (hb : L2.Binds X.K fd ps ds) (hd : Vals dvs ds) (hx : ∀ σ, PassesAt CX X σ (E σ)) (ha : PA X (e :: es) t)
    (hdb : (x == Str.ofString "__debug__") = false := by rfl) (he : starEach (e :: es) X.env = (false, eval e X.env) :: starEach es X.env := by rfl) (hpl : ((backTo pos (starEach es X.env)).any fun x => x.fst) = false := by rfl) :
    PE X (.Call (.Name x p) (e :: es) [] pos) (tCallD sp dvs E t) := by
  constructor
  intro pins s σ H Q I h
  refine wpAny_Call_Name_kw (ld_glob I hg hm (PySem.W.callWith_K I.ok.mod.kin hk (thn (ha.run pos pins s σ H _ I h) fun us s1 h1 => ?_) he hpl) hdb)
  obtain ⟨vs, H1, I1, r, q⟩ := h1
  have r2 := Vals.append r hd
  refine ⟨Inv.kIn I1, run_fnX F hr (hb s1 us (Inv.kIn I1) ?_) (hx σ) I1 r2 q⟩
  rw [← r2.length]
  exact F.len _ _ _ _ q
def tCallK (n m : Nat) (sp : Sp) (gV : List V → List V → List V) (E : L2.St → XK) (t tk : TA) : TE := fun σ H Q => t σ H fun vs H1 => tk σ H1 fun zs H2 => vs.length = n ∧ zs.length = m ∧ sp (gV vs zs) H2 Q (E σ)
theorem pe_callK {X : Cx} {CX : CXT} {k n : Nat} {f : Addr} {fd : FuncData} {ps ks : List Str} {sp : Sp} {E : L2.St → XK} {x : Str} {p pos : Pos} {e : Expr} {es : List Expr} {kws : List Keyword} {t tk : TA} {g : List Value → List Value → List Value} {gV : List V → List V → List V}
    (F : FnOk X.prog X.w X.K X.mg X.base CX k f fd ps sp) (hr : Room k X.A) (hg : Gl X x) (hm : X.mg x = some (.ref f)) (hk : PySem.W.keepIn X.K (.ref f) = true) (hb : KBn X.K fd ps n ks g gV) (hx : ∀ σ, PassesAt CX X σ (E σ)) (ha : PA X (e :: es) t) (hkw : PK X kws tk)
    (hall : ((backToKw pos (keywordEach kws X.env)).all fun x => x.fst.isSome) = true := by rfl) (hks : List.filterMap (fun x => x.fst) (backToKw pos (keywordEach kws X.env)) = ks := by rfl) (hdb : (x == Str.ofString "__debug__") = false := by rfl)
    (he : starEach (e :: es) X.env = (false, eval e X.env) :: starEach es X.env := by rfl) (hpl : (((backTo pos (starEach (e :: es) X.env)).any fun x => x.fst) || (backToKw pos (keywordEach kws X.env)).any fun x => x.fst.isNone) = false := by rfl) :
    PE X (.Call (.Name x p) (e :: es) kws pos) (tCallK n ks.length sp gV E t tk) := by
  constructor
  intro pins s σ H Q I h
  refine wpAny_Call_Name_kw (ld_glob I hg hm (PySem.W.callWith_KW I.ok.mod.kin hk hall (thn (ha.run pos pins s σ H _ I h) fun us s1 h1 => ?_) hpl he) hdb)
  obtain ⟨vs, H1, I1, r, q⟩ := h1
  refine thn (hkw.run pos pins s1 σ H1 _ I1 q) fun ws s2 h2 => ?_
  obtain ⟨zs, H2, I2, rz, l1, l2, q2⟩ := h2
  refine ⟨Inv.kIn I2, ?_⟩
  rw [hks]
  exact run_fnX F hr (hb.to s2 us ws (Inv.kIn I2) (r.length.symm.trans l1) (rz.length.symm.trans l2)) (hx σ) I2 (hb.rel r rz) q2
end WX
/-! A text translated by a displayed table of two signs. -/
namespace WX
open PySem PySem.Spec PyProof.Rows L2 WK
def flip1 (c : Nat) : Nat := if c = 48 then 49 else 48
section
variable {prog : Program} {w : World} {K : Type} [DecidableEq K] {knd : PySem.KeyKind prog w K}
theorem tl_text {A : Around} {E : Value → Shared → Prop} {s : Shared} {d : Addr} {c : Nat} {key : K} {f : K → Option Value} {y : Str} {t : Tok} {Q : Builtin.Str.Mapped → Shared → Prop}
    (hk : ∀ t, knd.is key (.int (c : Int) t) = true) (hm : Heap.MapOf knd s.heap d f) (hf : f key = some (.str y t)) (h : ∀ k, Q (.text y) { s with toks := k }) : wpAny (model prog w) A (Builtin.Str.tableLookup (.ref d) c) Q E s := by
  unfold Builtin.Str.tableLookup
  refine wpAny_bind (wpAny_attempt (wpAny_bind (wpAny_mkInt (wpAny_getItem_of (hk _) hm hf ?_))))
  show wpAny (model prog w) A (asInt? (.str y t) >>= _) Q E _
  refine wpAny_bind (wpAny_of_eq rfl ?_)
  show wpAny (model prog w) A (asStr? (.str y t) >>= _) Q E _
  refine wpAny_bind (wpAny_of_eq rfl ?_)
  exact wpAny_pure (h _)
def TrY (x : List Nat) (s : Shared) (rest : List Nat) (st : List Str × Nat × Bool × List (Nat × Option Nat) × Bool) (s' : Shared) : Prop :=
  ∃ (past : List Nat) (pieces : List Str) (known : List (Nat × Option Nat)) (k : Nat), x = past ++ rest ∧ st = (pieces, past.length, true, known, false) ∧ pieces.reverse = past.map (fun c => (⟨#[flip1 c]⟩ : Str)) ∧
    (∀ c a, List.lookup c known = some a → a = some (flip1 c)) ∧ s' = { s with toks := k }
theorem TrY.next {x : List Nat} {s : Shared} {rest past : List Nat} {c : Nat} {pieces : List Str} {known : List (Nat × Option Nat)} {k : Nat} (e1 : x = past ++ c :: rest) (e3 : pieces.reverse = past.map (fun c => (⟨#[flip1 c]⟩ : Str))) (e4 : ∀ c a, List.lookup c known = some a → a = some (flip1 c)) :
    TrY x s rest (⟨#[flip1 c]⟩ :: pieces, past.length + 1, true, known, false) { s with toks := k } :=
  ⟨past ++ [c], _, known, k, by rw [e1, List.append_assoc]; rfl, by rw [List.length_append]; rfl, by rw [List.reverse_cons, e3, List.map_append]; rfl, e4, rfl⟩
theorem pieces_flip : ∀ (l : List Nat) (acc : Array Nat), (l.map (fun c => (⟨#[flip1 c]⟩ : Str))).foldl (fun acc p => acc ++ p.cps) acc = acc ++ (l.map flip1).toArray
  | [], acc => by simp
  | c :: l, acc => by
    rw [List.map_cons, List.foldl_cons, pieces_flip l, List.map_cons]
    simp
theorem meets_flip (x : List Nat) (t : Tok) (d : Addr) (hx : ∀ c ∈ x, c = 48 ∨ c = 49) (hz : x.length ≤ 16000000) (k0 k1 : K) (hk0 : ∀ t, knd.is k0 (.int ((48 : Nat) : Int) t) = true) (hk1 : ∀ t, knd.is k1 (.int ((49 : Nat) : Int) t) = true) :
    MeetsIn prog w (Builtin.«str.translate» { pos := [.str (tx x) t, .ref d] }) fun A R s =>
      (∃ f t1 t2, Heap.MapOf knd s.heap d f ∧ f k0 = some (.str (tx [49]) t1) ∧ f k1 = some (.str (tx [48]) t2)) ∧
        ∀ (v : Value) (k : Nat), (∃ t', v = .str (tx (x.map flip1)) t') → R (.ok (.ret v)) { s with toks := k } := by
  refine MeetsIn.of_wp fun A R s h => ?_
  obtain ⟨⟨f, t1, t2, hm, f0, f1⟩, h⟩ := h
  show wpAny (model prog w) A.in1 (if ((tx x).length == 0) = true then _ else _) _ _ _
  by_cases h0 : ((tx x).length == 0) = true
  · rw [if_pos h0]
    have e : x = [] := List.eq_nil_of_length_eq_zero (by rw [beq_iff_eq, tx_len] at h0; exact h0)
    subst e
    exact wpAny_bind (wpAny_rule (wpAny_pure ⟨_, rfl, h _ s.toks ⟨t, rfl⟩⟩))
  · rw [if_neg h0]
    have hfast : ((tx x).cps.all fun y => decide (y < 128)) = true := by
      show (x.toArray.all fun y => decide (y < 128)) = true
      rw [List.all_toArray, List.all_eq_true]
      intro c hc
      rcases hx c hc with e | e <;> rw [e] <;> decide
    refine wpAny_bind (MeetsSeq2.wpAny_forIn_array _ (TrY x s) _ (fun c rest st s' hI => ?_) (fun st s' hI => ?_) _ _ ⟨[], [], [], s.toks, rfl, by rw [hfast]; rfl, rfl, fun c a z => (by cases z), rfl⟩)
    · obtain ⟨past, pieces, known, k, e1, rfl, e3, e4, rfl⟩ := hI
      have hpl : past.length ≤ 16777216 := by
        have := congrArg List.length e1
        rw [List.length_append] at this
        omega
      have hc : c = 48 ∨ c = 49 := hx c (by rw [e1]; simp)
      dsimp only
      rw [short24 hpl, if_neg Bool.false_ne_true, if_pos rfl]
      cases hkn : List.lookup c known with
      | some a =>
        have ea := e4 c a hkn
        subst ea
        dsimp only
        refine wpAny_bind (wpAny_pure ?_)
        exact wpAny_pure (TrY.next e1 e3 e4)
      | none =>
        dsimp only
        have e4' : ∀ c' a, List.lookup c' ((c, some (flip1 c)) :: known) = some a → a = some (flip1 c') := fun c' a z => by
          rcases lookup_new z with ⟨rfl, rfl⟩ | z
          · rfl
          · exact e4 c' a z
        rcases hc with rfl | rfl
        · refine wpAny_bind (tl_text (s := { s with toks := k }) hk0 hm f0 fun k' => ?_)
          dsimp only
          rw [show (if ((tx [49]).length == 1 && (tx [49]).cps.all fun x => decide (x < 128)) = true then some (tx [49]).cps[0]? else none) = some (some 49) by decide +kernel]
          dsimp only
          refine wpAny_bind (wpAny_pure ?_)
          exact wpAny_pure (TrY.next e1 e3 e4')
        · refine wpAny_bind (tl_text (s := { s with toks := k }) hk1 hm f1 fun k' => ?_)
          dsimp only
          rw [show (if ((tx [48]).length == 1 && (tx [48]).cps.all fun x => decide (x < 128)) = true then some (tx [48]).cps[0]? else none) = some (some 48) by decide +kernel]
          dsimp only
          refine wpAny_bind (wpAny_pure ?_)
          exact wpAny_pure (TrY.next e1 e3 e4')
    · obtain ⟨past, pieces, known, k, e1, rfl, e3, e4, rfl⟩ := hI
      have ex : past = x := by rw [e1, List.append_nil]
      subst ex
      dsimp only
      rw [short24 (by omega), if_neg Bool.false_ne_true, e3, pieces_flip]
      rw [Array.empty_append]
      refine wpAny_bind (wpAny_mkStr (wpAny_pure ⟨_, rfl, h _ (k + 1) ⟨k, rfl⟩⟩) ?_)
      show (tx (past.map flip1)).length ≤ sizeLine
      rw [tx_len, List.length_map]
      have : (sizeLine : Nat) = 16777216 := by decide
      omega
end
section
variable {X : Cx}
def rFlip : V → List V → Hp → VK → Prop := fun x xs H Q => ∃ (l : List Nat) (d : Addr), x = .str (tx l) ∧ xs = [.ref d] ∧ H d = some (.dK [(.inl 48, .str (tx [49])), (.inl 49, .str (tx [48]))]) ∧ (∀ c ∈ l, c = 48 ∨ c = 49) ∧ l.length ≤ 16000000 ∧ Q (.str (tx (l.map flip1))) H
theorem mt_flip : MtR X "str.translate" rFlip := by
  intro pins s σ H x xs v us Q I rx rs h
  obtain ⟨l, d, rfl, rfl, hd, hl, hz, q⟩ := h
  obtain ⟨t, rfl⟩ := rx
  rw [Vals.ref1 rs]
  have hx : ObjOk X.prog X.w H s.heap d (.dK [(.inl 48, .str (tx [49])), (.inl 49, .str (tx [48]))]) := I.hok d _ hd
  unfold ObjOk at hx
  obtain ⟨_, _, vs, kv, dv⟩ := hx
  cases kv with
  | cons r1 kv =>
    cases kv with
    | cons r2 kv =>
      cases kv
      rename_i p1 p2
      obtain ⟨k1, u1⟩ := p1
      obtain ⟨k2, u2⟩ := p2
      obtain ⟨e1, t1, g1⟩ := r1
      obtain ⟨e2, t2, g2⟩ := r2
      cases e1
      cases e2
      cases g1
      cases g2
      refine call_meetsIn PySem.F.slot_str_translate (typeIs_str s (tx l) t) PySem.F.entry_str_translate (PySem.F.args_str_translate_2 (.str (tx l) t) (.ref d)) (meets_flip l t d hl hz (.inl 48) (.inl 49) (fun _ => rfl) (fun _ => rfl)) ⟨⟨_, t1, t2, dv.mapOf, rfl, rfl⟩, fun v k hv => ?_⟩
      obtain ⟨t', rfl⟩ := hv
      exact ⟨.str (tx (l.map flip1)), H, I.tok k, ⟨t', rfl⟩, q⟩
end
end WX
/-! An attribute as a part of a target. -/
namespace WX
open PySem PySem.Spec PyProof.Rows L2
def gAtt (K : PySem.W.Frag) (to : TE) (f : Str) : TG := fun v σ H Q => to σ H fun x H1 => ∃ a C dx fs, x = .ref a ∧ H1 a = some (.ins C dx fs) ∧ Cls K C ∧ NoAttr K C f ∧ fs.length < 1000 ∧ Q σ (upd H1 a (.ins C dx (putF f v fs)))
theorem pg_att {X : Cx} {pos : Pos} {o : Expr} {f : Str} {to : TE} (ho : PE X o to) : PG X (.Attribute o f pos) (gAtt X.K to f) := by
  constructor
  intro pins s σ H v u Q I r h
  rw [arm_assign_Attribute]
  refine wpAny_bind (wpAny_holding (thn (ho.run pins s σ H _ I h) fun ov s1 h1 => ?_))
  obtain ⟨x, H1, I1, rx, a, C, dx, fs, rfl, ea, c, n, l, q⟩ := h1
  cases rx
  refine wpAny_bind (wpAny_standAt (wpAny_bind (wpAny_holding (setattr_ok I1 ea c n l r fun s2 I2 => wpAny_release ⟨σ, _, I2, q⟩))))
theorem pe_xaK {X : Cx} {e : Expr} {te : TE} {n : Str} {pos : Pos} (K : PySem.W.Frag) (hK : X.K = K) (he : PE X e te) (hb : attributeBase e n X.env (eval e X.env) = eval e X.env := by rfl) : PE X (.Attribute e n pos) (tXa K n te) := by
  subst hK
  exact pe_xa he hb
end WX
/-! An own class's __eq__, __len__, __str__, __repr__, asked by ==, !=, len, str, repr; instances made, methods called within a try. -/
namespace WX
open PySem PySem.Spec PyProof.Rows L2
theorem run_own {X : Cx} {CX : CXT} {k : Nat} {f : Addr} {fd : FuncData} {ps : List Str} {sp : Sp} {E : XK} {pins : List (Addr × Obj)} {σ : L2.St} {H : Hp} {s : Shared} {Q : VK} {us : List Value} {vs : List V} {A : Around} {R : Value → Shared → Prop}
    (F : FnOk X.prog X.w X.K X.mg X.base CX k f fd ps sp) (hr : Room k A) (fr : A.frames = X.A.frames) (hb : L2.Binds X.K fd ps []) (hx : Passes CX X E) (I : Inv X pins σ H s) (r : Vals vs us) (h : sp vs H Q E)
    (hR : ∀ u s', EP X pins σ Q u s' → R u s') : wpAny (model X.prog X.w) A (call (.ref f) us) R X.xe s := by
  have e0 := Inv.env0 I
  have e1 : Env0 X.prog X.w X.K X.mg X.base A X.stack s H := ⟨fr.trans e0.frames, e0.mod, e0.bs, e0.bsz, e0.funs, e0.frf, e0.hok, e0.bare⟩
  have b : BindsTo s fd ⟨us, []⟩ (ps.zip us) := by
    have := hb s us (Inv.kIn I) (by rw [List.append_nil, ← r.length, F.len _ _ _ _ h])
    rw [List.append_nil] at this
    exact this
  refine wpAny_call (codeAny_mono (F.run A X.stack s H ⟨us, []⟩ us vs Q E hr e1 b r h) fun r s' hq => ?_)
  cases r with
  | error e => exact hx pins σ H s e s' I hq
  | ok fl =>
    cases fl with
    | ret u => exact hR u s' (Inv.after I hq)
    | next => exact hq.elim
    | brk => exact hq.elim
    | cont => exact hq.elim
theorem ins_at {X : Cx} {pins : List (Addr × Obj)} {σ : L2.St} {H : Hp} {s : Shared} {a C dx : Addr} {fs : List (Str × V)} (I : Inv X pins σ H s) (h : H a = some (.ins C dx fs)) : ∃ od, PySem.W.InstAt s.heap a (PySem.W.instObj C dx) C (some od) := by
  obtain ⟨mA, J, _⟩ := ins_get I.hok h
  obtain ⟨od, J, _⟩ := ObjM.look J
  exact ⟨od, J⟩
/-- what is compared: an object of the own class C with a thing whose class is told -/
inductive TyO (H : Hp) : V → Value → Prop
  | own {c C dc : Addr} {gs : List (Str × V)} (h : H c = some (.ins C dc gs)) : TyO H (.ref c) (.ref C)
  | non : TyO H .non (.type "NoneType")
  | str (z : Str) : TyO H (.str z) (.type "str")
  | tup {c : Addr} {xs : List V} (h : H c = some (.tup xs)) : TyO H (.ref c) (.type "tuple")
theorem TyO.looks {X : Cx} {pins : List (Addr × Obj)} {σ : L2.St} {H : Hp} {s : Shared} {y : V} {v tb : Value} (I : Inv X pins σ H s) (r : RelV y v) (h : TyO H y tb) : PySem.W.Looks (model X.prog X.w) s.heap (typeOf v) tb := by
  cases h with
  | own h =>
    cases r
    obtain ⟨_, J⟩ := ins_at I h
    exact J.type
  | non =>
    cases r
    intro A' Q' E' s' kk qq
    exact wpAny_pure qq
  | str z =>
    obtain ⟨tk, rfl⟩ := r
    intro A' Q' E' s' kk qq
    exact wpAny_pure qq
  | tup h =>
    cases r
    obtain ⟨_, its, rv, ⟨o, e1, e2, e3⟩⟩ := I.hok _ _ h
    intro A' Q' E' s' kk qq
    refine wpAny_typeOf_ref (kk _ _ e1) ?_
    rw [e2]
    exact qq
def rEqO (K : PySem.W.Frag) (C : Addr) (sp : Sp) (E : XK) : R2 := fun x y H Q => ∃ a dx fs tb, x = .ref a ∧ H a = some (.ins C dx fs) ∧ TyO H y tb ∧ PySem.W.notFirst K C tb = true ∧
  sp [x, y] H (fun v H' => ∃ b, v = .bl b ∧ Q (.bl b) H') E
theorem op_eqO {X : Cx} {CX : CXT} {k : Nat} {C f : Addr} {fd : FuncData} {ps : List Str} {sp : Sp} {E : XK}
    (F : FnOk X.prog X.w X.K X.mg X.base CX k f fd ps sp) (hr : Room k X.A) (hb : L2.Binds X.K fd ps []) (hx : Passes CX X E) (hm : Meth X.K C "__eq__" f) :
    OpR X (compareOp .Eq) (rEqO X.K C sp E) := by
  intro pins s σ H x y u v Q I rx ry h
  obtain ⟨a, dx, fs, tb, rfl, ha, ty, nf, q⟩ := h
  have lk := ty.looks I ry
  cases rx
  obtain ⟨od, J⟩ := ins_at I ha
  obtain ⟨m, hF⟩ := Inv.fr I
  show wpAny (model X.prog X.w) X.A (richCompare .Eq (.ref a) v) _ _ _
  refine PySem.W.cmp_K (op := .Eq) hr.units0 hF I.ok.mod.kin J lk nf hm.at_ hm.fn ?_
  refine run_own (vs := [.ref a, y]) F hr rfl hb hx I (.cons (show RelV (.ref a) (.ref a) from rfl) (.cons ry .nil)) q fun u s' hq => ?_
  obtain ⟨w, H', I', rw, b, rfl, q'⟩ := hq
  cases rw
  show EP X pins σ Q (.bool b) s'
  exact ⟨.bl b, H', I', rfl, q'⟩
/-- the class C has __eq__ at f and no __ne__ of its own, and its only base is object -/
def NeCls (K : PySem.W.Frag) (C f : Addr) : Prop := ∃ nm q N bs hdct sn sub ab col dd k0 k1 k2 k3 k5 newId oN es ep oF,
  K.lookup C = some (excClassObj nm q C N bs [.type "object"] hdct sn sub ab col dd k0 k1 k2 k3 k5 newId) ∧ K.lookup N = some oN ∧ oN.data = .dict es ep ∧ StrKeys es ∧
  nsFind es "__eq__" = some (.ref f) ∧ nsFind es "__ne__" = none ∧ K.lookup f = some oF ∧ oF.cls = .type "function"
theorem NeCls.at {X : Cx} {pins : List (Addr × Obj)} {σ : L2.St} {H : Hp} {s : Shared} {a C dx f : Addr} {fs : List (Str × V)} (h : NeCls X.K C f) (I : Inv X pins σ H s) (ha : H a = some (.ins C dx fs)) : Heap.OwnEqNoNe s.heap a C f "object" [.type "object"] := by
  obtain ⟨nm, q, N, bs, hdct, sn, sub, ab, col, dd, k0, k1, k2, k3, k5, newId, oN, es, ep, oF, h1, h2, h3, h4, h5, h6, h7, h8⟩ := h
  have kin := Inv.kIn I
  obtain ⟨od, J⟩ := ins_at I ha
  have cf : ∃ y, typeLookup (.type "object") "__eq__" = (pure y : Sem _) := by
    exact ⟨_, PySem.F.cmp_object.eq.lookup⟩
  obtain ⟨y, hy⟩ := cf
  exact ⟨_, oF, nm, q, N, bs, hdct, sn, sub, ab, col, dd, k0, k1, k2, k3, k5, newId, fun x => nsFind es x, y, J.at_, J.cls, kin _ _ h1, ⟨oN, es, ep, kin _ _ h2, h3, h4, fun _ => rfl⟩, h5, kin _ _ h7, h8, PySem.F.cmp_object.mro, hy, h6⟩
def rNeO (C : Addr) (sp : Sp) (E : XK) : R2 := fun x y H Q => ∃ a dx fs c dc gs, x = .ref a ∧ y = .ref c ∧ H a = some (.ins C dx fs) ∧ H c = some (.ins C dc gs) ∧
  sp [x, y] H (fun v H' => ∃ b, v = .bl b ∧ Q (.bl (!b)) H') E
theorem op_neO {X : Cx} {CX : CXT} {k : Nat} {C f : Addr} {fd : FuncData} {ps : List Str} {sp : Sp} {E : XK}
    (F : FnOk X.prog X.w X.K X.mg X.base CX k f fd ps sp) (hr : Room (k + 1) X.A) (hb : L2.Binds X.K fd ps []) (hx : Passes CX X E) (hn : NeCls X.K C f) :
    OpR X (compareOp .NotEq) (rNeO C sp E) := by
  intro pins s σ H x y u v Q I rx ry h
  obtain ⟨a, dx, fs, c, dc, gs, rfl, rfl, ha, hc, q⟩ := h
  cases rx
  cases ry
  obtain ⟨_, J⟩ := ins_at I hc
  have un := hr.units
  refine PySem.compareOp_ne_ownEq PySem.F.cmp_object (hn.at I ha) J.at_ J.cls (by omega) ?_
  refine run_own (vs := [.ref a, .ref c]) F hr.in1 rfl hb hx I (.cons (show RelV (.ref a) (.ref a) from rfl) (.cons (show RelV (.ref c) (.ref c) from rfl) .nil)) q fun u s' hq => ?_
  obtain ⟨w, H', I', rw, b, rfl, q'⟩ := hq
  cases rw
  exact ⟨b, rfl, .bl (!b), H', I', rfl, q'⟩
/-- an own class's __len__ -/
def rLenO (C : Addr) (sp : Sp) (E : XK) : List V → Hp → VK → Prop := fun vs H Q => ∃ a dx fs, vs = [.ref a] ∧ H a = some (.ins C dx fs) ∧ sp [.ref a] H (fun v H' => ∃ n : Int, v = .int n ∧ (0 ≤ n ∧ n < 2 ^ 63) ∧ Q (.int n) H') E
theorem cr_lenO {X : Cx} {CX : CXT} {k : Nat} {C f : Addr} {fd : FuncData} {ps : List Str} {sp : Sp} {E : XK}
    (F : FnOk X.prog X.w X.K X.mg X.base CX k f fd ps sp) (hr : Room (k + 1) X.A) (hb : L2.Binds X.K fd ps []) (hx : Passes CX X E) (hm : Meth X.K C "__len__" f) : CallR X (.builtin "len") (rLenO C sp E) := by
  intro pins s σ H vs us Q I r h
  obtain ⟨a, dx, fs, rfl, ha, q⟩ := h
  rw [Vals.ref1 r]
  obtain ⟨od, J⟩ := ins_at I ha
  obtain ⟨m, hF⟩ := Inv.fr I
  refine PySem.W.len_K hF I.ok.mod.kin J hm.at_ hm.fn ?_
  refine run_own (vs := [.ref a]) F hr.in1 rfl hb hx I (.cons (show RelV (.ref a) (.ref a) from rfl) .nil) q fun u s' hq => ?_
  obtain ⟨w, H', I', rw, n, rfl, hn, q'⟩ := hq
  obtain ⟨tk, rfl⟩ := rw
  exact ⟨hn, .int n, H', I'.tok _, ⟨_, rfl⟩, q'⟩
/-- an own class's __str__, __repr__ -/
def rStrO (C : Addr) (sp : Sp) (E : XK) : List V → Hp → VK → Prop := fun vs H Q => ∃ a dx fs, vs = [.ref a] ∧ H a = some (.ins C dx fs) ∧ sp [.ref a] H (fun v H' => ∃ z, v = .str z ∧ Q (.str z) H') E
theorem cr_strO {X : Cx} {CX : CXT} {k : Nat} {C f : Addr} {fd : FuncData} {ps : List Str} {sp : Sp} {E : XK}
    (F : FnOk X.prog X.w X.K X.mg X.base CX k f fd ps sp) (hr : Room (k + 2) X.A) (hb : L2.Binds X.K fd ps []) (hx : Passes CX X E) (hm : Meth X.K C "__str__" f) : CallR X (.type "str") (rStrO C sp E) := by
  intro pins s σ H vs us Q I r h
  obtain ⟨a, dx, fs, rfl, ha, q⟩ := h
  rw [Vals.ref1 r]
  obtain ⟨od, J⟩ := ins_at I ha
  refine PySem.W.kso_call hr.in1.in1.units0 (Inv.kIn I) J hm.at_ hm.fn ?_
  refine run_own (vs := [.ref a]) F hr.in1.in1 rfl hb hx I (.cons (show RelV (.ref a) (.ref a) from rfl) .nil) q fun u s' hq => ?_
  obtain ⟨w, H', I', rw, z, rfl, q'⟩ := hq
  obtain ⟨tk, rfl⟩ := rw
  exact ⟨.str z, H', I', ⟨_, rfl⟩, q'⟩
theorem cr_reprO {X : Cx} {CX : CXT} {k : Nat} {C f : Addr} {fd : FuncData} {ps : List Str} {sp : Sp} {E : XK}
    (F : FnOk X.prog X.w X.K X.mg X.base CX k f fd ps sp) (hr : Room (k + 1) X.A) (hb : L2.Binds X.K fd ps []) (hx : Passes CX X E) (hm : Meth X.K C "__repr__" f) : CallR X (.builtin "repr") (rStrO C sp E) := by
  intro pins s σ H vs us Q I r h
  obtain ⟨a, dx, fs, rfl, ha, q⟩ := h
  rw [Vals.ref1 r]
  obtain ⟨od, J⟩ := ins_at I ha
  obtain ⟨m, hF⟩ := Inv.fr I
  refine PySem.W.repr_K hr.in1.units0 hF I.ok.mod.kin J hm.at_ hm.fn ?_
  refine run_own (vs := [.ref a]) F hr.in1 rfl hb hx I (.cons (show RelV (.ref a) (.ref a) from rfl) .nil) q fun u s' hq => ?_
  obtain ⟨w, H', I', rw, z, rfl, q'⟩ := hq
  obtain ⟨tk, rfl⟩ := rw
  exact ⟨.str z, H', I', ⟨_, rfl⟩, q'⟩
/-! ### within a try -/
theorem run_makeX {X : Cx} {CX : CXT} {k : Nat} {f C : Addr} {fd : FuncData} {ps : List Str} {sp : Sp} {E : XK} {pins : List (Addr × Obj)} {σ : L2.St} {H : Hp} {s : Shared} {Q : VK} {us : List Value} {kw : List (Str × Value)} {bs : Value → List Value} {vs : V → List V}
    (M : Mk X.K C f) (F : FnOk X.prog X.w X.K X.mg X.base CX k f fd ps sp) (hr : Room (k + 1) X.A) (hx : PassesAt CX X σ E) (I : Inv X pins σ H s) (r : ∀ x : Addr, Vals (vs (.ref x)) (bs (.ref x)))
    (hb : ∀ (s' : Shared) (x : Addr), X.K.In s'.heap → (bs (.ref x)).length = ps.length → BindsTo s' fd ⟨.ref x :: us, kw⟩ (ps.zip (bs (.ref x))))
    (h : ∀ x dx, H x = none → H dx = none → dx ≠ x → sp (vs (.ref x)) (upd (upd H dx (.own x)) x (.ins C dx [])) (fun v H2 => v = .non ∧ Q (.ref x) H2) E) : wpAny (model X.prog X.w) X.A (call (.ref C) us kw) (EP X pins σ Q) X.xe s := by
  have hq := h (s.heap.objs.size + 1) s.heap.objs.size (HOk.fresh I.hok (Nat.le_succ _)) (HOk.fresh I.hok (Nat.le_refl _)) (Nat.ne_of_lt (Nat.lt_succ_self _))
  have I2 := Inv.made (C := C) I
  have r2 := r (s.heap.objs.size + 1)
  have hl : (bs (.ref (s.heap.objs.size + 1))).length = ps.length := by
    rw [← r2.length]
    exact F.len _ _ _ _ hq
  refine wpAny_call (make_map (Inv.kIn I) M.makes M.init (beq_iff_eq.mp M.fn) (codeAny_mono (F.run (Around.under X.A (Code.builtin "type.__call__" { pos := .ref C :: us, kw := kw })) X.stack _ _ { pos := .ref (s.heap.objs.size + 1) :: us, kw := kw } _ _ _ E (Room.make hr C us kw) (Env0.make (Inv.env0 I2) C us kw) (hb _ _ (Inv.kIn I2) hl) r2 hq) fun r s' hq' => ?_))
  cases r with
  | error e => exact hx pins _ _ e s' I2 hq'
  | ok fl =>
    cases fl with
    | next => exact hq'.elim
    | brk => exact hq'.elim
    | cont => exact hq'.elim
    | ret u =>
      obtain ⟨v, H', I3, rv, rfl, q3⟩ := Inv.after I2 hq'
      exact ⟨rv, .ref (s.heap.objs.size + 1), H', I3, rfl, q3⟩
def tMakeX (C : Addr) (sp : Sp) (dvs : List V) (E : L2.St → XK) (t : TA) : TE := fun σ H Q => t σ H fun vs H1 => ∀ x dx, H1 x = none → H1 dx = none → dx ≠ x → sp (.ref x :: (vs ++ dvs)) (upd (upd H1 dx (.own x)) x (.ins C dx [])) (fun v H2 => v = .non ∧ Q (.ref x) H2) (E σ)
theorem pe_makeX {X : Cx} {CX : CXT} {k : Nat} {f C : Addr} {fd : FuncData} {ps : List Str} {sp : Sp} {dvs : List V} {ds : List Value} {E : L2.St → XK} {x : Str} {p pos : Pos} {e : Expr} {es : List Expr} {t : TA}
    (M : Mk X.K C f) (F : FnOk X.prog X.w X.K X.mg X.base CX k f fd ps sp) (hr : Room (k + 1) X.A) (hg : Gl X x) (hm : X.mg x = some (.ref C)) (hb : L2.Binds X.K fd ps ds) (hd : Vals dvs ds) (hx : ∀ σ, PassesAt CX X σ (E σ)) (ha : PA X (e :: es) t)
    (hdb : (x == Str.ofString "__debug__") = false := by rfl) (he : starEach (e :: es) X.env = (false, eval e X.env) :: starEach es X.env := by rfl) (hpl : ((backTo pos (starEach es X.env)).any fun x => x.fst) = false := by rfl) :
    PE X (.Call (.Name x p) (e :: es) [] pos) (tMakeX C sp dvs E t) := by
  constructor
  intro pins s σ H Q I h
  refine wpAny_Call_Name_kw (ld_glob I hg hm (PySem.W.callWith_K I.ok.mod.kin M.kp (thn (ha.run pos pins s σ H _ I h) fun us s1 h1 => ?_) he hpl) hdb)
  obtain ⟨vs, H1, I1, r, q⟩ := h1
  refine ⟨Inv.kIn I1, run_makeX (bs := fun u => u :: (us ++ ds)) (vs := fun u => u :: (vs ++ dvs)) M F hr (hx σ) I1 (fun y => .cons rfl (Vals.append r hd)) (fun s' y ki hl => ?_) q⟩
  exact hb s' (.ref y :: us) ki hl
def tMakeKX (C : Addr) (n m : Nat) (sp : Sp) (gV : List V → List V → List V) (E : L2.St → XK) (t tk : TA) : TE := fun σ H Q => t σ H fun vs H1 => tk σ H1 fun zs H2 => vs.length = n ∧ zs.length = m ∧ ∀ x dx, H2 x = none → H2 dx = none → dx ≠ x → sp (gV (.ref x :: vs) zs) (upd (upd H2 dx (.own x)) x (.ins C dx [])) (fun v H3 => v = .non ∧ Q (.ref x) H3) (E σ)
theorem pe_makeKX {X : Cx} {CX : CXT} {k n : Nat} {f C : Addr} {fd : FuncData} {ps ks : List Str} {sp : Sp} {E : L2.St → XK} {x : Str} {p pos : Pos} {e : Expr} {es : List Expr} {kws : List Keyword} {t tk : TA} {g : List Value → List Value → List Value} {gV : List V → List V → List V}
    (M : Mk X.K C f) (F : FnOk X.prog X.w X.K X.mg X.base CX k f fd ps sp) (hr : Room (k + 1) X.A) (hg : Gl X x) (hm : X.mg x = some (.ref C)) (hb : KBn X.K fd ps (n + 1) ks g gV) (hx : ∀ σ, PassesAt CX X σ (E σ)) (ha : PA X (e :: es) t) (hkw : PK X kws tk)
    (hall : ((backToKw pos (keywordEach kws X.env)).all fun x => x.fst.isSome) = true := by rfl) (hks : List.filterMap (fun x => x.fst) (backToKw pos (keywordEach kws X.env)) = ks := by rfl) (hdb : (x == Str.ofString "__debug__") = false := by rfl)
    (he : starEach (e :: es) X.env = (false, eval e X.env) :: starEach es X.env := by rfl) (hpl : (((backTo pos (starEach (e :: es) X.env)).any fun x => x.fst) || (backToKw pos (keywordEach kws X.env)).any fun x => x.fst.isNone) = false := by rfl) :
    PE X (.Call (.Name x p) (e :: es) kws pos) (tMakeKX C n ks.length sp gV E t tk) := by
  constructor
  intro pins s σ H Q I h
  refine wpAny_Call_Name_kw (ld_glob I hg hm (PySem.W.callWith_KW I.ok.mod.kin M.kp hall (thn (ha.run pos pins s σ H _ I h) fun us s1 h1 => ?_) hpl he) hdb)
  obtain ⟨vs, H1, I1, r, q⟩ := h1
  refine thn (hkw.run pos pins s1 σ H1 _ I1 q) fun ws s2 h2 => ?_
  obtain ⟨zs, H2, I2, rz, l1, l2, q2⟩ := h2
  refine ⟨Inv.kIn I2, ?_⟩
  rw [hks]
  refine run_makeX (bs := fun u => g (u :: us) ws) (vs := fun u => gV (u :: vs) zs) M F hr (hx σ) I2 (fun y => hb.rel (.cons rfl r) rz) (fun s' y ki hl => ?_) q2
  exact hb.to s' (.ref y :: us) ws ki (by rw [List.length_cons, ← r.length, l1]) (rz.length.symm.trans l2)
def tMethX (C : Addr) (m : Str) (sp : Sp) (dvs : List V) (E : L2.St → XK) (ta : TE) (t : TA) : TE := fun σ H Q => ta σ H fun x H1 => ∃ a dx fs, x = .ref a ∧ H1 a = some (.ins C dx fs) ∧ fs.lookup m = none ∧ t σ H1 fun vs H2 => sp (x :: (vs ++ dvs)) H2 Q (E σ)
theorem pe_methX {X : Cx} {CX : CXT} {k : Nat} {f C : Addr} {fd : FuncData} {ps : List Str} {sp : Sp} {dvs : List V} {ds : List Value} {E : L2.St → XK} {m : Str} {pos apos : Pos} {e o : Expr} {es : List Expr} {ta : TE} {t : TA} {pl : Sem Bool}
    (hO : PE X o ta) (c : Cls X.K C) (hm : Meth X.K C m f) (F : FnOk X.prog X.w X.K X.mg X.base CX k f fd ps sp) (hr : Room k X.A) (hb : L2.Binds X.K fd ps ds) (hd : Vals dvs ds) (hx : ∀ σ, PassesAt CX X σ (E σ)) (ha : PA X (e :: es) t)
    (hst : starEach (e :: es) X.env = (false, eval e X.env) :: starEach es X.env := by rfl) (hpl : ((backTo pos (starEach es X.env)).any fun x => x.fst) = false := by rfl)
    (ht : eval (.Call (.Attribute o m apos) (e :: es) [] pos) X.env = (do
      let ov ← eval o X.env
      standAt (Pos.atName apos)
      let __x ← holding [ov] (getMethod ov m pl)
      match __x with
      | (f, first) => callWith pos f first (backTo pos (starEach (e :: es) X.env)) (backToKw pos (keywordEach [] X.env))) := by rfl) :
    PE X (.Call (.Attribute o m apos) (e :: es) [] pos) (tMethX C m sp dvs E ta t) := by
  constructor
  intro pins s σ H Q I h
  refine PySem.W.methodCall_KW (thn (hO.run pins s σ H _ I h) fun u s1 hh => ?_) ht
  obtain ⟨x, H1, I1, rx, a, dx, fs, rfl, ea, l, q⟩ := hh
  cases rx
  refine getmeth_ok I1 ea c hm l (PySem.W.callWith_K I1.ok.mod.kin hm.kp (thn (ha.run pos pins s1 σ H1 _ I1 q) fun us s2 h2 => ?_) hst hpl)
  obtain ⟨vs, H2, I2, r, q2⟩ := h2
  have r2 : Vals (.ref a :: (vs ++ dvs)) (.ref a :: (us ++ ds)) := .cons rfl (Vals.append r hd)
  refine ⟨Inv.kIn I2, run_fnX F hr (hb s2 (.ref a :: us) (Inv.kIn I2) ?_) (hx σ) I2 r2 q2⟩
  show (Value.ref a :: (us ++ ds)).length = _
  rw [← r2.length]
  exact F.len _ _ _ _ q2
end WX
namespace WX
open PySem PySem.Spec PyProof.Rows L2
/-- what the own class C says, so that isinstance asks its instances rightly -/
structure OIs (K : PySem.W.Frag) (C : Addr) : Prop where
  ha : PySem.W.findIn K (.ref C) "__class__" = some (some (.builtin "object.__class__"))
  hn : PySem.W.specialIn K (.builtin "object.__class__") "__get__" = some (some (.builtin "getset_descriptor.__get__"))
  ht : PySem.W.takesIn K (.builtin "object.__class__") = some true
  hm : PySem.W.mroIn K C (.type "object") = some true
theorem OIs.ty {K : PySem.W.Frag} {H : Hp} {a C dx : Addr} {fs : List (Str × V)} (o : OIs K C) (c : Cls K C) (h : H a = some (.ins C dx fs)) : TyX K H (.ref a) (.ref C) := .base (.ins h c o.ha o.hn o.ht o.hm)
end WX
namespace WK
open PySem PySem.Spec PyProof.Rows L2
def topS (i : Nat) : Stmt := PySem.Challenge.pw_clockloom_k05_words_as_objects.main.body.getD i (.Pass ⟨0, 0, 0, 0⟩)
structure Cal (P : Program) (w : World) (K : PySem.W.Frag) (mg : Str → Option Value) (base : Heap) (CX : CXT) (k : Nat) (f : Addr) (fd : FuncData) (x : Str) (ps : List Str) (sp : Sp) : Prop where
  G : FnOk P w K mg base CX k f fd ps sp
  g : mg x = some (.ref f)
  kp : PySem.W.keepIn K (.ref f) = true
  b : Binds K fd ps []
abbrev s_is_signs : Stmt := topS 3
theorem sc_is_signs : FnScope ["thing"] ["thing"] (defScope s_is_signs) := ⟨rfl, rfl, rfl, by decide +kernel, rfl, by decide +kernel, by decide +kernel⟩
abbrev s_is_word : Stmt := topS 37
theorem sc_is_word : FnScope ["thing", "head", "again"] ["thing"] (defScope s_is_word) := ⟨rfl, rfl, rfl, by decide +kernel, rfl, by decide +kernel, by decide +kernel⟩
theorem same_upd {H : Hp} {p : Addr} {o : HO} (h : H p = none) : Same H (upd H p o) := fun b x e => by
  rw [upd_ne (ne_of_none e h)]
  exact e
def Bin (x : List Nat) : Prop := ∀ c ∈ x, c = 48 ∨ c = 49
instance (x : List Nat) : Decidable (Bin x) := inferInstanceAs (Decidable (∀ c ∈ x, c = 48 ∨ c = 49))
theorem szl : (sizeLine : Nat) = 16777216 := by decide
theorem bin_goes {x : List Nat} : Bin x ↔ ∀ k, k < x.length → (("01" : Str).cps.contains ((tx x).cps.getD k 0)) = true := by
  have e : ∀ c : Nat, ("01" : Str).cps.contains c = (c == 48 || c == 49) := fun c => by
    show (#[48, 49] : Array Nat).contains c = _
    simp [Array.contains]
  have g : ∀ k (h : k < x.length), (tx x).cps.getD k 0 = x[k] := fun k h => by
    show x.toArray.getD k 0 = x[k]
    simp [Array.getD, h]
  constructor
  · intro h k hk
    rw [e, g k hk]
    rcases h _ (List.getElem_mem hk) with z | z <;> rw [z] <;> rfl
  · intro h c hc
    obtain ⟨k, hk, rfl⟩ := List.getElem_of_mem hc
    have := h k hk
    rw [e, g k hk, Bool.or_eq_true, beq_iff_eq, beq_iff_eq] at this
    exact this
theorem strip_bin (x : List Nat) : (!(((Txt.stripChars (tx x) "01").length : Int) != 0)) = decide (Bin x) := by
  have hl := tx_len x
  have e : (Txt.stripChars (tx x) "01").length = PySem.stripHi ("01" : Str).cps.contains true (tx x) (PySem.stripLo ("01" : Str).cps.contains true (tx x)) - PySem.stripLo ("01" : Str).cps.contains true (tx x) := by
    unfold Txt.stripChars
    rw [PyProof.Rows.stripBy_eq]
    obtain ⟨a1, _, _⟩ := PyProof.Rows.lo_facts ("01" : Str).cps.contains (tx x)
    obtain ⟨b1, b2, _, _⟩ := PyProof.Rows.hi_facts ("01" : Str).cps.contains (tx x) _ a1
    have hz : (tx x).cps.size = (tx x).length := rfl
    show ((tx x).cps.extract _ _).size = _
    rw [Array.size_extract]
    omega
  obtain ⟨a1, a2, a3⟩ := PyProof.Rows.lo_facts ("01" : Str).cps.contains (tx x)
  obtain ⟨b1, b2, b3, b4⟩ := PyProof.Rows.hi_facts ("01" : Str).cps.contains (tx x) _ a1
  by_cases hb : Bin x
  · rw [decide_eq_true hb]
    have h0 : PySem.stripLo ("01" : Str).cps.contains true (tx x) = (tx x).length := by
      rcases a3 with h | h
      · exact h
      · by_cases hlt : PySem.stripLo ("01" : Str).cps.contains true (tx x) < x.length
        · rw [bin_goes.mp hb _ hlt] at h
          cases h
        · omega
    have : (Txt.stripChars (tx x) "01").length = 0 := by omega
    rw [this]
    rfl
  · rw [decide_eq_false hb]
    have h1 : PySem.stripLo ("01" : Str).cps.contains true (tx x) < x.length := by
      by_cases hlt : PySem.stripLo ("01" : Str).cps.contains true (tx x) < x.length
      · exact hlt
      · exact absurd (bin_goes.mpr fun k hk => a2 k (by omega)) hb
    have h2 : PySem.stripLo ("01" : Str).cps.contains true (tx x) < PySem.stripHi ("01" : Str).cps.contains true (tx x) (PySem.stripLo ("01" : Str).cps.contains true (tx x)) := by
      by_cases hlt : PySem.stripLo ("01" : Str).cps.contains true (tx x) < PySem.stripHi ("01" : Str).cps.contains true (tx x) (PySem.stripLo ("01" : Str).cps.contains true (tx x))
      · exact hlt
      · refine absurd (bin_goes.mpr fun k hk => ?_) hb
        by_cases hk2 : k < PySem.stripLo ("01" : Str).cps.contains true (tx x)
        · exact a2 k hk2
        · exact b3 k (by omega) (by omega)
    have : ¬ (Txt.stripChars (tx x) "01").length = 0 := by omega
    have h3 : (((Txt.stripChars (tx x) "01").length : Int) != 0) = true := by
      rw [bne_iff_ne]
      omega
    rw [h3]
    rfl
def SignsIs (H : Hp) (v : V) (b : Bool) : Prop := (∃ x, v = .str (tx x) ∧ x.length ≤ 100000 ∧ b = decide (Bin x)) ∨ (b = false ∧ (v = .non ∨ (∃ i, v = .int i) ∨ (∃ a xs, v = .ref a ∧ H a = some (.lst xs)) ∨ (∃ c, v = .bl c) ∨ ∃ a xs, v = .ref a ∧ H a = some (.tup xs)))
def WordAt (H : Hp) (a : Addr) (x y : List Nat) : Prop := H a = some (.tup [.str (tx x), .str (tx y)]) ∧ Bin x ∧ Bin y ∧ x.length ≤ 20000 ∧ 1 ≤ y.length ∧ y.length ≤ 20000
def WordIs (H : Hp) (v : V) (b : Bool) : Prop :=
  (∃ a x y, v = .ref a ∧ H a = some (.tup [.str (tx x), .str (tx y)]) ∧ x.length ≤ 100000 ∧ y.length ≤ 100000 ∧ b = decide (Bin x ∧ Bin y ∧ x.length ≤ 20000 ∧ 1 ≤ y.length ∧ y.length ≤ 20000)) ∨
  (b = false ∧ ((∃ a u z bu bz, v = .ref a ∧ H a = some (.tup [u, z]) ∧ SignsIs H u bu ∧ SignsIs H z bz ∧ (bu = false ∨ bz = false)) ∨
    (∃ a xs, v = .ref a ∧ H a = some (.tup xs) ∧ xs.length ≠ 2 ∧ xs.length ≤ 100) ∨ v = .non ∨ (∃ i, v = .int i) ∨ (∃ c, v = .bl c) ∨ (∃ x, v = .str x) ∨ ∃ a xs, v = .ref a ∧ H a = some (.lst xs)))
section
variable {P : Program} {w : World} {K : PySem.W.Frag} {mg : Str → Option Value} {base : Heap}
def sp_is_signs (_ : PySem.W.Frag) : Sp := fun vs H Q _ => ∃ v b, vs = [v] ∧ SignsIs H v b ∧ Q (.bl b) H
theorem ok_is_signs {f : Addr} {fd : FuncData} (F : Fun K "is_signs" "is_signs" s_is_signs f fd) (m_isinstance : mg "isinstance" = none) (m_str : mg "str" = none) : FnOk P w K mg base CX0 1 f fd ["thing"] (sp_is_signs K) := by
  refine F.ok sc_is_signs (fun vs H Q E h => ?_) (fun cdv A outer s H vs Q E hr h => ?_)
  · obtain ⟨v, b, rfl, _⟩ := h
    rfl
  · obtain ⟨v, b, rfl, hv, q⟩ := h
    refine ⟨_, (pss_one (ps_ret (pe_and (pe_callB call_isi (by rfl) m_isinstance (by decide +kernel) (pa_cons (pv 0) (pa_cons (pe_bltn (v := .ty "str") (by rfl) m_str (by decide +kernel) rfl) pa_nil))) (pe_one (pe_notT (pe_bm PySem.F.plainAttrs_str PySem.F.slot_str_strip PySem.F.type_str_strip mt_stripChars (pv 0) (pa_cons pe_str pa_nil))))))), ?_⟩
    rcases hv with ⟨x, rfl, hx, rfl⟩ | ⟨rfl, rfl | ⟨i, rfl⟩ | ⟨a, xs, rfl, ha⟩ | ⟨c, rfl⟩ | ⟨a, xs, rfl, ha⟩⟩
    · have hxl := tx_len x
      have hz := szl
      have hs := PyProof.Rows.len_stripChars (tx x) "01"
      refine ⟨_, rfl, _, .ty "str", .type "str", .type "str", true, rfl, .ty "str", .base (.str _), kit_ty (by decide +kernel), true, rfl, iteT ?_⟩
      refine ⟨_, rfl, rfl, tx x, "01", rfl, rfl, by omega, _, ⟨by omega, rfl⟩, ?_⟩
      rw [strip_bin]
      exact q
    · exact ⟨_, rfl, _, .ty "str", .type "NoneType", .type "str", false, rfl, .ty "str", .base .non, kit_ty (by decide +kernel), false, rfl, iteF q⟩
    · exact ⟨_, rfl, _, .ty "str", .type "int", .type "str", false, rfl, .ty "str", .base (.int _), kit_ty (by decide +kernel), false, rfl, iteF q⟩
    · exact ⟨_, rfl, _, .ty "str", .type "list", .type "str", false, rfl, .ty "str", .base (.lst ha), kit_ty (by decide +kernel), false, rfl, iteF q⟩
    · exact ⟨_, rfl, _, .ty "str", .type "bool", .type "str", false, rfl, .ty "str", .base (.bl _), kit_ty (by decide +kernel), false, rfl, iteF q⟩
    · exact ⟨_, rfl, _, .ty "str", .type "tuple", .type "str", false, rfl, .ty "str", .base (.tup ha), kit_ty (by decide +kernel), false, rfl, iteF q⟩
def sp_is_word (_ : PySem.W.Frag) : Sp := fun vs H Q _ => ∃ v b, vs = [v] ∧ WordIs H v b ∧ Q (.bl b) H
theorem ok_is_word {f : Addr} {fd : FuncData} (F : Fun K "is_word" "is_word" s_is_word f fd) (m_isinstance : mg "isinstance" = none) (m_len : mg "len" = none) (m_tuple : mg "tuple" = none) (g_MOST_SIGNS : ∃ t, mg "MOST_SIGNS" = some (.int 20000 t)) {f_is_signs : Addr} {fd_is_signs : FuncData} (c_is_signs : Cal P w K mg base CX0 1 f_is_signs fd_is_signs "is_signs" ["thing"] (sp_is_signs K)) : FnOk P w K mg base CX0 2 f fd ["thing"] (sp_is_word K) := by
  refine F.ok sc_is_word (fun vs H Q E h => ?_) (fun cdv A outer s H vs Q E hr h => ?_)
  · obtain ⟨v, b, rfl, _⟩ := h
    rfl
  · obtain ⟨v, b, rfl, hv, q⟩ := h
    refine ⟨_, (pss_cons (ps_if (PW.pt (pw_or (pt_not (pt_val (pe_callB call_isi (by rfl) m_isinstance (by decide +kernel) (pa_cons (pv 0) (pa_cons (pe_bltn (v := .ty "tuple") (by rfl) m_tuple (by decide +kernel) rfl) pa_nil))))) (pw_or1 (pt_cmpR op_ne (pe_callB call_len_seq (by rfl) m_len PySem.boot_len (pa_cons (pv 0) pa_nil)) pe_int (nomark _)))))
        (pss_one (ps_ret pe_bl))
        pss_nil)
      (pss_cons (ps_asg (pv 0) (pg_tup (by rfl) (pgs_cons (pg_name (i := 1) sc_is_word.nd rfl (Or.inl rfl)) (pgs_cons (pg_name (i := 2) sc_is_word.nd rfl (Or.inl rfl)) pgs_nil))))
      (pss_cons (ps_if (PW.pt (pw_or (pt_not (pt_val (pe_call c_is_signs.G (hr.mono (by decide)) (by rfl) c_is_signs.g c_is_signs.kp c_is_signs.b .nil pass0 (pa_cons (pv 1) pa_nil)))) (pw_or1 (pt_not (pt_val (pe_call c_is_signs.G (hr.mono (by decide)) (by rfl) c_is_signs.g c_is_signs.kp c_is_signs.b .nil pass0 (pa_cons (pv 2) pa_nil)))))))
        (pss_one (ps_ret pe_bl))
        pss_nil)
      (pss_one (ps_ret (pe_and (pe_cmpR op_le (pe_callB call_len_str (by rfl) m_len PySem.boot_len (pa_cons (pv 1) pa_nil)) (pe_glob (v := .int 20000) (by rfl) g_MOST_SIGNS.choose_spec ⟨_, rfl⟩) (nomark _)) (pe_one (pe_chain op_le op_le pe_int (pe_callB call_len_str (by rfl) m_len PySem.boot_len (pa_cons (pv 2) pa_nil)) (pe_glob (v := .int 20000) (by rfl) g_MOST_SIGNS.choose_spec ⟨_, rfl⟩))))))))), ?_⟩
    have hz := szl
    have c3 : (∃ a u z bu bz, v = .ref a ∧ H a = some (.tup [u, z]) ∧ SignsIs H u bu ∧ SignsIs H z bz ∧ ((bu = false ∨ bz = false) → b = false) ∧
        (bu = true → bz = true → ∃ x y, u = .str (tx x) ∧ z = .str (tx y) ∧ x.length ≤ 100000 ∧ y.length ≤ 100000 ∧ b = decide (x.length ≤ 20000 ∧ 1 ≤ y.length ∧ y.length ≤ 20000))) ∨
        (∃ a xs, v = .ref a ∧ H a = some (.tup xs) ∧ xs.length ≠ 2 ∧ b = false) ∨ (∃ t, TyX K H v (.type t) ∧ kitB t "tuple" = some false ∧ b = false) := by
      rcases hv with ⟨a, x, y, rfl, ha, hx, hy, rfl⟩ | ⟨rfl, ⟨a, u, z, bu, bz, rfl, ha, hu, hz2, hb⟩ | ⟨a, xs, rfl, ha, hn, hl⟩ | rfl | ⟨i, rfl⟩ | ⟨c, rfl⟩ | ⟨x, rfl⟩ | ⟨a, xs, rfl, ha⟩⟩
      · refine .inl ⟨a, _, _, decide (Bin x), decide (Bin y), rfl, ha, .inl ⟨x, rfl, hx, rfl⟩, .inl ⟨y, rfl, hy, rfl⟩, fun h => ?_, fun h1 h2 => ⟨x, y, rfl, rfl, hx, hy, ?_⟩⟩
        · refine decide_eq_false fun hh => ?_
          rcases h with h | h
          · exact absurd hh.1 (of_decide_eq_false h)
          · exact absurd hh.2.1 (of_decide_eq_false h)
        · exact decide_eq_decide.mpr ⟨fun h => h.2.2, fun h => ⟨of_decide_eq_true h1, of_decide_eq_true h2, h⟩⟩
      · exact .inl ⟨a, u, z, bu, bz, rfl, ha, hu, hz2, fun _ => rfl, fun h1 h2 => by
          rcases hb with hb | hb
          · rw [hb] at h1; cases h1
          · rw [hb] at h2; cases h2⟩
      · exact .inr (.inl ⟨a, xs, rfl, ha, hn, rfl⟩)
      · exact .inr (.inr ⟨_, .base .non, by decide +kernel, rfl⟩)
      · exact .inr (.inr ⟨_, .base (.int _), by decide +kernel, rfl⟩)
      · exact .inr (.inr ⟨_, .base (.bl _), by decide +kernel, rfl⟩)
      · exact .inr (.inr ⟨_, .base (.str _), by decide +kernel, rfl⟩)
      · exact .inr (.inr ⟨_, .base (.lst ha), by decide +kernel, rfl⟩)
    rcases c3 with ⟨a, u, z, bu, bz, rfl, ha, hu, hz', hno, hyes⟩ | ⟨a, xs, rfl, ha, hn, rfl⟩ | ⟨t, ht, hk, rfl⟩
    · refine ⟨_, rfl, _, .ty "tuple", .type "tuple", .type "tuple", true, rfl, .ty "tuple", .base (.tup ha), kit_ty (by decide +kernel), true, rfl, ?_⟩
      refine iteF ?_
      refine ⟨_, rfl, a, [u, z], rfl, .inr (SqT.of ha), rfl, _, rfl, ?_⟩
      refine iteF ?_
      refine ⟨_, rfl, a, [u, z], rfl, SqT.of ha, rfl, u, [z], rfl, z, [], rfl, rfl, ?_⟩
      refine ⟨_, rfl, _, bu, rfl, hu, bu, rfl, ?_⟩
      cases bu with
      | false =>
        refine iteT (iteT ?_)
        rw [hno (.inl rfl)] at q
        exact q
      | true =>
        refine iteF ?_
        refine ⟨_, rfl, _, bz, rfl, hz', bz, rfl, ?_⟩
        cases bz with
        | false =>
          refine iteT ?_
          rw [hno (.inr rfl)] at q
          exact q
        | true =>
          refine iteF ?_
          obtain ⟨x, y, rfl, rfl, hx, hy, rfl⟩ := hyes rfl rfl
          have hxl := tx_len x
          have hyl := tx_len y
          refine ⟨_, rfl, _, rfl, by omega, _, _, rfl, rfl, decide (x.length ≤ 20000), ?_, ?_⟩
          · show V.bl (decide (((tx x).length : Int) ≤ 20000)) = V.bl (decide (x.length ≤ 20000))
            rw [hxl]
            congr 1
            exact decide_eq_decide.mpr (by omega)
          · by_cases h1 : x.length ≤ 20000
            · rw [decide_eq_true h1]
              refine iteT ⟨_, rfl, _, rfl, by omega, _, _, rfl, rfl, decide (1 ≤ y.length), ?_, ?_⟩
              · show V.bl (decide ((1 : Int) ≤ ((tx y).length : Int))) = V.bl (decide (1 ≤ y.length))
                rw [hyl]
                congr 1
                exact decide_eq_decide.mpr (by omega)
              · by_cases h2 : 1 ≤ y.length
                · rw [decide_eq_true h2]
                  refine iteT ⟨_, _, rfl, rfl, ?_⟩
                  show Q (V.bl (decide (((tx y).length : Int) ≤ 20000))) H
                  rw [hyl]
                  rw [show decide ((y.length : Int) ≤ 20000) = decide (x.length ≤ 20000 ∧ 1 ≤ y.length ∧ y.length ≤ 20000) from decide_eq_decide.mpr (by omega)]
                  exact q
                · rw [decide_eq_false h2]
                  rw [decide_eq_false (by omega)] at q
                  exact iteF q
            · rw [decide_eq_false h1]
              rw [decide_eq_false (by omega)] at q
              exact iteF q
    · refine ⟨_, rfl, _, .ty "tuple", .type "tuple", .type "tuple", true, rfl, .ty "tuple", .base (.tup ha), kit_ty (by decide +kernel), true, rfl, ?_⟩
      refine iteF ?_
      refine ⟨_, rfl, a, xs, rfl, .inr (SqT.of ha), rfl, _, rfl, ?_⟩
      have hd : (!decide (V.int (xs.length : Int) = V.int 2)) = true := by
        rw [decide_eq_false]
        · rfl
        · intro z
          have := V.int.inj z
          omega
      rw [hd]
      exact iteT q
    · refine ⟨_, rfl, _, .ty "tuple", .type t, .type "tuple", false, rfl, .ty "tuple", ht, kit_ty hk, false, rfl, ?_⟩
      exact iteT (iteT q)
end
end WK
namespace WK
open PySem PySem.Spec PyProof.Rows L2
/-! ### the first place of a text in another -/
def Hit (s sub : Str) (hi i : Nat) : Prop := i + sub.length ≤ hi ∧ Builtin.Str.subAt s sub i = true
theorem occ_stop (s sub : Str) (hi : Nat) : ∀ (l : List Nat) (st : Array Nat × Nat), 1 ≤ st.fst.size → (forIn l st (PySem.StrLaws.occBody s sub hi 1)).run.fst = st.fst
  | [], st, _ => by simp
  | a :: l, st, h => by
    rw [List.forIn_cons]
    unfold PySem.StrLaws.occBody
    rw [if_neg (by omega)]
    exact occ_stop s sub hi l st h
theorem occ_hit (s sub : Str) (hi d : Nat) (l2 : List Nat) (hd : Hit s sub hi d) : ∀ (l1 : List Nat) (free : Nat), (∀ i ∈ l1, ¬ Hit s sub hi i) → (∀ i ∈ l1, free ≤ i) → free ≤ d →
    (forIn (l1 ++ d :: l2) ((#[] : Array Nat), free) (PySem.StrLaws.occBody s sub hi 1)).run.fst = #[d]
  | [], free, _, _, hf => by
    rw [List.nil_append, List.forIn_cons]
    unfold PySem.StrLaws.occBody
    rw [if_pos ⟨⟨⟨by simp, hf⟩, hd.1⟩, hd.2⟩]
    exact occ_stop s sub hi l2 _ (by simp)
  | a :: l1, free, hn, hl, hf => by
    rw [List.cons_append, List.forIn_cons]
    unfold PySem.StrLaws.occBody
    have na := hn a (List.mem_cons_self ..)
    rw [if_neg fun z => na ⟨z.1.2, z.2⟩]
    exact occ_hit s sub hi d l2 hd l1 free (fun i h => hn i (List.mem_cons_of_mem _ h)) (fun i h => hl i (List.mem_cons_of_mem _ h)) hf
theorem occ_first {s sub : Str} {lo hi d : Nat} (h1 : lo ≤ d) (h2 : d ≤ hi) (hd : Hit s sub hi d) (hn : ∀ i, lo ≤ i → i < d → ¬ Hit s sub hi i) : Builtin.Str.occurrences s sub lo hi 1 = [d] := by
  rw [PySem.StrLaws.occ_eq]
  have e : List.range' lo (hi + 1 - lo) = List.range' lo (d - lo) ++ d :: List.range' (d + 1) (hi - d) := by
    rw [show hi + 1 - lo = (d - lo) + ((hi - d) + 1) by omega, ← List.range'_append_1, List.range'_succ, show lo + (d - lo) = d by omega]
  rw [e, occ_hit s sub hi d _ hd _ lo (fun i hi' => ?_) (fun i hi' => ?_) h1]
  · rw [List.mem_range'_1] at hi'
    exact hn i hi'.1 (by omega)
  · rw [List.mem_range'_1] at hi'
    exact hi'.1
theorem hit_tx {a b : List Nat} {hi i : Nat} (h : hi = a.length) : Hit (tx a) (tx b) hi i ↔ i + b.length ≤ a.length ∧ (a.drop i).take b.length = b := by
  unfold Hit
  rw [tx_len, PySem.StrLaws.subAt_eq, tx_len, h, tx_toList, tx_toList]
  exact ⟨fun z => ⟨z.1, by simpa using z.2⟩, fun z => ⟨z.1, by simpa using z.2⟩⟩
theorem nat_div1 (a b : Nat) : (a : Int) / b + 1 = ((a / b + 1 : Nat) : Int) := rfl
abbrev s_check_word : Stmt := topS 38
theorem sc_check_word : FnScope ["word"] ["word"] (defScope s_check_word) := ⟨rfl, rfl, rfl, by decide +kernel, rfl, by decide +kernel, by decide +kernel⟩
section
variable {P : Program} {w : World} {K : PySem.W.Frag} {mg : Str → Option Value} {base : Heap}
end
end WK
namespace WK
open PySem PySem.Spec PyProof.Rows L2
theorem find_again {a : List Nat} (ha : 0 < a.length) : ∃ d, Sho a d ∧ Txt.find3 (tx (a ++ a)) (tx a) 1 = (d : Int) := by
  obtain ⟨d, h1, h2, h3, h4⟩ := sho_ex ha
  refine ⟨d, sho_of h1 h2 h3 h4, ?_⟩
  unfold Txt.find3
  have hl : (tx (a ++ a)).length = (a ++ a).length := tx_len _
  have hl2 : (a ++ a).length = a.length + a.length := List.length_append
  have ef : PySem.fromIndex (tx (a ++ a)).length 1 = 1 := rfl
  rw [ef, occ_first (d := d) h1 (by omega) ((hit_tx hl).mpr ⟨by omega, h3⟩) fun i g1 g2 z => h4 i g1 g2 ((hit_tx hl).mp z).2]
abbrev s_shortest_again : Stmt := topS 40
theorem sc_shortest_again : FnScope ["again"] ["again"] (defScope s_shortest_again) := ⟨rfl, rfl, rfl, by decide +kernel, rfl, by decide +kernel, by decide +kernel⟩
abbrev s_taken_in : Stmt := topS 41
theorem sc_taken_in : FnScope ["head", "again", "row", "low", "high", "middle"] ["head", "again"] (defScope s_taken_in) := ⟨rfl, rfl, rfl, by decide +kernel, rfl, by decide +kernel, by decide +kernel⟩
section
variable {P : Program} {w : World} {K : PySem.W.Frag} {mg : Str → Option Value} {base : Heap}
def sp_shortest_again (_ : PySem.W.Frag) : Sp := fun vs H Q _ => ∃ a, vs = [.str (tx a)] ∧ 0 < a.length ∧ a.length ≤ 20000 ∧ ∀ d, Sho a d → Q (.str (tx (a.take d))) H
theorem ok_shortest_again {f : Addr} {fd : FuncData} (F : Fun K "_shortest_again" "_shortest_again" s_shortest_again f fd) : FnOk P w K mg base CX0 1 f fd ["again"] (sp_shortest_again K) := by
  refine F.ok sc_shortest_again (fun vs H Q E h => ?_) (fun cdv A outer s H vs Q E hr h => ?_)
  · obtain ⟨v, rfl, _⟩ := h
    rfl
  · obtain ⟨a, rfl, h1, h2, q⟩ := h
    have hz := szl
    have hl := tx_len a
    refine ⟨_, (pss_one (ps_ret (pe_slice sl_str (pv 0) po_none (po_some (pe_bm PySem.F.plainAttrs_str PySem.F.slot_str_find PySem.F.type_str_find mt_find3 (pe_op op_add_str (pv 0) (pv 0)) (pa_cons (pv 0) (pa_cons pe_int pa_nil))))))), ?_⟩
    obtain ⟨d, S, e⟩ := find_again h1
    refine ⟨_, rfl, ?_⟩
    refine ⟨_, rfl, _, rfl, tx a, tx a, rfl, rfl, by omega, ?_⟩
    refine ⟨rfl, _, rfl, tx a ++ tx a, tx a, 1, rfl, rfl, _, rfl, tx a, rfl, by omega, ?_⟩
    rw [tx_add, e, cut_0n]
    exact q d S
def sp_taken_in (_ : PySem.W.Frag) : Sp := fun vs H Q _ => ∃ h a, vs = [.str (tx h), .str (tx a)] ∧ 0 < a.length ∧ a.length ≤ 20000 ∧ h.length ≤ 20000 ∧ ∀ m, Tak h a m → Q (.int (m : Nat)) H
theorem ok_taken_in {f : Addr} {fd : FuncData} (F : Fun K "_taken_in" "_taken_in" s_taken_in f fd) (m_len : mg "len" = none) : FnOk P w K mg base CX0 1 f fd ["head", "again"] (sp_taken_in K) := by
  refine F.ok sc_taken_in (fun vs H Q E h => ?_) (fun cdv A outer s H vs Q E hr h => ?_)
  · obtain ⟨_, _, rfl, _⟩ := h
    rfl
  · obtain ⟨h, a, rfl, h1, h2, h3, q⟩ := h
    have hz := szl
    have hl := tx_len a
    have hlh := tx_len h
    refine ⟨_, (pss_cons (ps_set (i := 2) sc_taken_in.nd rfl (Or.inl rfl) (pe_op op_mul_str (pv 1) (pe_op op_add (pe_op op_fdiv (pe_callB call_len_str (by rfl) m_len PySem.boot_len (pa_cons (pv 0) pa_nil)) (pe_callB call_len_str (by rfl) m_len PySem.boot_len (pa_cons (pv 1) pa_nil))) pe_int)))
      (pss_cons (ps_set (i := 3) sc_taken_in.nd rfl (Or.inl rfl) pe_int)
      (pss_cons (ps_set (i := 4) sc_taken_in.nd rfl (Or.inl rfl) (pe_callB call_len_str (by rfl) m_len PySem.boot_len (pa_cons (pv 0) pa_nil)))
      (pss_cons (ps_while PassesOwn.never (pt_cmpR op_lt (pv 3) (pv 4) (nomark _))
        (pss_cons (ps_set (i := 5) sc_taken_in.nd rfl (Or.inl rfl) (pe_op op_fdiv (pe_op op_add (pe_op op_add (pv 3) (pv 4)) pe_int) pe_int))
        (pss_one (ps_if (pt_cmpR op_eq (pe_slice sl_str (pv 0) (po_some (pe_op op_sub (pe_callB call_len_str (by rfl) m_len PySem.boot_len (pa_cons (pv 0) pa_nil)) (pv 5))) po_none) (pe_slice sl_str (pv 2) (po_some (pe_op op_sub (pe_callB call_len_str (by rfl) m_len PySem.boot_len (pa_cons (pv 2) pa_nil)) (pv 5))) po_none) (nomark _))
          (pss_one (ps_set (i := 3) sc_taken_in.nd rfl (Or.inl rfl) (pv 5)))
          (pss_one (ps_set (i := 4) sc_taken_in.nd rfl (Or.inl rfl) (pe_op op_sub (pv 5) pe_int)))))))
      (pss_one (ps_ret (pv 3))))))), ?_⟩
    have hdm := Nat.div_add_mod h.length a.length
    have hml := Nat.mod_lt h.length h1
    have hK : (h.length / a.length + 1) * a.length = a.length * (h.length / a.length) + a.length := by rw [Nat.succ_mul, Nat.mul_comm]
    have hKl := rep_len a (h.length / a.length + 1)
    have hKb : h.length / a.length ≤ h.length := Nat.div_le_self _ _
    refine ⟨_, rfl, _, rfl, tx h, rfl, by omega, _, rfl, tx a, rfl, by omega, _, _, rfl, rfl, ⟨?_, ?_⟩, _, _, rfl, rfl, ?_⟩
    · show (0 : Int) < ((tx a).length : Int)
      omega
    · show ((tx a).length : Int) < 1073741824
      omega
    refine ⟨a, h.length / a.length + 1, rfl, ?_, ?_, by omega, ?_⟩
    · show V.int (((tx h).length : Int) / ((tx a).length : Int) + 1) = _
      rw [hlh, hl, nat_div1]
    · rw [Nat.mul_comm, hK]
      omega
    show _
    refine ⟨_, rfl, tx h, rfl, by omega, ?_⟩
    rw [hlh]
    refine while_by (fun σ H' => H' = H ∧ ∃ (lo hi : Nat) (y5 : Option V), σ = [some (.str (tx h)), some (.str (tx a)), some (.str (tx (rep a (h.length / a.length + 1)))), some (.int lo), some (.int hi), y5] ∧ lo ≤ hi ∧ hi ≤ h.length ∧
        Suf h a (h.length / a.length + 1) lo ∧ ∀ i, hi < i → i ≤ h.length → ¬ Suf h a (h.length / a.length + 1) i)
      (fun σ _ => match σ with
        | [_, _, _, some (.int lo), some (.int hi), _] => (hi - lo).toNat
        | _ => 0) ⟨rfl, 0, h.length, none, rfl, Nat.zero_le _, Nat.le_refl _, suf_zero, fun i g1 g2 => by omega⟩ (fun σ H' hP => ?_) (fun σ H' Q1 Q2 hq z => ?_)
    · obtain ⟨rfl, lo, hi, y5, rfl, g1, g2, g3, g4⟩ := hP
      refine ⟨_, rfl, _, rfl, lo, hi, rfl, rfl, _, rfl, ?_⟩
      by_cases hlt : lo < hi
      · rw [decide_eq_true (show (lo : Int) < hi by omega)]
        refine iteT ?_
        refine ⟨_, rfl, _, rfl, lo, hi, rfl, rfl, _, _, rfl, rfl, _, _, rfl, rfl, ⟨by decide, by decide⟩, ?_⟩
        obtain ⟨mid, em, hm1, hm2⟩ : ∃ mid : Nat, ((lo : Int) + (hi : Int) + 1) / 2 = (mid : Int) ∧ lo < mid ∧ mid ≤ hi := ⟨(lo + hi + 1) / 2, by omega, by omega, by omega⟩
        show _
        have hrl : (tx (rep a (h.length / a.length + 1))).length = (h.length / a.length + 1) * a.length := by rw [tx_len, hKl]
        refine ⟨_, rfl, _, rfl, tx h, rfl, by omega, _, rfl, _, _, rfl, rfl, _, rfl, tx h, rfl, by omega, _, rfl, _, rfl, tx _, rfl, by omega, _, rfl, _, _, rfl, rfl, _, rfl, tx _, rfl, by omega, rfl, _, rfl, ?_⟩
        show if decide (V.str (cutS (tx h) (some (((tx h).length : Int) - (((lo : Int) + (hi : Int) + 1) / 2))) none) = V.str (cutS (tx (rep a (h.length / a.length + 1))) (some (((tx (rep a (h.length / a.length + 1))).length : Int) - (((lo : Int) + (hi : Int) + 1) / 2))) none)) = true then _ else _
        rw [em, hrl, hlh, show ((h.length : Int) - (mid : Int)) = ((h.length - mid : Nat) : Int) by omega, show ((((h.length / a.length + 1) * a.length : Nat) : Int) - (mid : Int)) = (((h.length / a.length + 1) * a.length - mid : Nat) : Int) by omega, cut_n0, cut_n0, tx_eq]
        by_cases hs : h.drop (h.length - mid) = (rep a (h.length / a.length + 1)).drop ((h.length / a.length + 1) * a.length - mid)
        · rw [decide_eq_true hs]
          refine iteT ⟨_, rfl, ⟨rfl, mid, hi, some (.int (((lo : Int) + (hi : Int) + 1) / 2)), ?_, hm2, g2, hs, g4⟩, ?_⟩
          · show [_, _, _, some (V.int (((lo : Int) + (hi : Int) + 1) / 2)), _, some (V.int (((lo : Int) + (hi : Int) + 1) / 2))] = _
            rw [em]
          · show ((hi : Int) - (((lo : Int) + (hi : Int) + 1) / 2)).toNat < ((hi : Int) - (lo : Int)).toNat
            omega
        · rw [decide_eq_false hs]
          refine iteF ⟨_, rfl, _, _, rfl, rfl, ⟨rfl, lo, mid - 1, some (.int (((lo : Int) + (hi : Int) + 1) / 2)), ?_, by omega, by omega, g3, fun i k1 k2 z => hs (suf_le h1 (by omega) k2 z (by omega))⟩, ?_⟩
          · show [_, _, _, _, some (V.int ((((lo : Int) + (hi : Int) + 1) / 2) - 1)), some (V.int (((lo : Int) + (hi : Int) + 1) / 2))] = _
            rw [em, show ((mid : Int) - 1) = ((mid - 1 : Nat) : Int) by omega]
          · show ((((lo : Int) + (hi : Int) + 1) / 2 - 1) - (lo : Int)).toNat < ((hi : Int) - (lo : Int)).toNat
            omega
      · rw [decide_eq_false (show ¬ (lo : Int) < hi by omega)]
        refine iteF ⟨_, rfl, q lo (tak_of h1 (by omega) (by omega) g3 fun i k1 k2 => g4 i (by omega) k2)⟩
    · obtain ⟨v1, e1, v2, e2, i, j, e3, e4, k, e5, z⟩ := z
      exact ⟨v1, e1, v2, e2, i, j, e3, e4, k, e5, hq _ _ z⟩
end
end WK
namespace WK
open PySem PySem.Spec PyProof.Rows L2
abbrev s_least : Stmt := topS 42
theorem sc_least : FnScope ["head", "again", "taken", "cut"] ["head", "again"] (defScope s_least) := ⟨rfl, rfl, rfl, by decide +kernel, rfl, by decide +kernel, by decide +kernel⟩
abbrev s_least_word : Stmt := topS 43
theorem sc_least_word : FnScope ["word"] ["word"] (defScope s_least_word) := ⟨rfl, rfl, rfl, by decide +kernel, rfl, by decide +kernel, by decide +kernel⟩
section
variable {P : Program} {w : World} {K : PySem.W.Frag} {mg : Str → Option Value} {base : Heap}
def sp_least (_ : PySem.W.Frag) : Sp := fun vs H Q _ => ∃ h a, vs = [.str (tx h), .str (tx a)] ∧ 0 < a.length ∧ a.length ≤ 20000 ∧ h.length ≤ 20000 ∧
  ∀ p x y, H p = none → Lst (row h a) x y → x.length ≤ h.length → y.length ≤ a.length → Q (.ref p) (upd H p (.tup [.str (tx x), .str (tx y)]))
theorem ok_least {f : Addr} {fd : FuncData} (F : Fun K "_least" "_least" s_least f fd) (m_len : mg "len" = none) {f_shortest_again : Addr} {fd_shortest_again : FuncData} (c_shortest_again : Cal P w K mg base CX0 1 f_shortest_again fd_shortest_again "_shortest_again" ["again"] (sp_shortest_again K)) {f_taken_in : Addr} {fd_taken_in : FuncData} (c_taken_in : Cal P w K mg base CX0 1 f_taken_in fd_taken_in "_taken_in" ["head", "again"] (sp_taken_in K)) : FnOk P w K mg base CX0 2 f fd ["head", "again"] (sp_least K) := by
  refine F.ok sc_least (fun vs H Q E h => ?_) (fun cdv A outer s H vs Q E hr h => ?_)
  · obtain ⟨_, _, rfl, _⟩ := h
    rfl
  · obtain ⟨h, a, rfl, h1, h2, h3, q⟩ := h
    have hz := szl
    have hlh := tx_len h
    refine ⟨_, (pss_cons (ps_set (i := 1) sc_least.nd rfl (Or.inl rfl) (pe_call c_shortest_again.G (hr.mono (by decide)) (by rfl) c_shortest_again.g c_shortest_again.kp c_shortest_again.b .nil pass0 (pa_cons (pv 1) pa_nil)))
      (pss_cons (ps_set (i := 2) sc_least.nd rfl (Or.inl rfl) (pe_call c_taken_in.G (hr.mono (by decide)) (by rfl) c_taken_in.g c_taken_in.kp c_taken_in.b .nil pass0 (pa_cons (pv 0) (pa_cons (pv 1) pa_nil))))
      (pss_cons (ps_set (i := 3) sc_least.nd rfl (Or.inl rfl) (pe_op op_sub (pe_callB call_len_str (by rfl) m_len PySem.boot_len (pa_cons (pv 1) pa_nil)) (pe_op op_mod (pv 2) (pe_callB call_len_str (by rfl) m_len PySem.boot_len (pa_cons (pv 1) pa_nil)))))
      (pss_one (ps_ret (pe_tup (pa_cons (pe_slice sl_str (pv 0) po_none (po_some (pe_op op_sub (pe_callB call_len_str (by rfl) m_len PySem.boot_len (pa_cons (pv 0) pa_nil)) (pv 2)))) (pa_cons (pe_op op_add_str (pe_slice sl_str (pv 1) (po_some (pv 3)) po_none) (pe_slice sl_str (pv 1) po_none (po_some (pv 3)))) pa_nil)))))))), ?_⟩
    refine ⟨_, rfl, a, rfl, h1, h2, fun d S => ?_⟩
    have hdl : (a.take d).length = d := by rw [List.length_take]; exact Nat.min_eq_left S.le
    have hS1 := S.one
    have hS2 := S.le
    have hla := tx_len (a.take d)
    refine ⟨_, rfl, _, rfl, h, a.take d, rfl, by omega, by omega, by omega, fun m T => ?_⟩
    have hmd := Nat.mod_lt m hS1
    have hT := T.le
    have L := lst_of (h := h) h1 S T
    refine ⟨_, rfl, tx (a.take d), rfl, by omega, _, rfl, _, rfl, tx (a.take d), rfl, by omega, _, _, rfl, rfl, ?_, _, _, rfl, rfl, ?_⟩
    · show (0 : Int) < ((tx (a.take d)).length : Int)
      omega
    have ecut : (((tx (a.take d)).length : Int) - ((m : Nat) : Int) % ((tx (a.take d)).length : Int)) = ((d - m % d : Nat) : Int) := by
      rw [hla, hdl]
      omega
    have ehd : (((tx h).length : Int) - ((m : Nat) : Int)) = ((h.length - m : Nat) : Int) := by omega
    refine ⟨_, rfl, _, rfl, tx h, rfl, by omega, _, rfl, _, _, rfl, rfl, _, rfl, tx h, rfl, by omega, ?_⟩
    refine ⟨_, rfl, _, rfl, _, rfl, tx (a.take d), rfl, by omega, _, rfl, _, rfl, _, rfl, tx (a.take d), rfl, by omega, _, _, rfl, rfl, ?_, ?_⟩
    · show (cutS (tx (a.take d)) (some (((tx (a.take d)).length : Int) - ((m : Nat) : Int) % ((tx (a.take d)).length : Int))) none).length + (cutS (tx (a.take d)) none (some (((tx (a.take d)).length : Int) - ((m : Nat) : Int) % ((tx (a.take d)).length : Int)))).length ≤ sizeLine
      have c1 := cutS_length (tx (a.take d)) (some (((tx (a.take d)).length : Int) - ((m : Nat) : Int) % ((tx (a.take d)).length : Int))) none
      have c2 := cutS_length (tx (a.take d)) none (some (((tx (a.take d)).length : Int) - ((m : Nat) : Int) % ((tx (a.take d)).length : Int)))
      omega
    refine ⟨by show 2 ≤ sizeLine; decide, fun p np => ?_⟩
    show Q (.ref p) (upd H p (.tup [.str (cutS (tx h) none (some (((tx h).length : Int) - ((m : Nat) : Int)))), .str (cutS (tx (a.take d)) (some (((tx (a.take d)).length : Int) - ((m : Nat) : Int) % ((tx (a.take d)).length : Int))) none ++ cutS (tx (a.take d)) none (some (((tx (a.take d)).length : Int) - ((m : Nat) : Int) % ((tx (a.take d)).length : Int))))]))
    rw [ecut, ehd, cut_0n, cut_n0, cut_0n, tx_add]
    refine q p _ _ np L ?_ ?_
    · rw [List.length_take]; omega
    · rw [turn_len (by omega)]; omega
end
end WK
namespace WK
open PySem PySem.Spec PyProof.Rows L2
abbrev s_law_draws : Stmt := topS 56
theorem sc_law_draws : FnScope ["_law_script", "_law_j", "_law_many", "_law_cell", "_law_great", "_law_number", "_law_found", "_law_k", "_law_mixed"] ["_law_script", "_law_j", "_law_many"] (defScope s_law_draws) := ⟨rfl, rfl, rfl, by decide +kernel, rfl, by decide +kernel, by decide +kernel⟩
def nV (n : Nat) : V := .int (n : Int)
theorem mask_eq : (((2 : Int) ^ (60 : Int).toNat) ^ (60 : Int).toNat) ^ (6 : Int).toNat - 1 = 2 ^ 21600 - 1 := by
  rw [← Int.pow_mul, ← Int.pow_mul]
  rfl
section
variable {P : Program} {w : World} {K : PySem.W.Frag} {mg : Str → Option Value} {base : Heap}
def sp_law_draws (K : PySem.W.Frag) : Sp := fun vs H Q _ => ∃ (a : Addr) (ns : List Int) (j many : Nat), vs = [.ref a, nV j, nV many] ∧ SqL K H a (ns.map V.int) ∧ ns.length ≤ 100 ∧ j ≤ 1000 ∧ many ≤ 1000 ∧
  ∀ (p : Addr) (ds : List Nat), H p = none → ds.length = many → (∀ d ∈ ds, d < 1000000000) → Q (.ref p) (upd H p (.lst (ds.map nV)))
theorem ok_law_draws {f : Addr} {fd : FuncData} (F : Fun K "_law_draws" "_law_draws" s_law_draws f fd) (m_len : mg "len" = none) (m_min : mg "min" = none) (m_range : mg "range" = none) : FnOk P w K mg base CX0 1 f fd ["_law_script", "_law_j", "_law_many"] (sp_law_draws K) := by
  refine F.ok sc_law_draws (fun vs H Q E h => ?_) (fun cdv A outer s H vs Q E hr h => ?_)
  · obtain ⟨_, _, _, _, rfl, _⟩ := h
    rfl
  · obtain ⟨a, ns, j, many, rfl, hS, h1, h2, h3, q⟩ := h
    have hz := szl
    refine ⟨_, (pss_cons (ps_set (i := 3) sc_law_draws.nd rfl (Or.inl rfl) pe_int)
      (C8.pss_cut (ps_if (pt_cmpR op_gt (pe_callB call_len_seq (by rfl) m_len PySem.boot_len (pa_cons (pv 0) pa_nil)) pe_int (nomark _))
        (pss_one (ps_set (i := 3) sc_law_draws.nd rfl (Or.inl rfl) (pe_ix ix_list (pv 0) (pe_op op_mod (pv 1) (pe_callB (call_min2 rfl) (by rfl) m_min (by decide +kernel) (pa_cons pe_int (pa_cons (pe_callB call_len_seq (by rfl) m_len PySem.boot_len (pa_cons (pv 0) pa_nil)) pa_nil)))) (fun _ _ => rfl))))
        pss_nil)
      (C8.pss_cut (ps_set (i := 4) sc_law_draws.nd rfl (Or.inl rfl) (pe_and (pe_cmpR op_lt (pv 1) (pe_callB call_len_seq (by rfl) m_len PySem.boot_len (pa_cons (pv 0) pa_nil)) (nomark _)) (pe_one (pe_cmpR op_ge (pv 3) (pe_op op_powB pe_int pe_int) (nomark _)))))
      (C8.pss_cut (ps_if (pt_val (pv 4))
        (pss_one (ps_set (i := 3) sc_law_draws.nd rfl (Or.inl rfl) (pe_op op_andM (pv 3) (pe_op op_sub (pe_op op_powB (pe_op op_powB (pe_op op_powB pe_int pe_int) pe_int) pe_int) pe_int))))
        pss_nil)
      (C8.pss_cut (ps_set (i := 5) sc_law_draws.nd rfl (Or.inl rfl) (pe_op op_add (pe_op op_mod (pv 3) pe_int) (pe_op op_mul pe_int (pv 1))))
      (pss_cons (ps_set (i := 6) sc_law_draws.nd rfl (Or.inl rfl) (pe_lst pa_nil))
      (C8.pss_cut (ps_for PassesOwn.never rfl (pi_range1 (by rfl) m_range (pa_cons (pv 2) pa_nil)) (pg_name (i := 7) sc_law_draws.nd rfl (Or.inl rfl))
        (pss_one (ps_if (pt_val (pv 4))
          (pss_cons (ps_expr (pe_bm PySem.F.plainAttrs_list PySem.F.slot_list_append PySem.F.type_list_append mt_append (pv 6) (pa_cons (pe_op op_mod (pv 3) (pe_op op_powB pe_int pe_int)) pa_nil)))
          (pss_one (ps_set (i := 3) sc_law_draws.nd rfl (Or.inl rfl) (pe_op op_fdiv (pv 3) (pe_op op_powB pe_int pe_int)))))
          (pss_cons (ps_set (i := 8) sc_law_draws.nd rfl (Or.inl rfl) (pe_op op_mod (pe_op op_add (pv 5) (pe_op op_mul pe_int (pe_op op_add (pv 7) pe_int))) pe_int))
          (pss_cons (ps_set (i := 8) sc_law_draws.nd rfl (Or.inl rfl) (pe_op op_mod (pe_op op_add (pe_op op_mul (pv 8) (pv 8)) (pv 7)) pe_int))
          (pss_one (ps_expr (pe_bm PySem.F.plainAttrs_list PySem.F.slot_list_append PySem.F.type_list_append mt_append (pv 6) (pa_cons (pe_op op_mod (pe_op op_mod (pe_op op_mul (pv 8) (pv 8)) pe_int) (pe_op op_powB pe_int pe_int)) pa_nil)))))))))
      (pss_one (ps_ret (pv 6)))))))))), ?_⟩
    -- if len(script) > 0
    refine ⟨fun σ H' => H' = H ∧ ∃ c : Int, σ = [some (.ref a), some (nV j), some (nV many), some (.int c), none, none, none, none, none], ?_, fun σ H' hm => ?_⟩
    · refine ⟨_, rfl, a, ns.map V.int, rfl, .inl hS, _, _, rfl, rfl, _, rfl, ite2 (fun e => ?_) (fun e => ⟨rfl, 0, rfl⟩)⟩
      have hpos : 0 < ns.length := by
        have := of_decide_eq_true e
        rw [List.length_map] at this
        omega
      have hmin : ∃ m : Nat, (if ((ns.map V.int).length : Int) < 63 then ((ns.map V.int).length : Int) else 63) = (m : Int) ∧ 0 < m ∧ m ≤ ns.length := by
        rw [List.length_map]
        by_cases h : (ns.length : Int) < 63
        · exact ⟨ns.length, if_pos h, hpos, Nat.le_refl _⟩
        · exact ⟨63, if_neg h, by omega, by omega⟩
      obtain ⟨m, em, m1, m2⟩ := hmin
      refine ⟨_, rfl, _, rfl, _, rfl, a, ns.map V.int, rfl, .inl hS, _, _, rfl, _, _, rfl, rfl, ?_, ?_⟩
      · show (0 : Int) < (if ((ns.map V.int).length : Int) < 63 then ((ns.map V.int).length : Int) else 63)
        omega
      · have hlt := Nat.mod_lt j m1
        have hget : (ns.map V.int)[j % m]? = some (.int ns[j % m]) := by
          rw [List.getElem?_map, List.getElem?_eq_getElem (by omega)]
          rfl
        refine ⟨a, ns.map V.int, ((j % m : Nat) : Int), .int ns[j % m], rfl, ?_, hS, atI_nat hget, rfl, _, rfl⟩
        show V.int ((j : Int) % (if ((ns.map V.int).length : Int) < 63 then ((ns.map V.int).length : Int) else 63)) = _
        rw [em]
        rfl
    obtain ⟨rfl, c, rfl⟩ := hm
    -- great = ..
    refine ⟨fun σ H2 => H2 = H' ∧ ∃ (g : Bool), σ = [some (.ref a), some (nV j), some (nV many), some (.int c), some (.bl g), none, none, none, none], ?_, fun σ H2 hm => ?_⟩
    · refine ⟨_, rfl, _, rfl, a, ns.map V.int, rfl, .inl hS, _, _, rfl, rfl, _, rfl, ite2 (fun e => ?_) (fun e => ⟨rfl, _, rfl⟩)⟩
      exact ⟨_, rfl, _, _, rfl, rfl, ⟨by decide, by decide +kernel⟩, _, _, rfl, rfl, rfl, _, rfl⟩
    obtain ⟨rfl, g, rfl⟩ := hm
    -- if great
    refine ⟨fun σ H3 => H3 = H2 ∧ ∃ c : Int, σ = [some (.ref a), some (nV j), some (nV many), some (.int c), some (.bl g), none, none, none, none], ?_, fun σ H3 hm => ?_⟩
    · refine ⟨_, rfl, _, rfl, ite2 (fun e => ?_) (fun e => ⟨rfl, _, rfl⟩)⟩
      refine ⟨_, rfl, _, _, rfl, rfl, ⟨by decide, by decide +kernel⟩, _, _, rfl, rfl, ⟨by decide, by decide +kernel⟩, _, _, rfl, rfl, ⟨by decide, by decide +kernel⟩, _, _, rfl, rfl, c, 21600, rfl, ?_, rfl, _, rfl⟩
      show V.int ((((2 : Int) ^ (60 : Int).toNat) ^ (60 : Int).toNat) ^ (6 : Int).toNat - 1) = _
      rw [mask_eq]
    obtain ⟨rfl, c, rfl⟩ := hm
    -- number = ..
    refine ⟨fun σ H4 => H4 = H3 ∧ ∃ m : Nat, σ = [some (.ref a), some (nV j), some (nV many), some (.int c), some (.bl g), some (nV m), none, none, none], ?_, fun σ H4 hm => ?_⟩
    · refine ⟨_, rfl, _, _, rfl, rfl, (by show (0 : Int) < _; decide), _, rfl, _, _, rfl, rfl, .inl ⟨by decide, by decide⟩, _, _, rfl, rfl, rfl, (c % 2147483629).toNat + 69621 * j, ?_⟩
      have := Int.emod_nonneg c (show (2147483629 : Int) ≠ 0 by decide)
      show [_, _, _, _, _, some (V.int (c % 2147483629 + 69621 * (j : Int))), _, _, _] = [_, _, _, _, _, some (V.int (((c % 2147483629).toNat + 69621 * j : Nat) : Int)), _, _, _]
      rw [show (((c % 2147483629).toNat + 69621 * j : Nat) : Int) = c % 2147483629 + 69621 * (j : Int) by omega]
    obtain ⟨rfl, m, rfl⟩ := hm
    -- found = []
    refine ⟨Nat.zero_le _, fun p np => ?_⟩
    -- the loop
    refine ⟨fun σ H5 => ∃ ds : List Nat, σ[6]? = some (some (.ref p)) ∧ H5 = upd H4 p (.lst (ds.map nV)) ∧ ds.length = many ∧ ∀ d ∈ ds, d < 1000000000, ?_, fun σ H5 hm => ?_⟩
    · refine ⟨_, rfl, (many : Int), rfl, by omega, by omega, ?_⟩
      refine for_range (fun i σ H5 => ∃ (c : Int) (y7 y8 : Option V) (ds : List Nat), σ = [some (.ref a), some (nV j), some (nV many), some (.int c), some (.bl g), some (nV m), some (.ref p), y7, y8] ∧ H5 = upd H4 p (.lst (ds.map nV)) ∧ ds.length = i ∧ ∀ d ∈ ds, d < 1000000000)
        ⟨c, none, none, [], rfl, rfl, rfl, fun d hd => nomatch hd⟩ (fun i σ H5 hi hP => ?_) (fun σ H5 hP => ?_)
      · obtain ⟨c, y7, y8, ds, rfl, rfl, hl, hd⟩ := hP
        have hp : (upd H4 p (.lst (ds.map nV))) p = some (.lst (ds.map nV)) := upd_same
        have hlen : (ds.map nV).length < sizeLine := by rw [List.length_map]; omega
        have app : ∀ (x : Int), 0 ≤ x → x < 1000000000 → upd (upd H4 p (.lst (ds.map nV))) p (.lst (ds.map nV ++ [V.int x])) = upd H4 p (.lst ((ds ++ [x.toNat]).map nV)) ∧ (ds ++ [x.toNat]).length = i + 1 ∧ ∀ d ∈ ds ++ [x.toNat], d < 1000000000 := fun x h0 h1 => by
          refine ⟨?_, by rw [List.length_append, hl]; rfl, fun d hd' => ?_⟩
          · rw [upd_upd, List.map_append]
            show _ = upd H4 p (.lst (ds.map nV ++ [V.int ((x.toNat : Nat) : Int)]))
            rw [Int.toNat_of_nonneg h0]
          · rcases List.mem_append.mp hd' with hd' | hd'
            · exact hd d hd'
            · rw [List.mem_singleton.mp hd']; omega
        refine ⟨_, rfl, _, rfl, ite2 (fun e => ?_) (fun e => ?_)⟩
        · have h0 := Int.emod_nonneg c (show (1000000000 : Int) ≠ 0 by decide)
          have h1 := Int.emod_lt_of_pos c (show (0 : Int) < 1000000000 by decide)
          obtain ⟨a1, a2, a3⟩ := app (c % 1000000000) h0 h1
          refine ⟨_, rfl, .inl ⟨rfl, _, SqL.of hp⟩, _, rfl, _, _, rfl, rfl, ⟨by decide, by decide +kernel⟩, _, _, rfl, rfl, (by show (0 : Int) < _; decide), p, _, _, rfl, rfl, hp, hlen, ?_⟩
          refine ⟨_, rfl, _, _, rfl, rfl, ⟨by decide, by decide +kernel⟩, _, _, rfl, rfl, ⟨by decide, by decide⟩, ?_⟩
          exact ⟨c / 1000000000, _, _, _, rfl, a1, a2, a3⟩
        · refine ⟨_, rfl, _, rfl, _, _, rfl, rfl, _, _, rfl, rfl, .inl ⟨by decide, by decide⟩, _, _, rfl, rfl, _, _, rfl, rfl, (by show (0 : Int) < _; decide), ?_⟩
          obtain ⟨x, ex, x0, x1⟩ : ∃ x : Int, ((m : Int) + 48271 * ((0 : Int) + (i : Int) + 1)) % 2147483629 = x ∧ 0 ≤ x ∧ x < 2147483629 := ⟨_, rfl, Int.emod_nonneg _ (by decide), Int.emod_lt_of_pos _ (by decide)⟩
          refine ⟨_, rfl, _, rfl, _, _, rfl, rfl, .inl ⟨?_, ?_⟩, _, rfl, _, _, rfl, rfl, _, _, rfl, rfl, (by show (0 : Int) < _; decide), ?_⟩
          · show -(2 ^ 64) < ((m : Int) + 48271 * ((0 : Int) + (i : Int) + 1)) % 2147483629
            omega
          · show ((m : Int) + 48271 * ((0 : Int) + (i : Int) + 1)) % 2147483629 < 2 ^ 64
            omega
          obtain ⟨y, ey, y0, y1⟩ : ∃ y : Int, ((((m : Int) + 48271 * ((0 : Int) + (i : Int) + 1)) % 2147483629) * (((m : Int) + 48271 * ((0 : Int) + (i : Int) + 1)) % 2147483629) + ((0 : Int) + (i : Int))) % 2147483629 = y ∧ 0 ≤ y ∧ y < 2147483629 := ⟨_, rfl, Int.emod_nonneg _ (by decide), Int.emod_lt_of_pos _ (by decide)⟩
          obtain ⟨z, ez, z0, z1⟩ : ∃ z : Int, y * y % 2147483587 % 1000000000 = z ∧ 0 ≤ z ∧ z < 1000000000 := ⟨_, rfl, Int.emod_nonneg _ (by decide), Int.emod_lt_of_pos _ (by decide)⟩
          obtain ⟨a1, a2, a3⟩ := app z z0 z1
          refine ⟨_, rfl, .inl ⟨rfl, _, SqL.of hp⟩, _, rfl, _, rfl, y, y, ?_, ?_, .inl ⟨by omega, by omega⟩, _, _, rfl, rfl, (by show (0 : Int) < _; decide), _, _, rfl, rfl, ⟨by decide, by decide +kernel⟩, _, _, rfl, rfl, (by show (0 : Int) < _; decide), p, _, _, rfl, rfl, hp, hlen, ?_⟩
          · exact congrArg V.int ey
          · exact congrArg V.int ey
          · refine ⟨c, _, _, _, rfl, ?_, a2, a3⟩
            rw [← a1, ← ez]
            rfl
      · obtain ⟨c, y7, y8, ds, rfl, rfl, hl, hd⟩ := hP
        exact ⟨ds, rfl, rfl, hl, hd⟩
    obtain ⟨ds, hs, rfl, hl, hd⟩ := hm
    exact ⟨_, hs, q p ds np hl hd⟩
end
end WK
namespace WK
open PySem PySem.Spec PyProof.Rows L2
theorem lc_yes {σ : L2.St} {H : Hp} {F : Bool → Hp → Prop} (h : F true H) : tYes σ H F := h
theorem join_ones (cs : List Nat) : Txt.join (tx []) (cs.map fun c => tx [c]) = tx cs := by
  have f : ∀ (r : List Nat) (acc : List Nat), (r.map fun c => tx [c]).foldl (fun acc p => acc ++ (tx []).cps ++ p.cps) acc.toArray = (acc ++ r).toArray := by
    intro r
    induction r with
    | nil => intro acc; simp
    | cons c r ih =>
      intro acc
      rw [List.map_cons, List.foldl_cons]
      have e : acc.toArray ++ (tx []).cps ++ (tx [c]).cps = (acc ++ [c]).toArray := by
        show acc.toArray ++ ([] : List Nat).toArray ++ [c].toArray = _
        simp
      rw [e, ih, List.append_assoc]
      rfl
  cases cs with
  | nil => rfl
  | cons c r =>
    show (⟨(r.map fun c => tx [c]).foldl (fun acc p => acc ++ (tx []).cps ++ p.cps) [c].toArray⟩ : Str) = _
    rw [f]
    rfl
theorem text_row {h a : List Nat} {n : Nat} (ha : 0 < a.length) : WK.Txt (row h a) n ((h ++ rep a (n / a.length + 1)).take n) := by
  have hk : n < (n / a.length + 1) * a.length := by
    have h2 := Nat.div_add_mod n a.length
    have h3 := Nat.mod_lt n ha
    rw [Nat.succ_mul, Nat.mul_comm]
    omega
  have hl := rep_len a (n / a.length + 1)
  refine ⟨by rw [List.length_take, List.length_append, hl]; omega, fun i hi => ?_⟩
  rw [getD_take hi, getD_app]
  by_cases h1 : i < h.length
  · rw [if_pos h1, row_head h1]
  · rw [if_neg h1, row_again (by omega)]
    exact rep_get ha _ _ (by omega)
theorem Same.upd {H H1 : Hp} {p : Addr} {o : HO} (s : Same H H1) (hn : H p = none) : Same H (upd H1 p o) := fun b x e => by
  rw [upd_ne (ne_of_none e hn)]
  exact s b x e
theorem getD_mem {x : List Nat} {i : Nat} (h : i < x.length) : x.getD i 0 ∈ x := by
  rw [List.getD_eq_getElem?_getD, List.getElem?_eq_getElem h]
  exact List.getElem_mem h
theorem nV_at {ds : List Nat} {i : Nat} (h : i < ds.length) : (ds.map nV)[i]? = some (nV (ds.getD i 0)) := by
  rw [List.getElem?_map, List.getElem?_eq_getElem h, List.getD_eq_getElem?_getD, List.getElem?_eq_getElem h]
  rfl
abbrev s_law_signs : Stmt := topS 57
theorem sc_law_signs : FnScope ["_law_digits", "_law_many", "_law_digit"] ["_law_digits", "_law_many"] (defScope s_law_signs) := ⟨rfl, rfl, rfl, by decide +kernel, rfl, by decide +kernel, by decide +kernel⟩
abbrev s_law_text : Stmt := topS 59
theorem sc_law_text : FnScope ["_law_word_here", "_law_many", "_law_front", "_law_again"] ["_law_word_here", "_law_many"] (defScope s_law_text) := ⟨rfl, rfl, rfl, by decide +kernel, rfl, by decide +kernel, by decide +kernel⟩
section
variable {P : Program} {w : World} {K : PySem.W.Frag} {mg : Str → Option Value} {base : Heap}
def sp_law_text (_ : PySem.W.Frag) : Sp := fun vs H Q _ => ∃ (b : Addr) (h a : List Nat) (many : Nat), vs = [.ref b, nV many] ∧ H b = some (.tup [.str (tx h), .str (tx a)]) ∧ 0 < a.length ∧ a.length ≤ 20000 ∧ h.length ≤ 20000 ∧ many ≤ 3000 ∧
  ∀ t, WK.Txt (row h a) many t → Q (.str (tx t)) H
theorem ok_law_text {f : Addr} {fd : FuncData} (F : Fun K "_law_text" "_law_text" s_law_text f fd) (m_len : mg "len" = none) : FnOk P w K mg base CX0 1 f fd ["_law_word_here", "_law_many"] (sp_law_text K) := by
  refine F.ok sc_law_text (fun vs H Q E h => ?_) (fun cdv A outer s H vs Q E hr h => ?_)
  · obtain ⟨_, _, _, _, rfl, _⟩ := h
    rfl
  · obtain ⟨b, h, a, many, rfl, hb, h1, h2, h3, h4, q⟩ := h
    have hz := szl
    have hl := tx_len a
    refine ⟨_, (pss_cons (ps_asg (pv 0) (pg_tup (by rfl) (pgs_cons (pg_name (i := 2) sc_law_text.nd rfl (Or.inl rfl)) (pgs_cons (pg_name (i := 3) sc_law_text.nd rfl (Or.inl rfl)) pgs_nil))))
      (pss_one (ps_ret (pe_slice sl_str (pe_op op_add_str (pv 2) (pe_op op_mul_str (pv 3) (pe_op op_add (pe_op op_fdiv (pv 1) (pe_callB call_len_str (by rfl) m_len PySem.boot_len (pa_cons (pv 3) pa_nil))) pe_int))) po_none (po_some (pv 1)))))), ?_⟩
    refine ⟨_, rfl, b, _, rfl, SqT.of hb, rfl, _, _, rfl, _, _, rfl, rfl, ?_⟩
    have hkl := rep_len a (many / a.length + 1)
    have hkb : many / a.length ≤ many := Nat.div_le_self _ _
    have hk3 : (many / a.length + 1) * a.length ≤ 24000 := by
      have h2 := Nat.div_add_mod many a.length
      have h3 := Nat.mod_lt many h1
      rw [Nat.succ_mul, Nat.mul_comm]
      omega
    refine ⟨_, rfl, _, rfl, _, rfl, _, rfl, tx a, rfl, by omega, _, _, rfl, rfl, ⟨?_, ?_⟩, _, _, rfl, rfl, a, many / a.length + 1, rfl, ?_, ?_, by omega, _, _, rfl, rfl, ?_, _, rfl, _, rfl, _, rfl, ?_, ?_⟩
    · show (0 : Int) < ((tx a).length : Int)
      omega
    · show ((tx a).length : Int) < 1073741824
      omega
    · show V.int ((many : Int) / ((tx a).length : Int) + 1) = _
      rw [hl, nat_div1]
    · rw [Nat.mul_comm]; omega
    · show (tx h).length + (tx (rep a (many / a.length + 1))).length ≤ sizeLine
      rw [tx_len, tx_len, hkl]
      omega
    · show (tx h ++ tx (rep a (many / a.length + 1))).length ≤ sizeLine
      rw [tx_add, tx_len, List.length_append, hkl]
      omega
    · show Q (.str (cutS (tx h ++ tx (rep a (many / a.length + 1))) none (some (many : Int)))) H
      rw [tx_add, cut_0n]
      exact q _ (text_row h1)
def sp_law_signs (_ : PySem.W.Frag) : Sp := fun vs H Q _ => ∃ (p : Addr) (ds : List Nat) (many : Nat), vs = [.ref p, nV many] ∧ H p = some (.lst (ds.map nV)) ∧ ds.length ≤ 1000 ∧ many ≤ 1000 ∧
  ∀ x H', Same H H' → Bin x → x.length = min many ds.length → Q (.str (tx x)) H'
theorem ok_law_signs {f : Addr} {fd : FuncData} (F : Fun K "_law_signs" "_law_signs" s_law_signs f fd) : FnOk P w K mg base CX0 1 f fd ["_law_digits", "_law_many"] (sp_law_signs K) := by
  refine F.ok sc_law_signs (fun vs H Q E h => ?_) (fun cdv A outer s H vs Q E hr h => ?_)
  · obtain ⟨_, _, _, rfl, _⟩ := h
    rfl
  · obtain ⟨p, ds, many, rfl, hp, h1, h2, q⟩ := h
    have hz := szl
    refine ⟨_, (pss_one (ps_ret (pe_join pe_str (pe_lc (own := [("_law_digit", 2)]) (g := gName 2) (by rfl) sc_law_signs.nd (pi_list (pe_slice sl_list (pv 0) po_none (po_some (pv 1)))) (blkOk_by (N := ["_law_digits", "_law_many", "_law_digit"]) (sc := defScope s_law_signs) (by decide +kernel)) (fun _ _ _ _ _ => pg_name (i := 2) sc_law_signs.nd rfl (Or.inl rfl)) (fun _ _ _ _ _ => pts_nil) (fun _ _ _ _ _ => (pe_ix ix_str pe_str (pe_op op_mod (pe_op op_fdiv (pv 2) pe_int) pe_int) (fun _ _ => rfl))))))), ?_⟩
    refine ⟨⟨_, rfl⟩, ?_⟩
    refine ⟨_, rfl, _, rfl, _, rfl, p, _, rfl, SqL.of hp, fun c nc => ?_⟩
    have ecut : cutV (ds.map nV) none (some (many : Int)) = (ds.take many).map nV := by
      show List.take _ (List.drop _ _) = _
      rw [HT.sIx_nat, HT.sIx_none, List.drop_zero, Nat.sub_zero, List.length_map, List.map_take]
      by_cases h : many ≤ ds.length
      · rw [Nat.min_eq_left h]
      · rw [Nat.min_eq_right (by omega), List.take_of_length_le (by rw [List.length_map]; omega), List.take_of_length_le (by rw [List.length_map]; omega)]
    rw [ecut]
    refine ⟨c, rfl, ⟨_, SqL.of upd_same⟩, fun D nD => ?_⟩
    have ncD : c ≠ D := ne_of_none (H := upd H c (.lst ((ds.take many).map nV))) upd_same nD
    have hlen : (ds.take many).length = min many ds.length := List.length_take
    refine lc_list (K := K) (a := c) (xs := (ds.take many).map nV) (fun i H' => ∃ cs : List Nat, H' = upd (upd H c (.lst ((ds.take many).map nV))) D (.lst (cs.map fun z => V.str (tx [z]))) ∧ cs.length = i ∧ Bin cs)
      ⟨[], rfl, rfl, fun z hz => nomatch hz⟩ (fun i H' _ hP => ?_) (fun i x H' hx hP => ?_) (fun H' hP => ?_)
    · obtain ⟨cs, rfl, _, _⟩ := hP
      refine SqL.of ?_
      rw [upd_ne ncD, upd_same]
    · obtain ⟨cs, rfl, hl, hb⟩ := hP
      have hi : i < (ds.take many).length := by
        have := (List.getElem?_eq_some_iff.mp hx).1
        rw [List.length_map] at this
        exact this
      rw [nV_at hi] at hx
      cases hx
      refine ⟨rfl, lc_yes ?_⟩
      rw [if_pos rfl]
      obtain ⟨g, eg, g1⟩ : ∃ g : Nat, (((ds.take many).getD i 0 : Nat) : Int) / 7 % 2 = (g : Int) ∧ g < 2 := ⟨(ds.take many).getD i 0 / 7 % 2, by omega, by omega⟩
      obtain ⟨e, he, e1⟩ : ∃ e : Nat, ([48, 49] : List Nat)[g]? = some e ∧ (e = 48 ∨ e = 49) := by
        rcases (show g = 0 ∨ g = 1 by omega) with rfl | rfl
        · exact ⟨48, rfl, .inl rfl⟩
        · exact ⟨49, rfl, .inr rfl⟩
      refine ⟨_, rfl, _, _, rfl, rfl, ⟨by decide, by decide⟩, _, _, rfl, rfl, (by show (0 : Int) < _; decide), "01", (g : Int), e, rfl, ?_, by show 2 ≤ sizeLine; decide, atI_nat he, ?_⟩
      · exact congrArg V.int eg
      · refine ⟨_, upd_same, ?_, cs ++ [e], ?_, by rw [List.length_append, hl]; rfl, fun z hz => ?_⟩
        · rw [List.length_map]; omega
        · rw [upd_upd, List.map_append]
          rfl
        · rcases List.mem_append.mp hz with hz | hz
          · exact hb z hz
          · rw [List.mem_singleton.mp hz]; exact e1
    · obtain ⟨cs, rfl, hl, hb⟩ := hP
      rw [List.length_map, hlen] at hl
      have hsum : ∀ l : List Nat, ((l.map fun z => tx [z]).map (·.length)).sum = l.length := by
        intro l
        induction l with
        | nil => rfl
        | cons z l ih => rw [List.map_cons, List.map_cons, List.sum_cons, ih, List.length_cons, tx_len]; simp; omega
      refine ⟨tx [], D, cs.map fun z => tx [z], rfl, rfl, .inl (SqL.of ?_), ?_, ?_⟩
      · rw [upd_same, List.map_map]
        rfl
      · rw [hsum, List.length_map, tx_len]
        simp
        omega
      · rw [join_ones]
        exact q cs _ (Same.upd (Same.upd (Same.refl H) nc) (by rw [upd_ne ncD.symm] at nD; exact nD)) hb hl
end
end WK
namespace WK
open PySem PySem.Spec PyProof.Rows L2
theorem same_at {H H' : Hp} {p : Addr} {o : HO} (s : Same H H') (h : H p = some o) : H' p = some o := s _ _ h
theorem bin_app {x y : List Nat} (hx : Bin x) (hy : Bin y) : Bin (x ++ y) := fun c hc => by
  rcases List.mem_append.mp hc with h | h
  · exact hx c h
  · exact hy c h
theorem bin_rep {x : List Nat} (hx : Bin x) (n : Nat) : Bin (rep x n) := fun c hc => by
  unfold rep at hc
  obtain ⟨l, hl, hc⟩ := List.mem_flatten.mp hc
  rw [List.mem_replicate] at hl
  rw [hl.2] at hc
  exact hx c hc
theorem bin0 : Bin [48] := fun c hc => .inl (List.mem_singleton.mp hc)
theorem bin1 : Bin [49] := fun c hc => .inr (List.mem_singleton.mp hc)
abbrev s_law_word : Stmt := topS 58
theorem sc_law_word : FnScope ["_law_script", "_law_j", "_law_digits", "_law_way", "_law_many", "_law_size", "_law_front", "_law_again"] ["_law_script", "_law_j"] (defScope s_law_word) := ⟨rfl, rfl, rfl, by decide +kernel, rfl, by decide +kernel, by decide +kernel⟩
section
variable {P : Program} {w : World} {K : PySem.W.Frag} {mg : Str → Option Value} {base : Heap}
def sp_law_word (K : PySem.W.Frag) : Sp := fun vs H Q _ => ∃ (a : Addr) (ns : List Int) (j : Nat), vs = [.ref a, nV j] ∧ SqL K H a (ns.map V.int) ∧ ns.length ≤ 100 ∧ j ≤ 900 ∧
  ∀ (p : Addr) (x y : List Nat) (H' : Hp), Same H H' → H p = none → H' p = some (.tup [.str (tx x), .str (tx y)]) → Bin x → Bin y → x.length ≤ 12 → 1 ≤ y.length → y.length ≤ 26 → Q (.ref p) H'
theorem ok_law_word {f : Addr} {fd : FuncData} (F : Fun K "_law_word" "_law_word" s_law_word f fd) {f_law_draws : Addr} {fd_law_draws : FuncData} (c_law_draws : Cal P w K mg base CX0 1 f_law_draws fd_law_draws "_law_draws" ["_law_script", "_law_j", "_law_many"] (sp_law_draws K)) {f_law_signs : Addr} {fd_law_signs : FuncData} (c_law_signs : Cal P w K mg base CX0 1 f_law_signs fd_law_signs "_law_signs" ["_law_digits", "_law_many"] (sp_law_signs K)) : FnOk P w K mg base CX0 2 f fd ["_law_script", "_law_j"] (sp_law_word K) := by
  refine F.ok sc_law_word (fun vs H Q E h => ?_) (fun cdv A outer s H vs Q E hr h => ?_)
  · obtain ⟨_, _, _, rfl, _⟩ := h
    rfl
  · obtain ⟨a, ns, j, rfl, hS, h1, h2, q⟩ := h
    have hz := szl
    refine ⟨_, (pss_cons (ps_set (i := 2) sc_law_word.nd rfl (Or.inl rfl) (pe_call c_law_draws.G (hr.mono (by decide)) (by rfl) c_law_draws.g c_law_draws.kp c_law_draws.b .nil pass0 (pa_cons (pv 0) (pa_cons (pv 1) (pa_cons pe_int pa_nil)))))
      (C8.pss_cut (ps_set (i := 3) sc_law_word.nd rfl (Or.inl rfl) (pe_op op_mod (pe_ix ix_list (pv 2) pe_int (fun _ _ => rfl)) pe_int))
      (C8.pss_cut (ps_set (i := 4) sc_law_word.nd rfl (Or.inl rfl) (pe_op op_mod (pe_ix ix_list (pv 2) pe_int (fun _ _ => rfl)) (pe_ix ix_list (pe_lst (pa_cons pe_int (pa_cons pe_int pa_nil))) (pe_op op_mod (pv 3) pe_int) (fun _ _ => rfl))))
      (C8.pss_cut (ps_set (i := 5) sc_law_word.nd rfl (Or.inl rfl) (pe_op op_add pe_int (pe_op op_mod (pe_ix ix_list (pv 2) pe_int (fun _ _ => rfl)) (pe_ix ix_list (pe_lst (pa_cons pe_int (pa_cons pe_int pa_nil))) (pe_op op_mod (pe_op op_fdiv (pv 3) pe_int) pe_int) (fun _ _ => rfl)))))
      (pss_cons (ps_par (i := 6) (j := 7) (by rfl) sc_law_word.nd rfl rfl (by decide) rfl rfl (pa_cons (pe_call c_law_signs.G (hr.mono (by decide)) (by rfl) c_law_signs.g c_law_signs.kp c_law_signs.b .nil pass0 (pa_cons (pv 2) (pa_cons (pv 4) pa_nil))) (pa_cons (pe_call c_law_signs.G (hr.mono (by decide)) (by rfl) c_law_signs.g c_law_signs.kp c_law_signs.b .nil pass0 (pa_cons (pe_slice sl_list (pv 2) (po_some pe_int) po_none) (pa_cons (pv 5) pa_nil))) pa_nil)) (by rfl))
      (C8.pss_cut (ps_if (pt_cmpR op_eq (pv 3) pe_int (nomark _))
        (pss_one (ps_set (i := 7) sc_law_word.nd rfl (Or.inl rfl) (pe_op op_mul_str pe_str (pv 5))))
        pss_nil)
      (C8.pss_cut (ps_if (pt_cmpR op_eq (pv 3) pe_int (nomark _))
        (pss_one (ps_set (i := 7) sc_law_word.nd rfl (Or.inl rfl) (pe_op op_add_str (pv 7) (pv 7))))
        pss_nil)
      (pss_one (ps_ret (pe_tup (pa_cons (pv 6) (pa_cons (pv 7) pa_nil)))))))))))), ?_⟩
    refine ⟨_, rfl, _, rfl, a, ns, j, 30, rfl, hS, h1, by omega, by decide, fun p ds np hl hd => ?_⟩
    have s0 : Same H (upd H p (.lst (ds.map nV))) := same_upd np
    have hp0 : (upd H p (.lst (ds.map nV))) p = some (.lst (ds.map nV)) := upd_same
    -- way
    refine ⟨fun σ H' => H' = upd H p (.lst (ds.map nV)) ∧ ∃ way : Nat, way < 6 ∧ σ = [some (.ref a), some (nV j), some (.ref p), some (nV way), none, none, none, none], ?_, fun σ H' hm => ?_⟩
    · refine ⟨_, rfl, p, _, 29, _, rfl, rfl, SqL.of hp0, atI_nat (j := 29) (nV_at (by omega)), _, _, rfl, rfl, (by show (0 : Int) < _; decide), rfl, ds.getD 29 0 % 6, by omega, ?_⟩
      show [_, _, _, some (V.int (((ds.getD 29 0 : Nat) : Int) % 6)), _, _, _, _] = [_, _, _, some (V.int ((ds.getD 29 0 % 6 : Nat) : Int)), _, _, _, _]
      rfl
    obtain ⟨rfl, way, hw, rfl⟩ := hm
    have pick : ∀ (g : Nat), g < 2 → ∃ c : Nat, ([nV 4, nV 13] : List V)[g]? = some (nV c) ∧ 4 ≤ c ∧ c ≤ 13 := fun g hg => by
      rcases (show g = 0 ∨ g = 1 by omega) with rfl | rfl
      · exact ⟨4, rfl, by omega, by omega⟩
      · exact ⟨13, rfl, by omega, by omega⟩
    -- many
    refine ⟨fun σ H' => Same (upd H p (.lst (ds.map nV))) H' ∧ ∃ many : Nat, many ≤ 12 ∧ σ = [some (.ref a), some (nV j), some (.ref p), some (nV way), some (nV many), none, none, none], ?_, fun σ H1 hm => ?_⟩
    · refine ⟨_, rfl, p, _, 27, _, rfl, rfl, SqL.of hp0, atI_nat (j := 27) (nV_at (by omega)), ?_⟩
      refine ⟨by show 2 ≤ sizeLine; decide, fun l nl => ?_⟩
      obtain ⟨c, ec, c1, c2⟩ := pick (way % 2) (by omega)
      refine ⟨_, rfl, _, _, rfl, rfl, (by show (0 : Int) < _; decide), l, [nV 4, nV 13], ((way % 2 : Nat) : Int), nV c, rfl, rfl, SqL.of upd_same, atI_nat ec, _, _, rfl, rfl, ?_, same_upd nl, ds.getD 27 0 % c, ?_, ?_⟩
      · show (0 : Int) < (c : Int)
        omega
      · have := Nat.mod_lt (ds.getD 27 0) (show 0 < c by omega)
        omega
      · show [_, _, _, _, some (V.int (((ds.getD 27 0 : Nat) : Int) % (c : Int))), _, _, _] = [_, _, _, _, some (V.int ((ds.getD 27 0 % c : Nat) : Int)), _, _, _]
        rfl
    obtain ⟨s1, many, hmany, rfl⟩ := hm
    have hp1 := same_at s1 hp0
    -- size
    refine ⟨fun σ H' => Same H1 H' ∧ ∃ size : Nat, 1 ≤ size ∧ size ≤ 13 ∧ σ = [some (.ref a), some (nV j), some (.ref p), some (nV way), some (nV many), some (nV size), none, none], ?_, fun σ H2 hm => ?_⟩
    · refine ⟨_, rfl, p, _, 28, _, rfl, rfl, SqL.of hp1, atI_nat (j := 28) (nV_at (by omega)), ?_⟩
      refine ⟨by show 2 ≤ sizeLine; decide, fun l nl => ?_⟩
      obtain ⟨c, ec, c1, c2⟩ := pick (way / 2 % 2) (by omega)
      refine ⟨_, rfl, _, _, rfl, rfl, ⟨by decide, by decide⟩, _, _, rfl, rfl, (by show (0 : Int) < _; decide), l, [nV 4, nV 13], ((way / 2 % 2 : Nat) : Int), nV c, rfl, rfl, SqL.of upd_same, atI_nat ec, _, _, rfl, rfl, ?_, _, _, rfl, rfl, same_upd nl, 1 + ds.getD 28 0 % c, ?_, ?_, ?_⟩
      · show (0 : Int) < (c : Int)
        omega
      · omega
      · have := Nat.mod_lt (ds.getD 28 0) (show 0 < c by omega)
        omega
      · show [_, _, _, _, _, some (V.int (1 + ((ds.getD 28 0 : Nat) : Int) % (c : Int))), _, _] = [_, _, _, _, _, some (V.int ((1 + ds.getD 28 0 % c : Nat) : Int)), _, _]
        rfl
    obtain ⟨s2, size, hs1, hs2, rfl⟩ := hm
    have hp2 := same_at s2 hp1
    -- front, again = ..
    refine ⟨_, rfl, _, rfl, p, ds, many, rfl, hp2, by omega, by omega, fun x H3 s3 bx lx => ?_⟩
    have hp3 := same_at s3 hp2
    refine ⟨_, rfl, _, rfl, p, _, rfl, SqL.of hp3, fun c nc => ?_⟩
    have ecut : cutV (ds.map nV) (some (13 : Int)) none = (ds.drop 13).map nV := by
      show List.take _ (List.drop _ _) = _
      rw [show (HT.sIx (ds.map nV).length 0 (some (13 : Int))) = min 13 (ds.map nV).length from HT.sIx_nat _ _ 13, HT.sIx_none, List.length_map, hl, List.map_drop]
      exact List.take_of_length_le (by rw [List.length_drop, List.length_map]; omega)
    rw [ecut]
    refine ⟨_, rfl, c, ds.drop 13, size, rfl, upd_same, by rw [List.length_drop]; omega, by omega, fun y H4 s4 hby ly => ?_⟩
    rw [List.length_drop] at ly
    refine ⟨_, _, rfl, ?_⟩
    have sall : Same H H4 := s0.trans (s1.trans (s2.trans (s3.trans ((same_upd nc).trans s4))))
    -- if way == 4
    refine ⟨fun σ H' => H' = H4 ∧ ∃ y : List Nat, Bin y ∧ 1 ≤ y.length ∧ y.length ≤ 13 ∧ σ = [some (.ref a), some (nV j), some (.ref p), some (nV way), some (nV many), some (nV size), some (.str (tx x)), some (.str (tx y))], ?_, fun σ H5 hm => ?_⟩
    · refine ⟨_, rfl, rfl, _, rfl, ite2 (fun e => ?_) (fun e => ⟨rfl, y, hby, by omega, by omega, rfl⟩)⟩
      refine ⟨_, rfl, [48], size, rfl, rfl, by show 1 * size ≤ _; omega, by omega, rfl, rep [48] size, bin_rep bin0 _, ?_, ?_, rfl⟩
      · rw [rep_len]; show 1 ≤ size * 1; omega
      · rw [rep_len]; show size * 1 ≤ 13; omega
    obtain ⟨rfl, y, by', ly1, ly2, rfl⟩ := hm
    have hty := tx_len y
    -- if way == 5
    refine ⟨fun σ H' => H' = H5 ∧ ∃ y : List Nat, Bin y ∧ 1 ≤ y.length ∧ y.length ≤ 26 ∧ σ = [some (.ref a), some (nV j), some (.ref p), some (nV way), some (nV many), some (nV size), some (.str (tx x)), some (.str (tx y))], ?_, fun σ H6 hm => ?_⟩
    · refine ⟨_, rfl, rfl, _, rfl, ite2 (fun e => ?_) (fun e => ⟨rfl, y, by', by omega, by omega, rfl⟩)⟩
      refine ⟨_, rfl, _, rfl, _, _, rfl, rfl, by omega, rfl, y ++ y, bin_app by' by', ?_, ?_, ?_⟩
      · rw [List.length_append]; omega
      · rw [List.length_append]; omega
      · rw [← tx_add]; rfl
    obtain ⟨rfl, y, by', ly1, ly2, rfl⟩ := hm
    refine ⟨_, rfl, _, rfl, by show 2 ≤ sizeLine; decide, fun b nb => ?_⟩
    exact q b x y _ (sall.trans (same_upd nb)) (sall.free nb) upd_same bx by' (by omega) ly1 ly2
end
end WK
namespace WK
open PySem PySem.Spec PyProof.Rows L2
structure XCal (P : Program) (w : World) (K : PySem.W.Frag) (mg : Str → Option Value) (base : Heap) (k : Nat) (x : Str) (C fI : Addr) (fd : FuncData) (ps fs : List Str) (sp : Sp) : Prop where
  T : OexC K C
  iC : PySem.W.findIn K (.ref C) "__init__" = some (some (.ref fI))
  tI : PySem.W.typeIn K (.ref fI) = some (.type "function")
  G : FnOk P w K mg base CX0 k fI fd ps sp
  b : Binds K fd ps []
  g : mg x = some (.ref C)
  a : PySem.W.nsIn K mainGlobals x = some (some (.ref C))
  no : ∀ f ∈ fs, PySem.W.findIn K (.ref C) f = some none
structure YCal (K : PySem.W.Frag) (mg : Str → Option Value) (nm : Str) (C : Addr) : Prop where
  x : PySem.W.excIn K C [.type "ValueError", .type "Exception", .type "BaseException", .type "object"] "ValueError.__new__" = true
  g : mg nm = some (.ref C)
  k : PySem.W.keepIn K (.ref C) = true
  b : PySem.W.subIn K (.ref C) (.type "BaseException") = some true
  t : PySem.W.typeIn K (.ref C) = some (.type "type")
  a : PySem.W.nsIn K mainGlobals nm = some (some (.ref C))
structure KCal (P : Program) (w : World) (K : PySem.W.Frag) (mg : Str → Option Value) (base : Heap) (CX : CXT) (k : Nat) (f : Addr) (fd : FuncData) (x : Str) (ps : List Str) (sp : Sp) (n : Nat) (ks : List Str) (dv : List V) : Prop where
  G : FnOk P w K mg base CX k f fd ps sp
  g : mg x = some (.ref f)
  kp : PySem.W.keepIn K (.ref f) = true
  b : ∃ ds, Vals dv ds ∧ Binds K fd ps ds
  bk : KBn K fd ps n ks (fun us ws => us ++ ws) (fun vs zs => vs ++ zs)
structure ECal (K : PySem.W.Frag) (mg : Str → Option Value) (x : Str) (C : Addr) : Prop where
  g : mg x = some (.ref C)
  a : PySem.W.nsIn K mainGlobals x = some (some (.ref C))
  E : WX.ExK K C
  t : PySem.W.typeIn K (.ref C) = some (.type "type")
  v : PySem.W.subIn K (.ref C) (.type "ValueError") = some true
theorem ECal.exm {K : PySem.W.Frag} {mg : Str → Option Value} {x : Str} {C : Addr} {cls : Value} {b : Bool} (e : ECal K mg x C) (u : PySem.W.subIn K cls (.ref C) = some b) : PySem.W.exmOne K cls (.ref C) = some b := PySem.W.exm_ref e.E.hs e.E.hd e.t u
theorem ECal.kit {K : PySem.W.Frag} {mg : Str → Option Value} {x : Str} {C : Addr} {cls : Value} {b : Bool} (e : ECal K mg x C) (u : PySem.W.subIn K cls (.ref C) = some b) (hb : (cls == Value.ref C) = true → b = true) : PySem.W.kitOne K cls (.ref C) = some b := by
  unfold PySem.W.kitOne
  by_cases h : (cls == Value.ref C) = true
  · rw [if_pos h, hb h]
  · rw [if_neg h]
    obtain ⟨cd, hc, _⟩ := PySem.W.any_some e.E.hd
    unfold PySem.W.kitCls
    show (if ((PySem.W.clsIn K C).isSome && PySem.W.typeIn K (.ref C) == some (.type "type")) = true then _ else _) = _
    rw [hc, e.t]
    exact u
theorem ECal.self {K : PySem.W.Frag} {C : Addr} : PySem.W.kitOne K (.ref C) (.ref C) = some true := by
  unfold PySem.W.kitOne
  rw [if_pos (by simp)]
theorem ECal.ve {K : PySem.W.Frag} {mg : Str → Option Value} {x : Str} {C : Addr} (e : ECal K mg x C) : PySem.W.kitOne K (.ref C) (.type "ValueError") = some true := by
  unfold PySem.W.kitOne
  rw [if_neg (by simp)]
  show (if PySem.W.kitMeta "ValueError" = true then PySem.W.subIn K (.ref C) (.type "ValueError") else none) = some true
  rw [if_pos (by decide +kernel)]
  exact e.v
structure DCal (K : PySem.W.Frag) (mg : Str → Option Value) (x : Str) (C : Addr) : Prop where
  g : mg x = some (.ref C)
  hd : PySem.W.hasDictIn K C = true
  t : PySem.W.typeIn K (.ref C) = some (.type "type")
theorem DCal.kit {K : PySem.W.Frag} {mg : Str → Option Value} {x : Str} {C : Addr} {cls : Value} {b : Bool} (e : DCal K mg x C) (u : PySem.W.subIn K cls (.ref C) = some b) (hb : (cls == Value.ref C) = true → b = true) : PySem.W.kitOne K cls (.ref C) = some b := by
  unfold PySem.W.kitOne
  by_cases h : (cls == Value.ref C) = true
  · rw [if_pos h, hb h]
  · rw [if_neg h]
    obtain ⟨cd, hc, _⟩ := PySem.W.any_some e.hd
    unfold PySem.W.kitCls
    show (if ((PySem.W.clsIn K C).isSome && PySem.W.typeIn K (.ref C) == some (.type "type")) = true then _ else _) = _
    rw [hc, e.t]
    exact u
structure OCal (P : Program) (w : World) (K : PySem.W.Frag) (mg : Str → Option Value) (base : Heap) (CX : CXT) (k : Nat) (x : Str) (C f : Addr) (fd : FuncData) (ps : List Str) (sp : Sp) (n : Nat) (ks : List Str) : Prop where
  M : Mk K C f
  G : FnOk P w K mg base CX k f fd ps sp
  g : mg x = some (.ref C)
  k1 : KBn K fd ps (n + 1) ks (fun us ws => us ++ ws) (fun vs zs => vs ++ zs)
  k0 : ∃ g, KBn K fd ps 1 ks g (fun vs zs => vs ++ [.str "1"] ++ zs)
  b1 : ∃ ds, Vals [.str ""] ds ∧ Binds K fd ps ds
  b0 : ∃ ds, Vals [.str "1", .str ""] ds ∧ Binds K fd ps ds
structure OCls (K : PySem.W.Frag) (nm : Str) (A : Addr) (fs : List Str) : Prop where
  a : PySem.W.nsIn K mainGlobals nm = some (some (.ref A))
  C : Cls K A
  no : ∀ f ∈ fs, NoAttr K A f
structure MCal (P : Program) (w : World) (K : PySem.W.Frag) (mg : Str → Option Value) (base : Heap) (CX : CXT) (k : Nat) (C : Addr) (m : Str) (f : Addr) (fd : FuncData) (ps : List Str) (sp : Sp) : Prop where
  M : Meth K C m f
  G : FnOk P w K mg base CX k f fd ps sp
  b : Binds K fd ps []
def NoW (K : PySem.W.Frag) (E : XK) (H : Hp) : Prop := ∀ C, PySem.W.nsIn K mainGlobals "NoWord" = some (some (.ref C)) → E (.ref C) none H
theorem WordAt.is {H : Hp} {a : Addr} {x y : List Nat} (h : WordAt H a x y) : WordIs H (.ref a) true := by
  obtain ⟨h1, h2, h3, h4, h5, h6⟩ := h
  exact .inl ⟨a, x, y, rfl, h1, by omega, by omega, (decide_eq_true ⟨h2, h3, h4, h5, h6⟩).symm⟩
theorem WordAt.mono {H H' : Hp} {b : Addr} {x y : List Nat} (s : Same H H') (h : WordAt H b x y) : WordAt H' b x y := ⟨s _ _ h.1, h.2⟩
theorem row_bin {h a : List Nat} (hb : Bin h) (ab : Bin a) (ha : 0 < a.length) (i : Nat) : row h a i = 48 ∨ row h a i = 49 := by
  by_cases h1 : i < h.length
  · rw [row_head h1]
    exact hb _ (getD_mem h1)
  · rw [row_again (by omega)]
    exact ab _ (getD_mem (Nat.mod_lt _ ha))
theorem bin_of {x : List Nat} (h : ∀ i, i < x.length → x.getD i 0 = 48 ∨ x.getD i 0 = 49) : Bin x := fun c hc => by
  obtain ⟨i, hi, rfl⟩ := List.getElem_of_mem hc
  have := h i hi
  rwa [List.getD_eq_getElem?_getD, List.getElem?_eq_getElem hi] at this
theorem Lst.binR {R : Nat → Nat} {x y : List Nat} (L : Lst R x y) (b : ∀ i, R i = 48 ∨ R i = 49) : Bin x ∧ Bin y := by
  refine ⟨bin_of fun i hi => ?_, bin_of fun i hi => ?_⟩
  · rw [← row_head (a := y) hi, L.tells.eq]
    exact b i
  · have := L.tells.eq (x.length + i)
    rw [row_shift, row_nil, Nat.mod_eq_of_lt hi] at this
    rw [this]
    exact b _
section
variable {P : Program} {w : World} {K : PySem.W.Frag} {mg : Str → Option Value} {base : Heap}
def sp_check_word (K : PySem.W.Frag) : Sp := fun vs H Q E => ∃ v, vs = [v] ∧ ((∃ a x y, v = .ref a ∧ WordAt H a x y ∧ Q .non H) ∨ (WordIs H v false ∧ NoW K E H))
theorem ok_check_word {f : Addr} {fd : FuncData} (F : Fun K "_check_word" "_check_word" s_check_word f fd) {f_is_word : Addr} {fd_is_word : FuncData} (c_is_word : Cal P w K mg base CX0 2 f_is_word fd_is_word "is_word" ["thing"] (sp_is_word K)) {C_NoWord : Addr} (y_NoWord : YCal K mg "NoWord" C_NoWord) : FnOk P w K mg base (L2.CX P w) 3 f fd ["word"] (sp_check_word K) := by
  refine F.okX sc_check_word (fun vs H Q E h => ?_) (fun cdv A outer s H vs Q E hr h => ?_)
  · obtain ⟨v, rfl, _⟩ := h
    rfl
  · obtain ⟨v, rfl, h⟩ := h
    refine ⟨_, (pss_one (ps_if (pt_not (pt_val (pe_call c_is_word.G (hr.mono (by decide)) (by rfl) c_is_word.g c_is_word.kp c_is_word.b .nil pass0 (pa_cons (pv 0) pa_nil))))
        (pss_one (ps_raise rfl (takes_of rfl rfl rfl rfl) (pmk_own PySem.F.excBase_ValueError y_NoWord.x y_NoWord.g y_NoWord.k (raises_own y_NoWord.b y_NoWord.t) (by rfl))))
        pss_nil)), ?_⟩
    rcases h with ⟨a, x, y, rfl, hw, q⟩ | ⟨hb, qe⟩
    · exact ⟨_, rfl, _, true, rfl, hw.is, true, rfl, iteF q⟩
    · exact ⟨_, rfl, _, false, rfl, hb, false, rfl, iteT (qe _ y_NoWord.a)⟩
def sp_least_word (K : PySem.W.Frag) : Sp := fun vs H Q E => ∃ v, vs = [v] ∧ ((∃ b h a, v = .ref b ∧ WordAt H b h a ∧
  ∀ p x y, H p = none → Lst (row h a) x y → x.length ≤ h.length → y.length ≤ a.length → Q (.ref p) (upd H p (.tup [.str (tx x), .str (tx y)]))) ∨ (WordIs H v false ∧ NoW K E H))
theorem ok_least_word {f : Addr} {fd : FuncData} (F : Fun K "least_word" "least_word" s_least_word f fd) {f_check_word : Addr} {fd_check_word : FuncData} (c_check_word : Cal P w K mg base (L2.CX P w) 3 f_check_word fd_check_word "_check_word" ["word"] (sp_check_word K)) {f_least : Addr} {fd_least : FuncData} (c_least : Cal P w K mg base CX0 2 f_least fd_least "_least" ["head", "again"] (sp_least K)) : FnOk P w K mg base (L2.CX P w) 4 f fd ["word"] (sp_least_word K) := by
  refine F.okX sc_least_word (fun vs H Q E h => ?_) (fun cdv A outer s H vs Q E hr h => ?_)
  · obtain ⟨_, rfl, _⟩ := h
    rfl
  · obtain ⟨v, rfl, h⟩ := h
    refine ⟨_, (pss_cons (ps_expr (pe_call c_check_word.G (hr.mono (by decide)) (by rfl) c_check_word.g c_check_word.kp c_check_word.b .nil (passes_call (takes_of rfl rfl rfl rfl) (fun _ _ _ _ h => h)) (pa_cons (pv 0) pa_nil)))
      (pss_one (ps_ret (pe_call c_least.G (hr.mono (by decide)) (by rfl) c_least.g c_least.kp c_least.b .nil pass0 (pa_cons (pe_ix ix_tup (pv 0) pe_int (fun _ _ => rfl)) (pa_cons (pe_ix ix_tup (pv 0) pe_int (fun _ _ => rfl)) pa_nil)))))), ?_⟩
    rcases h with ⟨b, h, a, rfl, hw, q⟩ | ⟨hb, qe⟩
    · obtain ⟨hb, k2, k3, k4, k5, k6⟩ := id hw
      exact ⟨_, rfl, _, rfl, .inl ⟨b, h, a, rfl, hw, _, rfl, b, _, 0, _, rfl, rfl, SqT.of hb, atI_nat (j := 0) rfl, _, rfl, b, _, 1, _, rfl, rfl, SqT.of hb, atI_nat (j := 1) rfl, h, a, rfl, by omega, by omega, by omega, fun p x y np L l1 l2 => q p x y np L l1 l2⟩⟩
    · exact ⟨_, rfl, v, rfl, .inr ⟨hb, qe⟩⟩
end
end WK
namespace WK
open PySem PySem.Spec PyProof.Rows L2
abbrev s_is_whole : Stmt := topS 2
theorem sc_is_whole : FnScope ["thing"] ["thing"] (defScope s_is_whole) := ⟨rfl, rfl, rfl, by decide +kernel, rfl, by decide +kernel, by decide +kernel⟩
abbrev s_check_place : Stmt := topS 39
theorem sc_check_place : FnScope ["k"] ["k"] (defScope s_check_place) := ⟨rfl, rfl, rfl, by decide +kernel, rfl, by decide +kernel, by decide +kernel⟩
abbrev s_letter : Stmt := topS 44
theorem sc_letter : FnScope ["word", "k", "head", "again"] ["word", "k"] (defScope s_letter) := ⟨rfl, rfl, rfl, by decide +kernel, rfl, by decide +kernel, by decide +kernel⟩
abbrev s_place_in : Stmt := topS 45
theorem sc_place_in : FnScope ["text", "k", "at", "_"] ["text", "k"] (defScope s_place_in) := ⟨rfl, rfl, rfl, by decide +kernel, rfl, by decide +kernel, by decide +kernel⟩
abbrev s_place_of : Stmt := topS 46
theorem sc_place_of : FnScope ["word", "k", "head", "again", "ahead", "each", "rounds", "left"] ["word", "k"] (defScope s_place_of) := ⟨rfl, rfl, rfl, by decide +kernel, rfl, by decide +kernel, by decide +kernel⟩
/-! ### counting a sign -/
theorem hit1 {l : List Nat} {i : Nat} : Hit (tx l) (tx [49]) l.length i ↔ i < l.length ∧ l.getD i 0 = 49 := by
  rw [hit_tx rfl]
  constructor
  · intro ⟨h1, h2⟩
    have hi : i < l.length := h1
    have := congrArg (fun z : List Nat => z.getD 0 0) h2
    rw [show ([49] : List Nat).length = 1 from rfl] at this
    have h3 : ((l.drop i).take 1).getD 0 0 = 49 := this
    rw [getD_take (by omega), getD_drop] at h3
    exact ⟨hi, h3⟩
  · intro ⟨h1, h2⟩
    refine ⟨h1, ?_⟩
    rw [show ([49] : List Nat).length = 1 from rfl]
    refine getD_ext ?_ fun j hj => ?_
    · rw [List.length_take, List.length_drop]
      show min 1 (l.length - i) = 1
      omega
    · rw [List.length_take, List.length_drop] at hj
      have : j = 0 := by omega
      subst this
      rw [getD_take (by omega), getD_drop]
      exact h2
theorem occ_count {l : List Nat} : ∀ (m lo : Nat) (acc : Array Nat) (free : Nat), lo + m = l.length + 1 → free ≤ lo → acc.size ≤ lo →
    (forIn (List.range' lo m) (acc, free) (PySem.StrLaws.occBody (tx l) (tx [49]) l.length (l.length + 1))).run.fst.size = acc.size + (l.drop lo).count 49
  | 0, lo, acc, free, h1, h2, h3 => by
    rw [List.drop_of_length_le (show l.length ≤ lo by omega)]
    rfl
  | m + 1, lo, acc, free, h1, h2, h3 => by
    rw [List.range'_succ, List.forIn_cons]
    unfold PySem.StrLaws.occBody
    by_cases hh : Hit (tx l) (tx [49]) l.length lo
    · rw [if_pos ⟨⟨⟨by show acc.size < l.length + 1; omega, h2⟩, hh.1⟩, hh.2⟩]
      obtain ⟨k1, k2⟩ := hit1.mp hh
      have ih := occ_count (l := l) m (lo + 1) (acc.push lo) (lo + 1) (by omega) (Nat.le_refl _) (by rw [Array.size_push]; omega)
      have hd : (l.drop lo).count 49 = 1 + (l.drop (lo + 1)).count 49 := by
        rw [List.drop_eq_getElem_cons k1, List.count_cons]
        have : l[lo] = 49 := by
          rw [List.getD_eq_getElem?_getD, List.getElem?_eq_getElem k1] at k2
          exact k2
        rw [this]
        show _ + 1 = _
        omega
      rw [Array.size_push] at ih
      have e : (forIn (List.range' (lo + 1) m) (acc.push lo, lo + (tx [49]).length) (PySem.StrLaws.occBody (tx l) (tx [49]) l.length (l.length + 1))).run.fst.size = acc.size + 1 + (l.drop (lo + 1)).count 49 := ih
      refine Eq.trans e ?_
      rw [hd]
      omega
    · rw [if_neg fun z => hh ⟨z.1.2, z.2⟩]
      have ih := occ_count (l := l) m (lo + 1) acc free (by omega) (by omega) (by omega)
      refine Eq.trans ih ?_
      congr 1
      by_cases k1 : lo < l.length
      · rw [List.drop_eq_getElem_cons k1, List.count_cons]
        have : l[lo] ≠ 49 := fun z => hh (hit1.mpr ⟨k1, by rw [List.getD_eq_getElem?_getD, List.getElem?_eq_getElem k1]; exact z⟩)
        rw [if_neg (by simpa using this)]
        rfl
      · rw [List.drop_of_length_le (show l.length ≤ lo + 1 by omega), List.drop_of_length_le (show l.length ≤ lo by omega)]
theorem count_tx (l : List Nat) : Txt.count (tx l) (tx [49]) = ((l.count 49 : Nat) : Int) := by
  unfold Txt.count
  rw [tx_len, PySem.StrLaws.occ_eq]
  have := occ_count (l := l) (l.length + 1) 0 #[] 0 (by omega) (Nat.le_refl _) (Nat.le_refl _)
  rw [show l.length + 1 - 0 = l.length + 1 from rfl]
  rw [Array.length_toList, this]
  show (((0 + (l.drop 0).count 49 : Nat)) : Int) = _
  rw [List.drop_zero, Nat.zero_add]
theorem find_next {l : List Nat} {lo p : Nat} (h1 : lo ≤ p) (h2 : p < l.length) (h3 : l.getD p 0 = 49) (h4 : ∀ i, lo ≤ i → i < p → l.getD i 0 ≠ 49) : Txt.find3 (tx l) (tx [49]) (lo : Int) = (p : Int) := by
  unfold Txt.find3
  have e : PySem.fromIndex (tx l).length (lo : Int) = lo := by
    show (max 0 (if (lo : Int) < 0 then _ else (lo : Int))).toNat = lo
    rw [if_neg (by omega)]
    omega
  rw [e, tx_len, occ_first (d := p) h1 (by omega) (hit1.mpr ⟨h2, h3⟩) fun i a b z => h4 i a b (hit1.mp z).2]
theorem sign_eq {l : List Nat} {i : Nat} (h : i < l.length) : atI (tx l).cps.toList (i : Int) = some (l.getD i 0) := by
  refine atI_nat (xs := l) ?_
  rw [List.getD_eq_getElem?_getD, List.getElem?_eq_getElem h]
  rfl
theorem one_eq (c : Nat) : decide (V.str ⟨#[c]⟩ = V.str (tx [49])) = decide (c = 49) := by
  have := tx_eq [c] [49]
  refine Eq.trans this ?_
  exact decide_eq_decide.mpr ⟨fun h => (List.cons.inj h).1, fun h => by rw [h]⟩
theorem at1_ex {l : List Nat} {k : Nat} (h : k < l.count 49) : ∃ p, At1 l k p := by
  obtain ⟨p, _, hp, _⟩ := at1_next (l := l) (lo := 0) (k := 0) (Nat.zero_le _) rfl (by omega)
  have main : ∀ j, j < l.count 49 → ∃ p, At1 l j p := by
    intro j
    induction j with
    | zero => exact fun _ => ⟨p, hp⟩
    | succ j ih =>
      intro hj
      obtain ⟨p', A⟩ := ih (by omega)
      obtain ⟨r, _, B, _⟩ := at1_next (lo := p' + 1) (by have := A.1; omega) (at1_succ A) hj
      exact ⟨r, B⟩
  exact main k h
section
variable {P : Program} {w : World} {K : PySem.W.Frag} {mg : Str → Option Value} {base : Heap}
def sp_is_whole (_ : PySem.W.Frag) : Sp := fun vs H Q _ => ∃ v b, vs = [v] ∧ ((∃ i, v = .int i ∧ b = true) ∨ ((∃ c, v = .bl c) ∧ b = false)) ∧ Q (.bl b) H
theorem ok_is_whole {f : Addr} {fd : FuncData} (F : Fun K "is_whole" "is_whole" s_is_whole f fd) (m_bool : mg "bool" = none) (m_int : mg "int" = none) (m_isinstance : mg "isinstance" = none) : FnOk P w K mg base CX0 1 f fd ["thing"] (sp_is_whole K) := by
  refine F.ok sc_is_whole (fun vs H Q E h => ?_) (fun cdv A outer s H vs Q E hr h => ?_)
  · obtain ⟨_, _, rfl, _⟩ := h
    rfl
  · obtain ⟨v, b, rfl, hv, q⟩ := h
    refine ⟨_, (pss_one (ps_ret (pe_and (pe_callB call_isi (by rfl) m_isinstance (by decide +kernel) (pa_cons (pv 0) (pa_cons (pe_bltn (v := .ty "int") (by rfl) m_int (by decide +kernel) rfl) pa_nil))) (pe_one (pe_not (pe_callB call_isi (by rfl) m_isinstance (by decide +kernel) (pa_cons (pv 0) (pa_cons (pe_bltn (v := .ty "bool") (by rfl) m_bool (by decide +kernel) rfl) pa_nil)))))))), ?_⟩
    rcases hv with ⟨i, rfl, rfl⟩ | ⟨⟨c, rfl⟩, rfl⟩
    · exact ⟨_, rfl, _, .ty "int", .type "int", .type "int", true, rfl, .ty "int", .base (.int _), kit_ty (by decide +kernel), true, rfl, iteT ⟨_, rfl, _, .ty "bool", .type "int", .type "bool", false, rfl, .ty "bool", .base (.int _), kit_ty (by decide +kernel), false, rfl, q⟩⟩
    · exact ⟨_, rfl, _, .ty "int", .type "bool", .type "int", true, rfl, .ty "int", .base (.bl _), kit_ty (by decide +kernel), true, rfl, iteT ⟨_, rfl, _, .ty "bool", .type "bool", .type "bool", true, rfl, .ty "bool", .base (.bl _), kit_ty (by decide +kernel), true, rfl, q⟩⟩
def sp_check_place (_ : PySem.W.Frag) : Sp := fun vs H Q _ => ∃ k : Nat, vs = [nV k] ∧ Q .non H
theorem ok_check_place {f : Addr} {fd : FuncData} (F : Fun K "_check_place" "_check_place" s_check_place f fd) {f_is_whole : Addr} {fd_is_whole : FuncData} (c_is_whole : Cal P w K mg base CX0 1 f_is_whole fd_is_whole "is_whole" ["thing"] (sp_is_whole K)) : FnOk P w K mg base CX0 2 f fd ["k"] (sp_check_place K) := by
  refine F.ok sc_check_place (fun vs H Q E h => ?_) (fun cdv A outer s H vs Q E hr h => ?_)
  · obtain ⟨_, rfl, _⟩ := h
    rfl
  · obtain ⟨k, rfl, q⟩ := h
    refine ⟨_, (pss_one (ps_if (PW.pt (pw_or (pt_not (pt_val (pe_call c_is_whole.G (hr.mono (by decide)) (by rfl) c_is_whole.g c_is_whole.kp c_is_whole.b .nil pass0 (pa_cons (pv 0) pa_nil)))) (pw_or1 (pt_cmpR op_lt (pv 0) pe_int (nomark _)))))
        (pss_one ps_never)
        pss_nil)), ?_⟩
    refine ⟨_, rfl, _, true, rfl, .inl ⟨_, rfl, rfl⟩, true, rfl, iteF ?_⟩
    refine ⟨_, rfl, _, _, rfl, rfl, _, rfl, ?_⟩
    rw [decide_eq_false (show ¬ (k : Int) < 0 by omega)]
    exact iteF q
def sp_letter (_ : PySem.W.Frag) : Sp := fun vs H Q _ => ∃ (b : Addr) (x y : List Nat) (k : Nat), vs = [.ref b, nV k] ∧ WordAt H b x y ∧ Q (.bl (decide (row x y k = 49))) H
theorem ok_letter {f : Addr} {fd : FuncData} (F : Fun K "letter" "letter" s_letter f fd) (m_len : mg "len" = none) {f_check_word : Addr} {fd_check_word : FuncData} (c_check_word : Cal P w K mg base (L2.CX P w) 3 f_check_word fd_check_word "_check_word" ["word"] (sp_check_word K)) {f_check_place : Addr} {fd_check_place : FuncData} (c_check_place : Cal P w K mg base CX0 2 f_check_place fd_check_place "_check_place" ["k"] (sp_check_place K)) : FnOk P w K mg base CX0 4 f fd ["word", "k"] (sp_letter K) := by
  refine F.ok sc_letter (fun vs H Q E h => ?_) (fun cdv A outer s H vs Q E hr h => ?_)
  · obtain ⟨_, _, _, _, rfl, _⟩ := h
    rfl
  · obtain ⟨b, x, y, k, rfl, hw, q⟩ := h
    have hw2 := hw
    obtain ⟨hb, k2, k3, k4, k5, k6⟩ := hw2
    have hz := szl
    have hlx := tx_len x
    have hly := tx_len y
    refine ⟨_, (pss_cons (ps_expr (pe_call c_check_word.G (hr.mono (by decide)) (by rfl) c_check_word.g c_check_word.kp c_check_word.b .nil passL (pa_cons (pv 0) pa_nil)))
      (pss_cons (ps_expr (pe_call c_check_place.G (hr.mono (by decide)) (by rfl) c_check_place.g c_check_place.kp c_check_place.b .nil pass0 (pa_cons (pv 1) pa_nil)))
      (pss_cons (ps_asg (pv 0) (pg_tup (by rfl) (pgs_cons (pg_name (i := 2) sc_letter.nd rfl (Or.inl rfl)) (pgs_cons (pg_name (i := 3) sc_letter.nd rfl (Or.inl rfl)) pgs_nil))))
      (pss_cons (ps_if (pt_cmpR op_lt (pv 1) (pe_callB call_len_str (by rfl) m_len PySem.boot_len (pa_cons (pv 2) pa_nil)) (nomark _))
        (pss_one (ps_ret (pe_cmpR op_eq (pe_ix ix_str (pv 2) (pv 1) (fun _ _ => rfl)) pe_str (nomark _))))
        pss_nil)
      (pss_one (ps_ret (pe_cmpR op_eq (pe_ix ix_str (pv 3) (pe_op op_mod (pe_op op_sub (pv 1) (pe_callB call_len_str (by rfl) m_len PySem.boot_len (pa_cons (pv 2) pa_nil))) (pe_callB call_len_str (by rfl) m_len PySem.boot_len (pa_cons (pv 3) pa_nil))) (fun _ _ => rfl)) pe_str (nomark _)))))))), ?_⟩
    refine ⟨_, rfl, .ref b, rfl, .inl ⟨b, x, y, rfl, hw, _, rfl, k, rfl, _, rfl, b, _, rfl, SqT.of hb, rfl, _, _, rfl, _, _, rfl, rfl, ?_⟩⟩
    refine ⟨_, rfl, _, rfl, tx x, rfl, by omega, _, _, rfl, rfl, _, rfl, ite2 (fun e => ?_) (fun e => ?_)⟩
    · have hk : k < x.length := by
        have := of_decide_eq_true e
        omega
      refine ⟨_, rfl, _, rfl, tx x, (k : Int), x.getD k 0, rfl, rfl, by omega, sign_eq hk, rfl, ?_⟩
      rw [row_head hk] at q
      show Q (.bl (decide (V.str ⟨#[x.getD k 0]⟩ = V.str (tx [49])))) H
      rw [one_eq]
      exact q
    · have hk : x.length ≤ k := by
        have := of_decide_eq_false (Bool.eq_false_iff.mpr e)
        omega
      have hm := Nat.mod_lt (k - x.length) (show 0 < y.length by omega)
      refine ⟨_, rfl, _, rfl, _, rfl, tx x, rfl, by omega, _, _, rfl, rfl, _, rfl, tx y, rfl, by omega, _, _, rfl, rfl, ?_, tx y, (((k - x.length) % y.length : Nat) : Int), y.getD ((k - x.length) % y.length) 0, rfl, ?_, by omega, sign_eq hm, rfl, ?_⟩
      · show (0 : Int) < ((tx y).length : Int)
        omega
      · show V.int (((k : Int) - ((tx x).length : Int)) % ((tx y).length : Int)) = _
        rw [hlx, hly, show ((k : Int) - (x.length : Int)) = ((k - x.length : Nat) : Int) by omega]
        rfl
      · rw [row_again hk] at q
        show Q (.bl (decide (V.str ⟨#[y.getD ((k - x.length) % y.length) 0]⟩ = V.str (tx [49])))) H
        rw [one_eq]
        exact q
def sp_place_in (_ : PySem.W.Frag) : Sp := fun vs H Q _ => ∃ (l : List Nat) (k : Nat), vs = [.str (tx l), nV k] ∧ l.length ≤ 20000 ∧ k < l.count 49 ∧ ∀ p, At1 l k p → Q (nV p) H
theorem ok_place_in {f : Addr} {fd : FuncData} (F : Fun K "_place_in" "_place_in" s_place_in f fd) (m_range : mg "range" = none) : FnOk P w K mg base CX0 1 f fd ["text", "k"] (sp_place_in K) := by
  refine F.ok sc_place_in (fun vs H Q E h => ?_) (fun cdv A outer s H vs Q E hr h => ?_)
  · obtain ⟨_, _, rfl, _⟩ := h
    rfl
  · obtain ⟨l, k, rfl, h1, h2, q⟩ := h
    have hc : l.count 49 ≤ l.length := List.count_le_length
    refine ⟨_, (pss_cons (ps_set (i := 2) sc_place_in.nd rfl (Or.inl rfl) (pe_un un_neg pe_int))
      (pss_cons (ps_for PassesOwn.never rfl (pi_range1 (by rfl) m_range (pa_cons (pe_op op_add (pv 1) pe_int) pa_nil)) (pg_name (i := 3) sc_place_in.nd rfl (Or.inl rfl))
        (pss_one (ps_set (i := 2) sc_place_in.nd rfl (Or.inl rfl) (pe_bm PySem.F.plainAttrs_str PySem.F.slot_str_find PySem.F.type_str_find mt_find3 (pv 0) (pa_cons pe_str (pa_cons (pe_op op_add (pv 2) pe_int) pa_nil))))))
      (pss_one (ps_ret (pv 2))))), ?_⟩
    refine ⟨1, rfl, ?_⟩
    refine ⟨_, rfl, _, _, rfl, rfl, _, rfl, ?_, ?_, ?_⟩
    · show -(2 ^ 62) ≤ ((k : Int) + 1)
      omega
    · show ((k : Int) + 1) < 2 ^ 62
      omega
    have en : ((k : Int) + 1).toNat = k + 1 := by omega
    show _
    rw [en]
    refine for_range (n := k + 1) (fun i σ H' => H' = H ∧ ∃ (lo : Nat) (y : Option V), σ = [some (.str (tx l)), some (nV k), some (.int ((lo : Int) - 1)), y] ∧ lo ≤ l.length ∧ (l.take lo).count 49 = i ∧ (0 < i → At1 l (i - 1) (lo - 1) ∧ 0 < lo))
      ⟨rfl, 0, none, rfl, Nat.zero_le _, rfl, fun z => by omega⟩ (fun i σ H' hi hP => ?_) (fun σ H' hP => ?_)
    · obtain ⟨rfl, lo, y, rfl, g1, g2, g3⟩ := hP
      obtain ⟨p, p1, p2, p3⟩ := at1_next g1 g2 (show i < l.count 49 by omega)
      refine ⟨_, rfl, rfl, _, rfl, _, _, rfl, rfl, tx l, "1", _, rfl, rfl, rfl, p + 1, some (.int ((0 : Int) + (i : Int))), ?_, p2.1, at1_succ p2, fun _ => ⟨?_, by omega⟩⟩
      · show [_, _, some (V.int (Txt.find3 (tx l) (tx [49]) (((lo : Int) - 1) + 1))), some (V.int ((0 : Int) + (i : Int)))] = [_, _, some (V.int (((p + 1 : Nat) : Int) - 1)), some (V.int ((0 : Int) + (i : Int)))]
        rw [show (((lo : Int) - 1) + 1) = (lo : Int) by omega, find_next p1 p2.1 p2.2.1 p3, show (((p + 1 : Nat) : Int) - 1) = (p : Int) by omega]
      · rw [show i + 1 - 1 = i by omega, show p + 1 - 1 = p by omega]
        exact p2
    · obtain ⟨rfl, lo, y, rfl, g1, g2, g3⟩ := hP
      obtain ⟨g4, g5⟩ := g3 (by omega)
      refine ⟨_, rfl, ?_⟩
      show Q (.int ((lo : Int) - 1)) H'
      rw [show ((lo : Int) - 1) = ((lo - 1 : Nat) : Int) by omega]
      rw [show k + 1 - 1 = k by omega] at g4
      exact q _ g4
def sp_place_of (_ : PySem.W.Frag) : Sp := fun vs H Q _ => ∃ (b : Addr) (x y : List Nat) (k p : Nat), vs = [.ref b, nV k] ∧ WordAt H b x y ∧ Place (row x y) k p ∧ ∀ H', Same H H' → Q (nV p) H'
theorem ok_place_of {f : Addr} {fd : FuncData} (F : Fun K "place_of" "place_of" s_place_of f fd) (m_divmod : mg "divmod" = none) (m_len : mg "len" = none) {f_check_word : Addr} {fd_check_word : FuncData} (c_check_word : Cal P w K mg base (L2.CX P w) 3 f_check_word fd_check_word "_check_word" ["word"] (sp_check_word K)) {f_check_place : Addr} {fd_check_place : FuncData} (c_check_place : Cal P w K mg base CX0 2 f_check_place fd_check_place "_check_place" ["k"] (sp_check_place K)) {f_place_in : Addr} {fd_place_in : FuncData} (c_place_in : Cal P w K mg base CX0 1 f_place_in fd_place_in "_place_in" ["text", "k"] (sp_place_in K)) : FnOk P w K mg base CX0 4 f fd ["word", "k"] (sp_place_of K) := by
  refine F.ok sc_place_of (fun vs H Q E h => ?_) (fun cdv A outer s H vs Q E hr h => ?_)
  · obtain ⟨_, _, _, _, _, rfl, _⟩ := h
    rfl
  · obtain ⟨b, x, y, k, p0, rfl, hw, hp0, q⟩ := h
    have hw2 := hw
    obtain ⟨hb, k2, k3, k4, k5, k6⟩ := hw2
    have hz := szl
    have hlx := tx_len x
    have hly := tx_len y
    refine ⟨_, (pss_cons (ps_expr (pe_call c_check_word.G (hr.mono (by decide)) (by rfl) c_check_word.g c_check_word.kp c_check_word.b .nil passL (pa_cons (pv 0) pa_nil)))
      (pss_cons (ps_expr (pe_call c_check_place.G (hr.mono (by decide)) (by rfl) c_check_place.g c_check_place.kp c_check_place.b .nil pass0 (pa_cons (pv 1) pa_nil)))
      (pss_cons (ps_asg (pv 0) (pg_tup (by rfl) (pgs_cons (pg_name (i := 2) sc_place_of.nd rfl (Or.inl rfl)) (pgs_cons (pg_name (i := 3) sc_place_of.nd rfl (Or.inl rfl)) pgs_nil))))
      (pss_cons (ps_set (i := 4) sc_place_of.nd rfl (Or.inl rfl) (pe_bm PySem.F.plainAttrs_str PySem.F.slot_str_count PySem.F.type_str_count mt_count (pv 2) (pa_cons pe_str pa_nil)))
      (pss_cons (ps_if (pt_cmpR op_lt (pv 1) (pv 4) (nomark _))
        (pss_one (ps_ret (pe_call c_place_in.G (hr.mono (by decide)) (by rfl) c_place_in.g c_place_in.kp c_place_in.b .nil pass0 (pa_cons (pv 2) (pa_cons (pv 1) pa_nil)))))
        pss_nil)
      (pss_cons (ps_set (i := 5) sc_place_of.nd rfl (Or.inl rfl) (pe_bm PySem.F.plainAttrs_str PySem.F.slot_str_count PySem.F.type_str_count mt_count (pv 3) (pa_cons pe_str pa_nil)))
      (pss_cons (ps_if (pt_cmpR op_eq (pv 5) pe_int (nomark _))
        (pss_one ps_never)
        pss_nil)
      (pss_cons (ps_asg (pe_callB call_divmod (by rfl) m_divmod (by decide +kernel) (pa_cons (pe_op op_sub (pv 1) (pv 4)) (pa_cons (pv 5) pa_nil))) (pg_tup (by rfl) (pgs_cons (pg_name (i := 6) sc_place_of.nd rfl (Or.inl rfl)) (pgs_cons (pg_name (i := 7) sc_place_of.nd rfl (Or.inl rfl)) pgs_nil))))
      (pss_one (ps_ret (pe_op op_add (pe_op op_add (pe_callB call_len_str (by rfl) m_len PySem.boot_len (pa_cons (pv 2) pa_nil)) (pe_op op_mul (pv 6) (pe_callB call_len_str (by rfl) m_len PySem.boot_len (pa_cons (pv 3) pa_nil)))) (pe_call c_place_in.G (hr.mono (by decide)) (by rfl) c_place_in.g c_place_in.kp c_place_in.b .nil pass0 (pa_cons (pv 3) (pa_cons (pv 7) pa_nil)))))))))))))), ?_⟩
    refine ⟨_, rfl, .ref b, rfl, .inl ⟨b, x, y, rfl, hw, _, rfl, k, rfl, _, rfl, b, _, rfl, SqT.of hb, rfl, _, _, rfl, _, _, rfl, rfl, ?_⟩⟩
    have hcx : x.count 49 ≤ x.length := List.count_le_length
    have hcy : y.count 49 ≤ y.length := List.count_le_length
    refine ⟨_, rfl, rfl, tx x, "1", rfl, rfl, ?_⟩
    have ec := count_tx x
    refine ⟨_, rfl, _, rfl, _, _, rfl, rfl, _, rfl, ite2 (fun e => ?_) (fun e => ?_)⟩
    · have hk : k < x.count 49 := by
        have h1 : ((k : Int) < Txt.count (tx x) (tx [49])) := of_decide_eq_true e
        rw [ec] at h1
        omega
      refine ⟨_, rfl, _, rfl, x, k, rfl, k4, hk, fun p A => ?_⟩
      have hp := place_head (a := y) A
      rw [place_uniq hp.1 hp0.1 (hp.2.trans hp0.2.symm)]
      exact q H (Same.refl H)
    · have hk : x.count 49 ≤ k := by
        have h1 : ¬ ((k : Int) < Txt.count (tx x) (tx [49])) := of_decide_eq_false (Bool.eq_false_iff.mpr e)
        rw [ec] at h1
        omega
      have ey := count_tx y
      refine ⟨_, rfl, rfl, tx y, "1", rfl, rfl, _, rfl, rfl, _, rfl, ite2 (fun e => ?_) (fun e => ?_)⟩
      · have h0 : y.count 49 = 0 := by
          have h1 : V.int (Txt.count (tx y) (tx [49])) = V.int 0 := of_decide_eq_true e
          rw [ey] at h1
          have := V.int.inj h1
          omega
        exact absurd hp0 (no_place (by omega) h0 hk)
      · have h0 : 0 < y.count 49 := by
          by_cases hh : y.count 49 = 0
          · refine absurd (decide_eq_true ?_) e
            show V.int (Txt.count (tx y) (tx [49])) = V.int 0
            rw [ey, hh]
            rfl
          · omega
        have hm := Nat.mod_lt (k - x.count 49) h0
        refine ⟨_, rfl, _, rfl, _, _, rfl, rfl, _, rfl, _, _, rfl, ⟨?_, ?_⟩, fun t nt => ?_⟩
        · show (0 : Int) < Txt.count (tx y) (tx [49])
          rw [ey]
          omega
        · show Txt.count (tx y) (tx [49]) < 1073741824
          rw [ey]
          omega
        refine ⟨t, _, rfl, SqT.of upd_same, rfl, _, _, rfl, _, _, rfl, rfl, ?_⟩
        have e1 : ((k : Int) - Txt.count (tx x) (tx [49])) % Txt.count (tx y) (tx [49]) = (((k - x.count 49) % y.count 49 : Nat) : Int) := by
          rw [ec, ey, show ((k : Int) - ((x.count 49 : Nat) : Int)) = ((k - x.count 49 : Nat) : Int) by omega]
          rfl
        have e2 : ((k : Int) - Txt.count (tx x) (tx [49])) / Txt.count (tx y) (tx [49]) = (((k - x.count 49) / y.count 49 : Nat) : Int) := by
          rw [ec, ey, show ((k : Int) - ((x.count 49 : Nat) : Int)) = ((k - x.count 49 : Nat) : Int) by omega]
          rfl
        refine ⟨_, rfl, tx x, rfl, by omega, _, rfl, _, rfl, tx y, rfl, by omega, _, _, rfl, rfl, .inr ?_, _, _, rfl, rfl, _, rfl, _, rfl, y, (k - x.count 49) % y.count 49, ?_, k6, hm, fun p A => ?_⟩
        · show -(2 ^ 64) < ((tx y).length : Int) ∧ ((tx y).length : Int) < 2 ^ 64
          omega
        · show [V.str (tx y), V.int (((k : Int) - Txt.count (tx x) (tx [49])) % Txt.count (tx y) (tx [49]))] = _
          rw [e1]
          rfl
        · refine ⟨_, _, rfl, rfl, ?_⟩
          show Q (.int (((tx x).length : Int) + (((k : Int) - Txt.count (tx x) (tx [49])) / Txt.count (tx y) (tx [49])) * ((tx y).length : Int) + (p : Int))) _
          have hp := place_again (h := x) (q := (k - x.count 49) / y.count 49) (show 0 < y.length by omega) A
          have hdm := Nat.div_add_mod (k - x.count 49) (y.count 49)
          rw [show x.count 49 + (k - x.count 49) / y.count 49 * y.count 49 + (k - x.count 49) % y.count 49 = k by rw [Nat.mul_comm]; omega] at hp
          have ev : ((tx x).length : Int) + (((k : Int) - Txt.count (tx x) (tx [49])) / Txt.count (tx y) (tx [49])) * ((tx y).length : Int) + (p : Int) = ((x.length + (k - x.count 49) / y.count 49 * y.length + p : Nat) : Int) := by
            rw [e2, hlx, hly, ← Int.natCast_mul, ← Int.natCast_add, ← Int.natCast_add]
          rw [ev, place_uniq hp.1 hp0.1 (hp.2.trans hp0.2.symm)]
          exact q _ (same_upd nt)
end
end WK
namespace WK
open PySem PySem.Spec PyProof.Rows L2
abbrev s_first_signs : Stmt := topS 47
theorem sc_first_signs : FnScope ["word", "many", "head", "again", "rounds"] ["word", "many"] (defScope s_first_signs) := ⟨rfl, rfl, rfl, by decide +kernel, rfl, by decide +kernel, by decide +kernel⟩
abbrev s_on_lengths : Stmt := topS 48
theorem sc_on_lengths : FnScope ["one", "other", "head", "again", "each", "long", "rounds"] ["one", "other"] (defScope s_on_lengths) := ⟨rfl, rfl, rfl, by decide +kernel, rfl, by decide +kernel, by decide +kernel⟩
theorem OnLen.of_place {x1 y1 x2 y2 : List Nat} {p : Nat} (h : 0 < y1.count 49) (h2 : 0 < x2.length) (hp : Place (row x1 y1) (x2.length - 1) p) :
    OnLen x1 y1 x2 y2 (max x1.length (p + 1)) (y2.length / Nat.gcd y2.length (y1.count 49) * y1.length) := by
  have c : cnt (row x1 y1) (p + 1) = x2.length := by
    show cnt (row x1 y1) p + _ = _
    rw [hp.2, if_pos hp.1]
    omega
  refine ⟨by omega, fun z => by omega, fun _ => ?_, fun _ m h1 h3 => ?_, fun _ => rfl⟩
  · rw [← c]
    exact cnt_le (by omega)
  · by_cases hm : p < m
    · omega
    · have := cnt_le (R := row x1 y1) (show m ≤ p by omega)
      rw [hp.2] at this
      omega
theorem OnLen.of_none {x1 y1 x2 y2 : List Nat} (h : 0 < y1.count 49) (h2 : x2.length = 0) : OnLen x1 y1 x2 y2 x1.length (y2.length / Nat.gcd y2.length (y1.count 49) * y1.length) :=
  ⟨by omega, fun z => by omega, fun _ => by omega, fun _ m h1 h3 => h1, fun _ => rfl⟩
theorem place_exR {x y : List Nat} (hy : 0 < y.length) (h : 0 < y.count 49) (k : Nat) : ∃ p, Place (row x y) k p := by
  by_cases hk : k < x.count 49
  · obtain ⟨p, A⟩ := at1_ex hk
    exact ⟨p, place_head A⟩
  · have hm := Nat.mod_lt (k - x.count 49) h
    have hd := Nat.div_add_mod (k - x.count 49) (y.count 49)
    obtain ⟨p, A⟩ := at1_ex hm
    have := place_again (h := x) (q := (k - x.count 49) / y.count 49) hy A
    rw [show x.count 49 + (k - x.count 49) / y.count 49 * y.count 49 + (k - x.count 49) % y.count 49 = k by rw [Nat.mul_comm]; omega] at this
    exact ⟨_, this⟩
theorem first_txt {x y : List Nat} (hy : 0 < y.length) {many n : Nat} (h : many ≤ x.length + n * y.length) : Txt (row x y) many ((x ++ rep y n).take many) := by
  have hl : (x ++ rep y n).length = x.length + n * y.length := by rw [List.length_append, rep_len]
  refine ⟨by rw [List.length_take]; omega, fun i hi => ?_⟩
  rw [getD_take hi, getD_app]
  by_cases h1 : i < x.length
  · rw [if_pos h1, row_head h1]
  · rw [if_neg h1, row_again (by omega)]
    exact rep_get hy n _ (by omega)
section
variable {P : Program} {w : World} {K : PySem.W.Frag} {mg : Str → Option Value} {base : Heap}
def sp_first_signs (_ : PySem.W.Frag) : Sp := fun vs H Q _ => ∃ (b : Addr) (x y : List Nat) (many : Nat), vs = [.ref b, nV many] ∧ WordAt H b x y ∧ many ≤ 40000 ∧ ∀ t, WK.Txt (row x y) many t → Q (.str (tx t)) H
theorem ok_first_signs {f : Addr} {fd : FuncData} (F : Fun K "first_signs" "first_signs" s_first_signs f fd) (m_len : mg "len" = none) (m_max : mg "max" = none) : FnOk P w K mg base CX0 1 f fd ["word", "many"] (sp_first_signs K) := by
  refine F.ok sc_first_signs (fun vs H Q E h => ?_) (fun cdv A outer s H vs Q E hr h => ?_)
  · obtain ⟨_, _, _, _, rfl, _⟩ := h
    rfl
  · obtain ⟨b, x, y, many, rfl, hw, hm, q⟩ := h
    obtain ⟨hb, k2, k3, k4, k5, k6⟩ := hw
    have hz := szl
    have hlx := tx_len x
    have hly := tx_len y
    refine ⟨_, (pss_cons (ps_asg (pv 0) (pg_tup (by rfl) (pgs_cons (pg_name (i := 2) sc_first_signs.nd rfl (Or.inl rfl)) (pgs_cons (pg_name (i := 3) sc_first_signs.nd rfl (Or.inl rfl)) pgs_nil))))
      (pss_cons (ps_set (i := 4) sc_first_signs.nd rfl (Or.inl rfl) (pe_op op_add (pe_op op_fdiv (pe_callB (call_max2 rfl) (by rfl) m_max (by decide +kernel) (pa_cons pe_int (pa_cons (pe_op op_sub (pv 1) (pe_callB call_len_str (by rfl) m_len PySem.boot_len (pa_cons (pv 2) pa_nil))) pa_nil))) (pe_callB call_len_str (by rfl) m_len PySem.boot_len (pa_cons (pv 3) pa_nil))) pe_int))
      (pss_one (ps_ret (pe_slice sl_str (pe_op op_add_str (pv 2) (pe_op op_mul_str (pv 3) (pv 4))) po_none (po_some (pv 1))))))), ?_⟩
    refine ⟨_, rfl, b, _, rfl, SqT.of hb, rfl, _, _, rfl, _, _, rfl, rfl, ?_⟩
    obtain ⟨r, er, r1, r2⟩ : ∃ r : Nat, (if ((many : Int) - (x.length : Int)) > 0 then ((many : Int) - (x.length : Int)) else 0) / (y.length : Int) + 1 = (r : Int) ∧ many ≤ x.length + r * y.length ∧ y.length * r ≤ many + y.length := by
      have hd := Nat.div_add_mod (many - x.length) y.length
      have hl := Nat.mod_lt (many - x.length) k5
      refine ⟨(many - x.length) / y.length + 1, ?_, ?_, ?_⟩
      · rw [show (if ((many : Int) - (x.length : Int)) > 0 then ((many : Int) - (x.length : Int)) else 0) = ((many - x.length : Nat) : Int) by split <;> omega]
        rfl
      · rw [Nat.succ_mul, Nat.mul_comm]; omega
      · rw [Nat.mul_succ]; omega
    have r3 : r ≤ 60000 := by
      have := Nat.mul_le_mul_right r k5
      omega
    refine ⟨_, rfl, _, rfl, tx x, rfl, by omega, _, _, rfl, rfl, _, _, rfl, _, rfl, tx y, rfl, by omega, _, _, rfl, rfl, ⟨?_, ?_⟩, _, _, rfl, rfl, ?_⟩
    · show (0 : Int) < ((tx y).length : Int)
      omega
    · show ((tx y).length : Int) < 1073741824
      omega
    have r4 : r * y.length ≤ many + y.length := by rw [Nat.mul_comm]; exact r2
    have hrl : (tx (rep y r)).length = r * y.length := by rw [tx_len, rep_len]
    refine ⟨_, rfl, _, rfl, _, rfl, y, r, rfl, ?_, by omega, by omega, _, _, rfl, rfl, by omega, _, rfl, _, rfl, tx (x ++ rep y r), ?_, ?_, ?_⟩
    · show V.int ((if ((many : Int) - ((tx x).length : Int)) > 0 then ((many : Int) - ((tx x).length : Int)) else 0) / ((tx y).length : Int) + 1) = V.int (r : Int)
      rw [hlx, hly, er]
    · rw [← tx_add]
    · rw [tx_len, List.length_append, rep_len]
      omega
    · show Q (.str (cutS (tx (x ++ rep y r)) none (some (many : Int)))) H
      rw [cut_0n]
      exact q _ (first_txt k5 r1)
def sp_on_lengths (_ : PySem.W.Frag) : Sp := fun vs H Q _ => ∃ (b1 b2 : Addr) (x1 y1 x2 y2 : List Nat), vs = [.ref b1, .ref b2] ∧ WordAt H b1 x1 y1 ∧ WordAt H b2 x2 y2 ∧
  ∀ (L A : Nat) (p : Addr) (H' : Hp), Same H H' → H' p = some (.tup [nV L, nV A]) → OnLen x1 y1 x2 y2 L A → Q (.ref p) H'
theorem ok_on_lengths {f : Addr} {fd : FuncData} (F : Fun K "_on_lengths" "_on_lengths" s_on_lengths f fd) (m_len : mg "len" = none) (m_max : mg "max" = none) {f_place_of : Addr} {fd_place_of : FuncData} (c_place_of : Cal P w K mg base CX0 4 f_place_of fd_place_of "place_of" ["word", "k"] (sp_place_of K)) (b_gcd : mg "gcd" = some (.builtin "math.gcd")) : FnOk P w K mg base CX0 5 f fd ["one", "other"] (sp_on_lengths K) := by
  refine F.ok sc_on_lengths (fun vs H Q E h => ?_) (fun cdv A outer s H vs Q E hr h => ?_)
  · obtain ⟨_, _, _, _, _, _, rfl, _⟩ := h
    rfl
  · obtain ⟨b1, b2, x1, y1, x2, y2, rfl, hw, hw2, q⟩ := h
    obtain ⟨hb, k2, k3, k4, k5, k6⟩ := id hw
    obtain ⟨hb2, j2, j3, j4, j5, j6⟩ := id hw2
    have hz := szl
    have hlx := tx_len x1
    have hly := tx_len y1
    have hlx2 := tx_len x2
    have hly2 := tx_len y2
    have ec := count_tx y1
    have hcy : y1.count 49 ≤ y1.length := List.count_le_length
    refine ⟨_, (pss_cons (ps_asg (pv 0) (pg_tup (by rfl) (pgs_cons (pg_name (i := 2) sc_on_lengths.nd rfl (Or.inl rfl)) (pgs_cons (pg_name (i := 3) sc_on_lengths.nd rfl (Or.inl rfl)) pgs_nil))))
      (pss_cons (ps_set (i := 4) sc_on_lengths.nd rfl (Or.inl rfl) (pe_bm PySem.F.plainAttrs_str PySem.F.slot_str_count PySem.F.type_str_count mt_count (pv 3) (pa_cons pe_str pa_nil)))
      (pss_cons (ps_if (pt_cmpR op_eq (pv 4) pe_int (nomark _))
        (pss_one (ps_ret (pe_tup (pa_cons (pe_callB call_len_str (by rfl) m_len PySem.boot_len (pa_cons (pv 2) pa_nil)) (pa_cons (pe_callB call_len_str (by rfl) m_len PySem.boot_len (pa_cons (pv 3) pa_nil)) pa_nil)))))
        pss_nil)
      (pss_cons (ps_set (i := 5) sc_on_lengths.nd rfl (Or.inl rfl) (pe_callB call_len_str (by rfl) m_len PySem.boot_len (pa_cons (pv 2) pa_nil)))
      (C8.pss_cut (ps_if (pt_truth (pe_ix ix_tup (pv 1) pe_int (fun _ _ => rfl)) (by intro _; rfl))
        (pss_one (ps_set (i := 5) sc_on_lengths.nd rfl (Or.inl rfl) (pe_callB (call_max2 rfl) (by rfl) m_max (by decide +kernel) (pa_cons (pv 5) (pa_cons (pe_op op_add (pe_call c_place_of.G (hr.mono (by decide)) (by rfl) c_place_of.g c_place_of.kp c_place_of.b .nil pass0 (pa_cons (pv 0) (pa_cons (pe_op op_sub (pe_callB call_len_str (by rfl) m_len PySem.boot_len (pa_cons (pe_ix ix_tup (pv 1) pe_int (fun _ _ => rfl)) pa_nil)) pe_int) pa_nil))) pe_int) pa_nil)))))
        pss_nil)
      (pss_cons (ps_set (i := 6) sc_on_lengths.nd rfl (Or.inl rfl) (pe_op op_fdiv (pe_callB call_len_str (by rfl) m_len PySem.boot_len (pa_cons (pe_ix ix_tup (pv 1) pe_int (fun _ _ => rfl)) pa_nil)) (pe_callBfun cr_gcd (by rfl) b_gcd (pa_cons (pe_callB call_len_str (by rfl) m_len PySem.boot_len (pa_cons (pe_ix ix_tup (pv 1) pe_int (fun _ _ => rfl)) pa_nil)) (pa_cons (pv 4) pa_nil)))))
      (pss_one (ps_ret (pe_tup (pa_cons (pv 5) (pa_cons (pe_op op_mul (pv 6) (pe_callB call_len_str (by rfl) m_len PySem.boot_len (pa_cons (pv 3) pa_nil))) pa_nil))))))))))), ?_⟩
    refine ⟨_, rfl, b1, _, rfl, SqT.of hb, rfl, _, _, rfl, _, _, rfl, rfl, ?_⟩
    refine ⟨_, rfl, rfl, tx y1, "1", rfl, rfl, _, rfl, rfl, _, rfl, ite2 (fun e => ?_) (fun e => ?_)⟩
    · have h0 : y1.count 49 = 0 := by
        have h1 : V.int (Txt.count (tx y1) (tx [49])) = V.int 0 := of_decide_eq_true e
        rw [ec] at h1
        have := V.int.inj h1
        omega
      refine ⟨_, rfl, tx x1, rfl, by omega, _, rfl, tx y1, rfl, by omega, by show 2 ≤ sizeLine; decide, fun p np => ?_⟩
      refine q x1.length y1.length p _ (same_upd np) ?_ ⟨Nat.le_refl _, fun _ => ⟨rfl, rfl⟩, fun z => by omega, fun z => by omega, fun z => by omega⟩
      rw [hlx, hly]
      exact upd_same
    · have h0 : 0 < y1.count 49 := by
        by_cases hh : y1.count 49 = 0
        · refine absurd (decide_eq_true ?_) e
          show V.int (Txt.count (tx y1) (tx [49])) = V.int 0
          rw [ec, hh]
          rfl
        · omega
      refine ⟨_, rfl, tx x1, rfl, by omega, ?_⟩
      refine ⟨fun σ H' => Same H H' ∧ ∃ L : Nat, σ = [some (.ref b1), some (.ref b2), some (.str (tx x1)), some (.str (tx y1)), some (.int (Txt.count (tx y1) (tx [49]))), some (nV L), none] ∧ OnLen x1 y1 x2 y2 L (y2.length / Nat.gcd y2.length (y1.count 49) * y1.length), ?_, fun σ H' hm => ?_⟩
      · refine ⟨_, rfl, b2, _, 0, _, rfl, rfl, SqT.of hb2, atI_nat (j := 0) rfl, _, ⟨by omega, rfl⟩, ite2 (fun e2 => ?_) (fun e2 => ?_)⟩
        · have h2 : 0 < x2.length := by
            have e2 : (((tx x2).length : Int) != 0) = true := e2
            rw [bne_iff_ne] at e2
            omega
          obtain ⟨p, hp⟩ := place_exR (x := x1) k5 h0 (x2.length - 1)
          refine ⟨_, rfl, _, rfl, _, rfl, b2, _, 0, _, rfl, rfl, SqT.of hb2, atI_nat (j := 0) rfl, tx x2, rfl, by omega, _, _, rfl, rfl, b1, x1, y1, x2.length - 1, p, ?_, hw, hp, fun H1 s1 => ?_⟩
          · show [V.ref b1, V.int (((tx x2).length : Int) - 1)] = [V.ref b1, V.int ((x2.length - 1 : Nat) : Int)]
            rw [show (((tx x2).length : Int) - 1) = ((x2.length - 1 : Nat) : Int) by omega]
          refine ⟨_, _, rfl, rfl, _, _, rfl, s1, max x1.length (p + 1), ?_, OnLen.of_place h0 h2 hp⟩
          show [_, _, _, _, _, some (V.int (if ((p : Int) + 1) > ((tx x1).length : Int) then ((p : Int) + 1) else ((tx x1).length : Int))), none] = [_, _, _, _, _, some (V.int ((max x1.length (p + 1) : Nat) : Int)), none]
          rw [show (if ((p : Int) + 1) > ((tx x1).length : Int) then ((p : Int) + 1) else ((tx x1).length : Int)) = ((max x1.length (p + 1) : Nat) : Int) by split <;> omega]
          rfl
        · have h2 : x2.length = 0 := by
            have e2 : ¬ (((tx x2).length : Int) != 0) = true := e2
            rw [bne_iff_ne] at e2
            omega
          refine ⟨Same.refl _, x1.length, ?_, OnLen.of_none h0 h2⟩
          rw [hlx]
          rfl
      · obtain ⟨s1, L, rfl, ol⟩ := hm
        have hb3 := s1 _ _ hb2
        have hg := Nat.gcd_pos_of_pos_left (y1.count 49) j5
        have hgl := Nat.le_of_dvd j5 (Nat.gcd_dvd_left y2.length (y1.count 49))
        have eg : ((Nat.gcd ((tx y2).length : Int).natAbs (Txt.count (tx y1) (tx [49])).natAbs : Nat) : Int) = ((Nat.gcd y2.length (y1.count 49) : Nat) : Int) := by
          rw [ec, hly2]
          rfl
        refine ⟨_, rfl, b2, _, 1, _, rfl, rfl, SqT.of hb3, atI_nat (j := 1) rfl, tx y2, rfl, by omega, _, rfl, b2, _, 1, _, rfl, rfl, SqT.of hb3, atI_nat (j := 1) rfl, tx y2, rfl, by omega, _, rfl, _, _, rfl, _, _, rfl, rfl, ⟨?_, ?_⟩, ?_⟩
        · show (0 : Int) < ((Nat.gcd ((tx y2).length : Int).natAbs (Txt.count (tx y1) (tx [49])).natAbs : Nat) : Int)
          rw [eg]
          omega
        · show ((Nat.gcd ((tx y2).length : Int).natAbs (Txt.count (tx y1) (tx [49])).natAbs : Nat) : Int) < 1073741824
          rw [eg]
          omega
        refine ⟨_, rfl, _, rfl, _, rfl, tx y1, rfl, by omega, _, _, rfl, rfl, .inr ?_, by show 2 ≤ sizeLine; decide, fun p np => ?_⟩
        · show -(2 ^ 64) < ((tx y1).length : Int) ∧ ((tx y1).length : Int) < 2 ^ 64
          omega
        refine q L _ p _ (s1.trans (same_upd np)) ?_ ol
        rw [upd_same]
        show some (HO.tup [nV L, V.int (((tx y2).length : Int) / ((Nat.gcd ((tx y2).length : Int).natAbs (Txt.count (tx y1) (tx [49])).natAbs : Nat) : Int) * ((tx y1).length : Int))]) = _
        rw [eg, hly, hly2]
        rfl
end
end WK
namespace WK
open PySem PySem.Spec PyProof.Rows L2
abbrev s_laid_on : Stmt := topS 49
theorem sc_laid_on : FnScope ["text", "signs", "gaps", "gap", "sign"] ["text", "signs"] (defScope s_laid_on) := ⟨rfl, rfl, rfl, by decide +kernel, rfl, by decide +kernel, by decide +kernel⟩
def ones49 : List Nat → Nat → List Nat
  | [], _ => []
  | c :: r, k => if c = 49 then k :: ones49 r (k + 1) else ones49 r (k + 1)
theorem occ_ones {l : List Nat} : ∀ (m lo : Nat) (acc : Array Nat) (free : Nat), lo + m = l.length + 1 → free ≤ lo → acc.size ≤ lo →
    (forIn (List.range' lo m) (acc, free) (PySem.StrLaws.occBody (tx l) (tx [49]) l.length (l.length + 1))).run.fst.toList = acc.toList ++ ones49 (l.drop lo) lo
  | 0, lo, acc, free, h1, h2, h3 => by
    rw [List.drop_of_length_le (show l.length ≤ lo by omega)]
    exact (List.append_nil _).symm
  | m + 1, lo, acc, free, h1, h2, h3 => by
    rw [List.range'_succ, List.forIn_cons]
    unfold PySem.StrLaws.occBody
    by_cases hh : Hit (tx l) (tx [49]) l.length lo
    · rw [if_pos ⟨⟨⟨by show acc.size < l.length + 1; omega, h2⟩, hh.1⟩, hh.2⟩]
      obtain ⟨k1, k2⟩ := hit1.mp hh
      have ih := occ_ones (l := l) m (lo + 1) (acc.push lo) (lo + 1) (by omega) (Nat.le_refl _) (by rw [Array.size_push]; omega)
      have hd : ones49 (l.drop lo) lo = lo :: ones49 (l.drop (lo + 1)) (lo + 1) := by
        rw [List.drop_eq_getElem_cons k1]
        have : l[lo] = 49 := by
          rw [List.getD_eq_getElem?_getD, List.getElem?_eq_getElem k1] at k2
          exact k2
        unfold ones49
        rw [if_pos this]
        cases l.drop (lo + 1) <;> rfl
      rw [Array.toList_push] at ih
      have e : (forIn (List.range' (lo + 1) m) (acc.push lo, lo + (tx [49]).length) (PySem.StrLaws.occBody (tx l) (tx [49]) l.length (l.length + 1))).run.fst.toList = acc.toList ++ [lo] ++ ones49 (l.drop (lo + 1)) (lo + 1) := ih
      refine Eq.trans e ?_
      rw [hd, List.append_assoc]
      rfl
    · rw [if_neg fun z => hh ⟨z.1.2, z.2⟩]
      have ih := occ_ones (l := l) m (lo + 1) acc free (by omega) (by omega) (by omega)
      refine Eq.trans ih ?_
      congr 1
      by_cases k1 : lo < l.length
      · rw [List.drop_eq_getElem_cons k1]
        have : l[lo] ≠ 49 := fun z => hh (hit1.mpr ⟨k1, by rw [List.getD_eq_getElem?_getD, List.getElem?_eq_getElem k1]; exact z⟩)
        conv => rhs; unfold ones49
        rw [if_neg this]
      · rw [List.drop_of_length_le (show l.length ≤ lo + 1 by omega), List.drop_of_length_le (show l.length ≤ lo by omega)]
        rfl
def preS (q : List Nat) : List (List Nat) → List (List Nat)
  | [] => [q]
  | g :: gs => (q ++ g) :: gs
theorem sub_tx (p q r : List Nat) : Builtin.Str.strSub (tx (p ++ q ++ r)) p.length (p ++ q).length = tx q := by
  show (⟨(p ++ q ++ r).toArray.extract p.length (p ++ q).length⟩ : Str) = ⟨q.toArray⟩
  congr 1
  simp
theorem parts_tx : ∀ (r p q : List Nat), PySem.StrLaws.partsFrom (tx (p ++ q ++ r)) 1 p.length (ones49 r (p ++ q).length) = (preS q (spl r)).map tx
  | [], p, q => by
    have e : ones49 [] (p ++ q).length = [] := rfl
    have hs := sub_tx p q []
    rw [List.append_nil (p ++ q)] at hs
    rw [e, List.append_nil (p ++ q), PySem.StrLaws.partsFrom.eq_1, tx_len, hs]
    show [tx q] = [tx (q ++ [])]
    rw [List.append_nil]
  | c :: r, p, q => by
    by_cases h : c = 49
    · have e : ones49 (c :: r) (p ++ q).length = (p ++ q).length :: ones49 r ((p ++ q).length + 1) := by
        conv => lhs; unfold ones49
        rw [if_pos h]
      have e2 : spl (c :: r) = [] :: spl r := by
        conv => lhs; unfold spl
        rw [if_pos h]
      rw [e, PySem.StrLaws.partsFrom.eq_2, sub_tx, e2]
      have ih := parts_tx r (p ++ q ++ [c]) []
      rw [List.append_nil, show p ++ q ++ [c] ++ r = p ++ q ++ c :: r by simp, show (p ++ q ++ [c]).length = (p ++ q).length + 1 by simp; omega] at ih
      rw [ih]
      show tx q :: _ = (tx (q ++ [])) :: (spl r).map tx
      rw [List.append_nil]
      congr 2
      cases e3 : spl r with
      | nil => exact absurd e3 (spl_ne r)
      | cons g gs => rfl
    · have e : ones49 (c :: r) (p ++ q).length = ones49 r ((p ++ q).length + 1) := by
        conv => lhs; unfold ones49
        rw [if_neg h]
      rw [e]
      have ih := parts_tx r p (q ++ [c])
      rw [show p ++ (q ++ [c]) ++ r = p ++ q ++ c :: r by simp, show (p ++ (q ++ [c])).length = (p ++ q).length + 1 by simp; omega] at ih
      rw [ih]
      congr 1
      conv => rhs; unfold spl
      rw [if_neg h]
      cases e3 : spl r with
      | nil => exact absurd e3 (spl_ne r)
      | cons g gs =>
        show (q ++ [c] ++ g) :: gs = (q ++ c :: g) :: gs
        rw [List.append_assoc]
        rfl
theorem spl_none {t : List Nat} (h : t.count 49 = 0) : spl t = [t] := by
  induction t with
  | nil => rfl
  | cons c r ih =>
    rw [List.count_cons] at h
    have hc : c ≠ 49 := fun z => by
      rw [z] at h
      simp at h
    have ih := ih (by omega)
    unfold spl
    rw [if_neg hc, ih]
theorem ones_len : ∀ (t : List Nat) (k : Nat), (ones49 t k).length = t.count 49
  | [], _ => rfl
  | c :: r, k => by
    unfold ones49
    rw [List.count_cons]
    by_cases h : c = 49
    · rw [if_pos h, List.length_cons, ones_len, if_pos (by simpa using h)]
    · rw [if_neg h, ones_len, if_neg (by simpa using h)]
      rfl
theorem kind_one (x : List Nat) : ¬ Builtin.Str.strKind (tx x) < Builtin.Str.strKind (tx [49]) := by
  have e : Builtin.Str.strKind (tx [49]) = 1 := by decide +kernel
  rw [e]
  unfold Builtin.Str.strKind
  split
  · omega
  · split <;> omega
theorem split_tx (t : List Nat) : Txt.split (tx t) (tx [49]) = (spl t).map tx := by
  unfold PySem.Txt.split
  have hl := tx_len t
  have ho : Builtin.Str.occurrences (tx t) (tx [49]) 0 (tx t).length ((tx t).length + 1) = ones49 t 0 := by
    rw [tx_len, PySem.StrLaws.occ_eq]
    have := occ_ones (l := t) (t.length + 1) 0 #[] 0 (by omega) (Nat.le_refl _) (Nat.le_refl _)
    rw [show t.length + 1 - 0 = t.length + 1 from rfl, this, List.drop_zero]
    rfl
  by_cases h0 : t.count 49 = 0
  · rw [spl_none h0]
    split
    · rfl
    · rw [ho, if_pos]
      · rfl
      · rw [List.isEmpty_iff, ← List.length_eq_zero_iff, ones_len, h0]
  · have hc : t.count 49 ≤ t.length := List.count_le_length
    rw [if_neg, ho, if_neg]
    · rw [PySem.StrLaws.partsBetween_eq]
      have := parts_tx t [] []
      refine Eq.trans this ?_
      congr 1
      cases e3 : spl t with
      | nil => exact absurd e3 (spl_ne t)
      | cons g gs => rfl
    · rw [List.isEmpty_iff, ← List.length_eq_zero_iff, ones_len]
      exact h0
    · rw [Bool.or_eq_true, decide_eq_true_eq, decide_eq_true_eq]
      intro z
      rcases z with z | z
      · have : (tx [49]).length = 1 := rfl
        omega
      · exact kind_one t z
theorem join_flat (gs : List (List Nat)) : Txt.join (tx []) (gs.map tx) = tx gs.flatten := by
  have f : ∀ (r : List (List Nat)) (acc : List Nat), (r.map tx).foldl (fun acc p => acc ++ (tx []).cps ++ p.cps) acc.toArray = (acc ++ r.flatten).toArray := by
    intro r
    induction r with
    | nil => intro acc; simp
    | cons c r ih =>
      intro acc
      rw [List.map_cons, List.foldl_cons]
      have e : acc.toArray ++ (tx []).cps ++ (tx c).cps = (acc ++ c).toArray := by
        show acc.toArray ++ ([] : List Nat).toArray ++ c.toArray = _
        simp
      rw [e, ih, List.append_assoc]
      rfl
  cases gs with
  | nil => rfl
  | cons c r =>
    show (⟨(r.map tx).foldl (fun acc p => acc ++ (tx []).cps ++ p.cps) c.toArray⟩ : Str) = _
    rw [f]
    rfl
theorem atI_last {xs : List V} (h : xs ≠ []) : atI xs (-1) = some (xs.getLast h) := by
  have hl := List.length_pos_iff.mpr h
  show (if 0 ≤ (-1 : Int) then _ else if -(xs.length : Int) ≤ -1 then some ((-1 : Int) + (xs.length : Int)).toNat else none).bind (fun j => xs[j]?) = _
  rw [if_neg (by decide), if_pos (by omega)]
  show xs[((-1 : Int) + (xs.length : Int)).toNat]? = _
  rw [show ((-1 : Int) + (xs.length : Int)).toNat = xs.length - 1 by omega, List.getElem?_eq_getElem (by omega), List.getLast_eq_getElem]
theorem spl_el : ∀ (t : List Nat), ∀ g ∈ spl t, g.length ≤ t.length
  | [], g, h => by
    have : g = [] := by simpa [spl] using h
    rw [this]
    exact Nat.le_refl _
  | c :: r, g, h => by
    have ih := spl_el r
    unfold spl at h
    by_cases hc : c = 49
    · rw [if_pos hc] at h
      rcases List.mem_cons.mp h with h | h
      · rw [h]; exact Nat.zero_le _
      · exact Nat.le_succ_of_le (ih g h)
    · rw [if_neg hc] at h
      cases e : spl r with
      | nil => exact absurd e (spl_ne r)
      | cons g1 gs =>
        rw [e] at h ih
        rcases List.mem_cons.mp h with h | h
        · rw [h]
          exact Nat.succ_le_succ (ih g1 List.mem_cons_self)
        · exact Nat.le_succ_of_le (ih g (List.mem_cons_of_mem _ h))
section
variable {P : Program} {w : World} {K : PySem.W.Frag} {mg : Str → Option Value} {base : Heap}
def sp_laid_on (_ : PySem.W.Frag) : Sp := fun vs H Q _ => ∃ (t s : List Nat), vs = [.str (tx t), .str (tx s)] ∧ s.length = t.count 49 ∧ t.length ≤ 40000 ∧ ∀ H', Same H H' → Q (.str (tx (lay t s))) H'
theorem ok_laid_on {f : Addr} {fd : FuncData} (F : Fun K "_laid_on" "_laid_on" s_laid_on f fd) (m_zip : mg "zip" = none) : FnOk P w K mg base CX0 1 f fd ["text", "signs"] (sp_laid_on K) := by
  refine F.ok sc_laid_on (fun vs H Q E h => ?_) (fun cdv A outer s H vs Q E hr h => ?_)
  · obtain ⟨_, _, rfl, _⟩ := h
    rfl
  · obtain ⟨t, z, rfl, h1, h2, q⟩ := h
    have hz := szl
    have hlt := tx_len t
    have hcl : t.count 49 ≤ t.length := List.count_le_length
    refine ⟨_, (pss_cons (ps_set (i := 2) sc_laid_on.nd rfl (Or.inl rfl) (pe_split (pv 0) pe_str))
      (pss_one (ps_ret (pe_op op_add_str (pe_join pe_str (pe_lc (own := [("gap", 3), ("sign", 4)]) (g := gTup K 2 (gCons (gName 3) (gCons (gName 4) gNil))) (by rfl) sc_laid_on.nd (WX.pi_zips (by rfl) m_zip (pa_cons (pv 2) (pa_cons (pv 1) pa_nil))) (blkOk_by (N := ["text", "signs", "gaps", "gap", "sign"]) (sc := defScope s_laid_on) (by decide +kernel)) (fun _ _ _ _ _ => pg_tup (by rfl) (pgs_cons (pg_name (i := 3) sc_laid_on.nd rfl (Or.inl rfl)) (pgs_cons (pg_name (i := 4) sc_laid_on.nd rfl (Or.inl rfl)) pgs_nil))) (fun _ _ _ _ _ => pts_nil) (fun _ _ _ _ _ => (pe_op op_add_str (pv 3) (pv 4))))) (pe_ix ix_list (pv 2) (pe_un un_neg pe_int) (fun _ _ => rfl)))))), ?_⟩
    refine ⟨_, rfl, ⟨_, rfl⟩, tx t, "1", rfl, rfl, rfl, by omega, fun p np => ?_⟩
    show _
    rw [show Txt.split (tx t) "1" = (spl t).map tx from split_tx t]
    have hp : (upd H p (.lst (((spl t).map tx).map V.str))) p = some (.lst (((spl t).map tx).map V.str)) := upd_same
    have s0 : Same H (upd H p (.lst (((spl t).map tx).map V.str))) := same_upd np
    generalize (upd H p (.lst (((spl t).map tx).map V.str))) = H1 at *
    have hsl := spl_len t
    have hn := spl_ne t
    have hzl : (List.zipWith (fun g c => g ++ [c]) (spl t) z).length = z.length := by
      rw [List.length_zipWith]
      omega
    refine ⟨⟨_, rfl⟩, ?_⟩
    refine ⟨_, rfl, _, rfl, p, _, tx z, rfl, SqL.of hp, fun D nD => ?_⟩
    refine lc_it (WX.walk_zs (K := K) (a := p) (xs := ((spl t).map tx).map V.str) (y := tx z) (n := z.length) ?_) (fun i H' => Same H1 H' ∧ H' D = some (.lst (((List.zipWith (fun g c => g ++ [c]) (spl t) z).take i).map fun g => V.str (tx g)))) ⟨same_upd nD, upd_same⟩ (fun i H' _ hP => SqL.of (hP.1 _ _ hp)) (fun i x H' H2 hi hP hY => ?_) (fun H' hP => ?_)
    · rw [List.length_map, List.length_map]
      show z.length = min _ (tx z).length
      rw [tx_len]
      omega
    · obtain ⟨s1, hD⟩ := hP
      obtain ⟨T, x1, c, rfl, nT, rfl, e1, e2⟩ := hY
      have hg : i < (spl t).length := by omega
      have e1 : x1 = V.str (tx (spl t)[i]) := by
        rw [List.getElem?_map, List.getElem?_map, List.getElem?_eq_getElem hg] at e1
        exact (Option.some.inj e1).symm
      have e2 : c = z[i] := by
        have e2 : z[i]? = some c := e2
        rw [List.getElem?_eq_getElem hi] at e2
        exact (Option.some.inj e2).symm
      subst e1 e2
      have tD : T ≠ D := (ne_of_none hD nT).symm
      refine ⟨T, _, rfl, SqT.of upd_same, rfl, _, _, rfl, _, _, rfl, rfl, rfl, lc_yes ?_⟩
      rw [if_pos rfl]
      refine ⟨_, rfl, _, rfl, _, _, rfl, rfl, ?_, _, by rw [upd_ne tD.symm]; exact hD, ?_, ?_, ?_⟩
      · show (tx _).length + (tx [_]).length ≤ sizeLine
        have := spl_el t _ (List.getElem_mem hg)
        rw [tx_len, tx_len]
        show _ + 1 ≤ _
        omega
      · rw [List.length_map, List.length_take]
        omega
      · intro b o e
        have e1 := s1 b o e
        rw [upd_ne (ne_of_none e nD), upd_ne (ne_of_none e1 nT)]
        exact e1
      · rw [upd_same, List.take_add_one, List.getElem?_eq_getElem (by omega), List.map_append]
        show some (HO.lst (_ ++ [V.str (tx (spl t)[i] ++ tx [z[i]])])) = some (HO.lst (_ ++ [V.str (tx (List.zipWith (fun g c => g ++ [c]) (spl t) z)[i])]))
        rw [tx_add, List.getElem_zipWith]
    · obtain ⟨s1, hD⟩ := hP
      rw [List.take_of_length_le (by omega)] at hD
      have hsum : ((List.zipWith (fun g c => g ++ [c]) (spl t) z).map fun g => (tx g).length).sum + ((spl t).getLast hn).length = t.length := by
        have e := congrArg List.length (wv_flat (spl t) z hn (by omega))
        rw [wv_spl, lay_len, List.length_append, List.length_flatten] at e
        rw [← e]
        congr 3
      refine ⟨tx [], D, (List.zipWith (fun g c => g ++ [c]) (spl t) z).map tx, rfl, rfl, .inl (SqL.of ?_), ?_, ?_⟩
      · rw [hD, List.map_map]
        rfl
      · rw [List.map_map]
        have : ((List.zipWith (fun g c => g ++ [c]) (spl t) z).map ((fun x => x.length) ∘ tx)).sum = ((List.zipWith (fun g c => g ++ [c]) (spl t) z).map fun g => (tx g).length).sum := rfl
        rw [this]
        show _ + _ * 0 ≤ 16777216
        omega
      rw [join_flat]
      refine ⟨_, rfl, _, rfl, p, _, -1, V.str (tx ((spl t).getLast hn)), rfl, rfl, SqL.of (s1 _ _ hp), ?_, _, _, rfl, rfl, ?_, ?_⟩
      · rw [atI_last (by simpa using hn), List.getLast_map, List.getLast_map]
      · have e := congrArg List.length (wv_flat (spl t) z hn (by omega))
        rw [wv_spl, lay_len, List.length_append] at e
        rw [tx_len, tx_len]
        omega
      · rw [tx_add, wv_flat _ _ hn (by omega), wv_spl]
        exact q _ (s0.trans s1)
end
end WK
namespace WK
open PySem PySem.Spec PyProof.Rows L2
abbrev s_on : Stmt := topS 50
theorem sc_on : FnScope ["one", "other", "most", "head", "again", "text", "row"] ["one", "other", "most"] (defScope s_on) := ⟨rfl, rfl, rfl, by decide +kernel, rfl, by decide +kernel, by decide +kernel⟩
theorem cnt_least {x y : List Nat} (hy : 0 < y.length) (h : 0 < y.count 49) (k : Nat) : k ≤ cnt (row x y) (x.length + k * y.length) := by
  rw [cnt_more hy (Nat.le_refl _)]
  have := Nat.le_mul_of_pos_right k h
  omega
theorem OnLen.le {x1 y1 x2 y2 : List Nat} {L A : Nat} (h : OnLen x1 y1 x2 y2 L A) (h1 : 0 < y1.length) (h2 : 0 < y2.length) : L ≤ x1.length + x2.length * y1.length ∧ A ≤ y2.length * y1.length ∧ 1 ≤ A := by
  by_cases c : y1.count 49 = 0
  · obtain ⟨a1, a2⟩ := h.none c
    have := Nat.le_mul_of_pos_left y1.length h2
    omega
  · have c : 0 < y1.count 49 := by omega
    refine ⟨h.least c _ (by omega) (cnt_least h1 c _), ?_, ?_⟩
    · rw [h.again c]
      exact Nat.mul_le_mul_right _ (Nat.div_le_self _ _)
    · exact (on_per h h1 h2).1
theorem kwd_on {K : PySem.W.Frag} {D : Addr} {tk : Tok} (h : PySem.W.nsIn K D "most" = some (some (.int 20000 tk))) : ∀ q ∈ ([("most", .int 20000)] : List (Str × V)), ∃ u, PySem.W.nsIn K D q.1 = some (some u) ∧ RelV q.2 u := fun q hq => by
  rw [List.mem_singleton.mp hq]
  exact ⟨_, h, tk, rfl⟩
theorem kb_on {K : PySem.W.Frag} {f : Addr} {fd : FuncData} (F : FunD K "on" "on" (defArgs s_on) (defBody s_on) (defScope s_on) [] [("most", .int 20000)] f fd) : ∃ ds, Vals [V.int 20000] ds ∧ Binds K fd ["one", "other", "most"] ds :=
  F.binds0 2 (fun z => nomatch z) rfl fun D doc pm an cdv ct us ks h1 h2 => match us, ks, h1, h2 with | [_, _], [_], _, _ => ⟨_, _, _, _, _, _, rfl, rfl, rfl⟩
theorem kk_on {K : PySem.W.Frag} {f : Addr} {fd : FuncData} (F : FunD K "on" "on" (defArgs s_on) (defBody s_on) (defScope s_on) [] [("most", .int 20000)] f fd) : KBn K fd ["one", "other", "most"] 2 ["most"] (fun us ws => us ++ ws) (fun vs zs => vs ++ zs) := by
  refine ⟨fun s us ws hk h1 h2 => ?_, fun r1 r2 => Vals.append r1 r2⟩
  obtain ⟨⟨oc, od, dV, kV, doc, pm, an, cdv, ct, osl, rfl, _, _, hd, _⟩, _⟩ := F
  rcases hd with ⟨_, rfl⟩ | ⟨h, _⟩
  case inr => exact absurd rfl h
  match us, ws, h1, h2 with
  | [_, _], [_], _, _ => exact .of_eq rfl
section
variable {P : Program} {w : World} {K : PySem.W.Frag} {mg : Str → Option Value} {base : Heap}
def sp_on (K : PySem.W.Frag) : Sp := fun vs H Q E => ∃ (b1 b2 : Addr) (x1 y1 x2 y2 : List Nat) (most : Int), vs = [.ref b1, .ref b2, .int most] ∧ WordAt H b1 x1 y1 ∧ WordAt H b2 x2 y2 ∧
  (∀ L A, OnLen x1 y1 x2 y2 L A → (L : Int) ≤ most → (A : Int) ≤ most → (x1.length + x2.length * y1.length ≤ 20000 ∧ y2.length * y1.length ≤ 20000) ∧
    ∀ H' p x y, Same H H' → WordAt H' p x y → Lst (onr (row x1 y1) (row x2 y2)) x y → Q (.ref p) H') ∧
  (∀ L A, OnLen x1 y1 x2 y2 L A → (most < (L : Int) ∨ most < (A : Int)) → ∀ C H', Same H H' → PySem.W.nsIn K mainGlobals "TooLong" = some (some (.ref C)) → E (.ref C) none H')
theorem ok_on {f : Addr} {fd : FuncData} (F : Fun K "on" "on" s_on f fd) (m_max : mg "max" = none) {f_check_word : Addr} {fd_check_word : FuncData} (c_check_word : Cal P w K mg base (L2.CX P w) 3 f_check_word fd_check_word "_check_word" ["word"] (sp_check_word K)) {f_on_lengths : Addr} {fd_on_lengths : FuncData} (c_on_lengths : Cal P w K mg base CX0 5 f_on_lengths fd_on_lengths "_on_lengths" ["one", "other"] (sp_on_lengths K)) {f_least_word : Addr} {fd_least_word : FuncData} (c_least_word : Cal P w K mg base (L2.CX P w) 4 f_least_word fd_least_word "least_word" ["word"] (sp_least_word K)) {f_first_signs : Addr} {fd_first_signs : FuncData} (c_first_signs : Cal P w K mg base CX0 1 f_first_signs fd_first_signs "first_signs" ["word", "many"] (sp_first_signs K)) {f_laid_on : Addr} {fd_laid_on : FuncData} (c_laid_on : Cal P w K mg base CX0 1 f_laid_on fd_laid_on "_laid_on" ["text", "signs"] (sp_laid_on K)) {f_least : Addr} {fd_least : FuncData} (c_least : Cal P w K mg base CX0 2 f_least fd_least "_least" ["head", "again"] (sp_least K)) {C_TooLong : Addr} (y_TooLong : YCal K mg "TooLong" C_TooLong) : FnOk P w K mg base (L2.CX P w) 6 f fd ["one", "other", "most"] (sp_on K) := by
  refine F.okX sc_on (fun vs H Q E h => ?_) (fun cdv A outer s H vs Q E hr h => ?_)
  · obtain ⟨_, _, _, _, _, _, _, rfl, _⟩ := h
    rfl
  · obtain ⟨b1, b2, x1, y1, x2, y2, most, rfl, hw1, hw2, q, qe⟩ := h
    have hz := szl
    refine ⟨_, (pss_cons (ps_expr (pe_call c_check_word.G (hr.mono (by decide)) (by rfl) c_check_word.g c_check_word.kp c_check_word.b .nil (passes_call (takes_of rfl rfl rfl rfl) (fun _ _ _ _ h => h)) (pa_cons (pv 0) pa_nil)))
      (pss_cons (ps_expr (pe_call c_check_word.G (hr.mono (by decide)) (by rfl) c_check_word.g c_check_word.kp c_check_word.b .nil (passes_call (takes_of rfl rfl rfl rfl) (fun _ _ _ _ h => h)) (pa_cons (pv 1) pa_nil)))
      (pss_cons (ps_if (pt_cmpR op_gt (pe_callB (WX.cr_maxT rfl) (by rfl) m_max (by decide +kernel) (pa_cons (pe_call c_on_lengths.G (hr.mono (by decide)) (by rfl) c_on_lengths.g c_on_lengths.kp c_on_lengths.b .nil pass0 (pa_cons (pv 0) (pa_cons (pv 1) pa_nil))) pa_nil)) (pv 2) (nomark _))
        (pss_one (ps_raise rfl (takes_of rfl rfl rfl rfl) (pmk_own PySem.F.excBase_ValueError y_TooLong.x y_TooLong.g y_TooLong.k (raises_own y_TooLong.b y_TooLong.t) (by rfl))))
        pss_nil)
      (pss_cons (ps_set (i := 0) sc_on.nd rfl (Or.inl rfl) (pe_call c_least_word.G (hr.mono (by decide)) (by rfl) c_least_word.g c_least_word.kp c_least_word.b .nil (passes_call (takes_of rfl rfl rfl rfl) (fun _ _ _ _ h => h)) (pa_cons (pv 0) pa_nil)))
      (pss_cons (ps_set (i := 1) sc_on.nd rfl (Or.inl rfl) (pe_call c_least_word.G (hr.mono (by decide)) (by rfl) c_least_word.g c_least_word.kp c_least_word.b .nil (passes_call (takes_of rfl rfl rfl rfl) (fun _ _ _ _ h => h)) (pa_cons (pv 1) pa_nil)))
      (pss_cons (ps_asg (pe_call c_on_lengths.G (hr.mono (by decide)) (by rfl) c_on_lengths.g c_on_lengths.kp c_on_lengths.b .nil pass0 (pa_cons (pv 0) (pa_cons (pv 1) pa_nil))) (pg_tup (by rfl) (pgs_cons (pg_name (i := 3) sc_on.nd rfl (Or.inl rfl)) (pgs_cons (pg_name (i := 4) sc_on.nd rfl (Or.inl rfl)) pgs_nil))))
      (pss_cons (ps_set (i := 5) sc_on.nd rfl (Or.inl rfl) (pe_call c_first_signs.G (hr.mono (by decide)) (by rfl) c_first_signs.g c_first_signs.kp c_first_signs.b .nil pass0 (pa_cons (pv 0) (pa_cons (pe_op op_add (pv 3) (pv 4)) pa_nil))))
      (pss_cons (ps_set (i := 6) sc_on.nd rfl (Or.inl rfl) (pe_call c_laid_on.G (hr.mono (by decide)) (by rfl) c_laid_on.g c_laid_on.kp c_laid_on.b .nil pass0 (pa_cons (pv 5) (pa_cons (pe_call c_first_signs.G (hr.mono (by decide)) (by rfl) c_first_signs.g c_first_signs.kp c_first_signs.b .nil pass0 (pa_cons (pv 1) (pa_cons (pe_bm PySem.F.plainAttrs_str PySem.F.slot_str_count PySem.F.type_str_count mt_count (pv 5) (pa_cons pe_str pa_nil)) pa_nil))) pa_nil))))
      (pss_one (ps_ret (pe_call c_least.G (hr.mono (by decide)) (by rfl) c_least.g c_least.kp c_least.b .nil pass0 (pa_cons (pe_slice sl_str (pv 6) po_none (po_some (pv 3))) (pa_cons (pe_slice sl_str (pv 6) (po_some (pv 3)) po_none) pa_nil))))))))))))), ?_⟩
    refine ⟨_, rfl, .ref b1, rfl, .inl ⟨b1, x1, y1, rfl, hw1, _, rfl, .ref b2, rfl, .inl ⟨b2, x2, y2, rfl, hw2, _, rfl, _, rfl, b1, b2, x1, y1, x2, y2, rfl, hw1, hw2, fun L A p H1 s1 hp ol => ?_⟩⟩⟩
    refine ⟨p, L, A, rfl, SqT.of hp, fun m hm h1 h2 => ?_⟩
    refine ⟨_, rfl, _, _, rfl, rfl, _, rfl, ite2 (fun e => ?_) (fun e => ?_)⟩
    · have e : m > most := of_decide_eq_true e
      refine qe L A ol ?_ _ _ s1 y_TooLong.a
      rcases hm with rfl | rfl
      · exact .inl e
      · exact .inr e
    · have e : ¬ m > most := of_decide_eq_false (Bool.eq_false_iff.mpr e)
      obtain ⟨⟨c1, c2⟩, q⟩ := q L A ol (by omega) (by omega)
      obtain ⟨g1, g2, g3, g4, g5, g6⟩ := id hw1
      obtain ⟨j1, j2, j3, j4, j5, j6⟩ := id hw2
      refine ⟨_, rfl, .ref b1, rfl, .inl ⟨b1, x1, y1, rfl, hw1.mono s1, fun p1 u1 v1 np1 L1 lx1 ly1 => ?_⟩⟩
      have s2 : Same H1 (upd H1 p1 (.tup [.str (tx u1), .str (tx v1)])) := same_upd np1
      have B1 := L1.binR (row_bin g2 g3 g5)
      have w1 : WordAt (upd H1 p1 (.tup [.str (tx u1), .str (tx v1)])) p1 u1 v1 := ⟨upd_same, B1.1, B1.2, by omega, L1.tells.pos, by omega⟩
      generalize (upd H1 p1 (.tup [.str (tx u1), .str (tx v1)])) = H2 at *
      refine ⟨_, rfl, .ref b2, rfl, .inl ⟨b2, x2, y2, rfl, (hw2.mono s1).mono s2, fun p2 u2 v2 np2 L2 lx2 ly2 => ?_⟩⟩
      have s3 : Same H2 (upd H2 p2 (.tup [.str (tx u2), .str (tx v2)])) := same_upd np2
      have B2 := L2.binR (row_bin j2 j3 j5)
      have w2 : WordAt (upd H2 p2 (.tup [.str (tx u2), .str (tx v2)])) p2 u2 v2 := ⟨upd_same, B2.1, B2.2, by omega, L2.tells.pos, by omega⟩
      generalize (upd H2 p2 (.tup [.str (tx u2), .str (tx v2)])) = H3 at *
      have w1 := w1.mono s3
      refine ⟨_, rfl, _, rfl, p1, p2, u1, v1, u2, v2, rfl, w1, w2, fun L' A' p3 H4 s4 hp3 ol' => ?_⟩
      have le' := ol'.le L1.tells.pos L2.tells.pos
      have m1 : u1.length + u2.length * v1.length ≤ 20000 := Nat.le_trans (Nat.add_le_add lx1 (Nat.mul_le_mul lx2 ly1)) c1
      have m2 : v2.length * v1.length ≤ 20000 := Nat.le_trans (Nat.mul_le_mul ly2 ly1) c2
      refine ⟨p3, _, rfl, SqT.of hp3, rfl, _, _, rfl, _, _, rfl, rfl, ?_⟩
      refine ⟨_, rfl, _, rfl, _, rfl, _, _, rfl, rfl, p1, u1, v1, L' + A', rfl, w1.mono s4, by omega, fun t T => ?_⟩
      have hT := T.1
      have hct : t.count 49 ≤ t.length := List.count_le_length
      refine ⟨_, rfl, _, rfl, _, rfl, rfl, tx t, "1", rfl, rfl, p2, u2, v2, t.count 49, ?_, w2.mono s4, by omega, fun z Z => ?_⟩
      · show [V.ref p2, V.int (Txt.count (tx t) (tx [49]))] = _
        rw [count_tx]
        rfl
      refine ⟨t, z, rfl, Z.1, by omega, fun H5 s5 => ?_⟩
      have hll := lay_len t z
      have htl := tx_len (lay t z)
      refine ⟨_, rfl, _, rfl, _, rfl, tx (lay t z), rfl, by omega, _, rfl, _, rfl, _, rfl, tx (lay t z), rfl, by omega, ?_⟩
      have e1 : row u1 v1 = row x1 y1 := funext L1.tells.eq
      have e2 : row u2 v2 = row x2 y2 := funext L2.tells.eq
      have TT := lay_on T (fun i => by rw [e1]; exact row_bin g2 g3 g5 i) Z
      have ER := row_of_txt TT (on_per ol' L1.tells.pos L2.tells.pos)
      refine ⟨(lay t z).take L', (lay t z).drop L', ?_, ?_, ?_, ?_, fun p4 x y np4 L4 lx4 ly4 => ?_⟩
      · show [V.str (cutS (tx (lay t z)) none (some (L' : Int))), V.str (cutS (tx (lay t z)) (some (L' : Int)) none)] = _
        rw [cut_0n, cut_n0]
      · rw [List.length_drop]; omega
      · rw [List.length_drop]; omega
      · rw [List.length_take]; omega
      · rw [List.length_take] at lx4
        rw [List.length_drop] at ly4
        rw [ER, e1, e2] at L4
        have B4 := L4.binR (onr_bin (row_bin j2 j3 j5))
        exact q _ p4 x y (s1.trans (s2.trans (s3.trans (s4.trans (s5.trans (same_upd np4)))))) ⟨upd_same, B4.1, B4.2, by omega, L4.tells.pos, by omega⟩ L4
end
end WK
namespace WK
open PySem PySem.Spec PyProof.Rows L2
abbrev s_turned : Stmt := topS 52
theorem sc_turned : FnScope ["text"] ["text"] (defScope s_turned) := ⟨rfl, rfl, rfl, by decide +kernel, rfl, by decide +kernel, by decide +kernel⟩
abbrev s_other_of : Stmt := topS 53
theorem sc_other_of : FnScope ["word"] ["word"] (defScope s_other_of) := ⟨rfl, rfl, rfl, by decide +kernel, rfl, by decide +kernel, by decide +kernel⟩
def flr (R : Nat → Nat) (k : Nat) : Nat := WX.flip1 (R k)
theorem flr_bin (R : Nat → Nat) (k : Nat) : flr R k = 48 ∨ flr R k = 49 := by
  unfold flr WX.flip1
  split
  · exact .inr rfl
  · exact .inl rfl
theorem bin_flip (l : List Nat) : Bin (l.map WX.flip1) := fun c hc => by
  obtain ⟨d, _, rfl⟩ := List.mem_map.mp hc
  unfold WX.flip1
  split
  · exact .inr rfl
  · exact .inl rfl
theorem map_get {l : List Nat} {i : Nat} (h : i < l.length) : (l.map WX.flip1).getD i 0 = WX.flip1 (l.getD i 0) := by
  rw [List.getD_eq_getElem?_getD, List.getElem?_map, List.getElem?_eq_getElem h, List.getD_eq_getElem?_getD, List.getElem?_eq_getElem h]
  rfl
theorem row_flip {x y : List Nat} (hy : 0 < y.length) : row (x.map WX.flip1) (y.map WX.flip1) = flr (row x y) := by
  funext i
  unfold flr
  by_cases h : i < x.length
  · rw [row_head (by rw [List.length_map]; exact h), row_head h, map_get h]
  · have hm := Nat.mod_lt (i - x.length) hy
    rw [row_again (by rw [List.length_map]; omega), row_again (by omega), List.length_map, List.length_map, map_get hm]
theorem rows_alike {R S : Nat → Nat} {c p q : Nat} (hR : Per R c p) (hS : Per S c q) (h : ∀ i, i < c + p + q → R i = S i) : R = S := by
  have sp : Per S c p := by
    refine ⟨hR.1, fun i hi => ?_⟩
    have hq := hS.1
    have hm := Nat.mod_lt (i - c) hq
    have e1 : S i = S (c + (i - c) % q) := hS.mod hi (by omega) (by rw [Nat.add_sub_cancel_left, Nat.mod_mod])
    have e2 : S (i + p) = S (c + (i - c) % q + p) := hS.mod (by omega) (by omega) (by rw [show i + p - c = (i - c) + p by omega, show c + (i - c) % q + p - c = (i - c) % q + p by omega, Nat.mod_add_mod])
    rw [e1, e2, ← h _ (by omega), hR.2 _ (by omega), h _ (by omega)]
  funext i
  by_cases hi : i < c
  · exact h i (by omega)
  · have hp := hR.1
    have hm := Nat.mod_lt (i - c) hp
    rw [hR.mod (j := c + (i - c) % p) (by omega) (by omega) (by rw [Nat.add_sub_cancel_left, Nat.mod_mod]), sp.mod (i := i) (j := c + (i - c) % p) (by omega) (by omega) (by rw [Nat.add_sub_cancel_left, Nat.mod_mod])]
    exact h _ (by omega)
section
variable {P : Program} {w : World} {K : PySem.W.Frag} {mg : Str → Option Value} {base : Heap}
def sp_turned (_ : PySem.W.Frag) : Sp := fun vs H Q _ => ∃ l : List Nat, vs = [.str (tx l)] ∧ Bin l ∧ l.length ≤ 20000 ∧ ∀ H', Same H H' → Q (.str (tx (l.map WX.flip1))) H'
theorem ok_turned {f : Addr} {fd : FuncData} (F : Fun K "_turned" "_turned" s_turned f fd) : FnOk P w K mg base CX0 1 f fd ["text"] (sp_turned K) := by
  refine F.ok sc_turned (fun vs H Q E h => ?_) (fun cdv A outer s H vs Q E hr h => ?_)
  · obtain ⟨_, rfl, _⟩ := h
    rfl
  · obtain ⟨l, rfl, h1, h2, q⟩ := h
    refine ⟨_, (pss_one (ps_ret (pe_bm PySem.F.plainAttrs_str PySem.F.slot_str_translate PySem.F.type_str_translate WX.mt_flip (pv 0) (pa_cons (pe_disp (pps_cons pe_int pe_str (pps_cons pe_int pe_str pps_nil)) (by decide) (by decide) (by decide) (by decide)) pa_nil)))), ?_⟩
    refine ⟨_, rfl, rfl, fun p np => ?_⟩
    refine ⟨upd_same, [(.inl 48, .str (tx [49])), (.inl 49, .str (tx [48]))], rfl, by decide, l, p, rfl, rfl, ?_, h1, by omega, q _ ?_⟩
    · rw [upd_same]
      rfl
    · rw [upd_upd]
      exact same_upd np
def sp_other_of (_ : PySem.W.Frag) : Sp := fun vs H Q _ => ∃ (b : Addr) (x y : List Nat), vs = [.ref b] ∧ WordAt H b x y ∧ ∀ H' p u v, Same H H' → WordAt H' p u v → u.length ≤ x.length → v.length ≤ y.length → Lst (flr (row x y)) u v → Q (.ref p) H'
theorem ok_other_of {f : Addr} {fd : FuncData} (F : Fun K "other_of" "other_of" s_other_of f fd) {f_check_word : Addr} {fd_check_word : FuncData} (c_check_word : Cal P w K mg base (L2.CX P w) 3 f_check_word fd_check_word "_check_word" ["word"] (sp_check_word K)) {f_least : Addr} {fd_least : FuncData} (c_least : Cal P w K mg base CX0 2 f_least fd_least "_least" ["head", "again"] (sp_least K)) {f_turned : Addr} {fd_turned : FuncData} (c_turned : Cal P w K mg base CX0 1 f_turned fd_turned "_turned" ["text"] (sp_turned K)) : FnOk P w K mg base CX0 4 f fd ["word"] (sp_other_of K) := by
  refine F.ok sc_other_of (fun vs H Q E h => ?_) (fun cdv A outer s H vs Q E hr h => ?_)
  · obtain ⟨_, _, _, rfl, _⟩ := h
    rfl
  · obtain ⟨b, x, y, rfl, hw, q⟩ := h
    obtain ⟨hb, k2, k3, k4, k5, k6⟩ := id hw
    refine ⟨_, (pss_cons (ps_expr (pe_call c_check_word.G (hr.mono (by decide)) (by rfl) c_check_word.g c_check_word.kp c_check_word.b .nil passL (pa_cons (pv 0) pa_nil)))
      (pss_one (ps_ret (pe_call c_least.G (hr.mono (by decide)) (by rfl) c_least.g c_least.kp c_least.b .nil pass0 (pa_cons (pe_call c_turned.G (hr.mono (by decide)) (by rfl) c_turned.g c_turned.kp c_turned.b .nil pass0 (pa_cons (pe_ix ix_tup (pv 0) pe_int (fun _ _ => rfl)) pa_nil)) (pa_cons (pe_call c_turned.G (hr.mono (by decide)) (by rfl) c_turned.g c_turned.kp c_turned.b .nil pass0 (pa_cons (pe_ix ix_tup (pv 0) pe_int (fun _ _ => rfl)) pa_nil)) pa_nil)))))), ?_⟩
    refine ⟨_, rfl, .ref b, rfl, .inl ⟨b, x, y, rfl, hw, ?_⟩⟩
    refine ⟨_, rfl, b, _, 0, _, rfl, rfl, SqT.of hb, atI_nat (j := 0) rfl, x, rfl, k2, k4, fun H1 s1 => ?_⟩
    refine ⟨_, rfl, b, _, 1, _, rfl, rfl, SqT.of (s1 _ _ hb), atI_nat (j := 1) rfl, y, rfl, k3, k6, fun H2 s2 => ?_⟩
    refine ⟨x.map WX.flip1, y.map WX.flip1, rfl, by rw [List.length_map]; exact k5, by rw [List.length_map]; exact k6, by rw [List.length_map]; exact k4, fun p u v np L lu lv => ?_⟩
    rw [row_flip k5] at L
    rw [List.length_map] at lu lv
    have B := L.binR (flr_bin _)
    exact q _ p u v (s1.trans (s2.trans (same_upd np))) ⟨upd_same, B.1, B.2, by omega, L.tells.pos, by omega⟩ lu lv L
end
end WK
namespace WK
open PySem PySem.Spec PyProof.Rows L2
abbrev s_Word_init : Stmt := inClass (topS 54) 0
theorem sc_Word_init : FnScope ["self", "again", "head"] ["self", "again", "head"] (defScope s_Word_init) := ⟨rfl, rfl, rfl, by decide +kernel, rfl, by decide +kernel, by decide +kernel⟩
abbrev s_Word_word : Stmt := inClass (topS 54) 1
theorem sc_Word_word : FnScope ["self"] ["self"] (defScope s_Word_word) := ⟨rfl, rfl, rfl, by decide +kernel, rfl, by decide +kernel, by decide +kernel⟩
abbrev s_Word_has_one : Stmt := inClass (topS 54) 2
theorem sc_Word_has_one : FnScope ["self", "k"] ["self", "k"] (defScope s_Word_has_one) := ⟨rfl, rfl, rfl, by decide +kernel, rfl, by decide +kernel, by decide +kernel⟩
abbrev s_Word_on : Stmt := inClass (topS 54) 3
theorem sc_Word_on : FnScope ["self", "other", "head", "again"] ["self", "other"] (defScope s_Word_on) := ⟨rfl, rfl, rfl, by decide +kernel, rfl, by decide +kernel, by decide +kernel⟩
abbrev s_Word_other : Stmt := inClass (topS 54) 4
theorem sc_Word_other : FnScope ["self", "head", "again"] ["self"] (defScope s_Word_other) := ⟨rfl, rfl, rfl, by decide +kernel, rfl, by decide +kernel, by decide +kernel⟩
abbrev s_Word_eq : Stmt := inClass (topS 54) 5
theorem sc_Word_eq : FnScope ["self", "other"] ["self", "other"] (defScope s_Word_eq) := ⟨rfl, rfl, rfl, by decide +kernel, rfl, by decide +kernel, by decide +kernel⟩
abbrev s_Word_len : Stmt := inClass (topS 54) 6
theorem sc_Word_len : FnScope ["self"] ["self"] (defScope s_Word_len) := ⟨rfl, rfl, rfl, by decide +kernel, rfl, by decide +kernel, by decide +kernel⟩
abbrev s_Word_str : Stmt := inClass (topS 54) 7
theorem sc_Word_str : FnScope ["self"] ["self"] (defScope s_Word_str) := ⟨rfl, rfl, rfl, by decide +kernel, rfl, by decide +kernel, by decide +kernel⟩
abbrev s_Word_repr : Stmt := inClass (topS 54) 8
theorem sc_Word_repr : FnScope ["self"] ["self"] (defScope s_Word_repr) := ⟨rfl, rfl, rfl, by decide +kernel, rfl, by decide +kernel, by decide +kernel⟩
theorem kwd_Word_init {K : PySem.W.Frag} {D : Addr} {tk : Tok} (h : PySem.W.nsIn K D "head" = some (some (.str "" tk))) : ∀ q ∈ ([("head", .str "")] : List (Str × V)), ∃ u, PySem.W.nsIn K D q.1 = some (some u) ∧ RelV q.2 u := fun q hq => by
  rw [List.mem_singleton.mp hq]
  exact ⟨_, h, tk, rfl⟩
theorem cons_eq {α : Type} {a b : α} {l m : List α} (h : a = b) (h2 : l = m) : a :: l = b :: m := by rw [h, h2]
theorem k1_Word {K : PySem.W.Frag} {f : Addr} {fd : FuncData} (F : FunD K "__init__" "Word.__init__" (defArgs s_Word_init) (defBody s_Word_init) (defScope s_Word_init) [.str "1"] [("head", .str "")] f fd) : KBn K fd ["self", "again", "head"] 2 ["head"] (fun us ws => us ++ ws) (fun vs zs => vs ++ zs) := by
  obtain ⟨its, mv, h⟩ := F.kbinds (ps := ["self", "again", "head"]) 2 ["head"] [] (fun us _ _ ws => us ++ ws) (fun z => nomatch z) (fun z => nomatch z) (fun q hq => nomatch hq) (fun h1 _ _ h4 => Vals.append h1 h4) (fun T D doc pm an cdv ct us its mv ws h1 h2 h3 h4 => match us, its, mv, ws, h1, h2, h3, h4 with | [_, _], [_], [], [_], _, _, _, _ => ⟨_, rfl, by show _ = pure _; rfl⟩)
  exact h
theorem k0_Word {K : PySem.W.Frag} {f : Addr} {fd : FuncData} (F : FunD K "__init__" "Word.__init__" (defArgs s_Word_init) (defBody s_Word_init) (defScope s_Word_init) [.str "1"] [("head", .str "")] f fd) : ∃ g, KBn K fd ["self", "again", "head"] 1 ["head"] g (fun vs zs => vs ++ [.str "1"] ++ zs) := by
  obtain ⟨its, mv, h⟩ := F.kbinds (ps := ["self", "again", "head"]) 1 ["head"] [] (fun us its _ ws => us ++ its ++ ws) (fun z => nomatch z) (fun z => nomatch z) (fun q hq => nomatch hq) (fun h1 h2 _ h4 => Vals.append (Vals.append h1 h2) h4) (fun T D doc pm an cdv ct us its mv ws h1 h2 h3 h4 => match us, its, mv, ws, h1, h2, h3, h4 with | [_], [_], [], [_], _, _, _, _ => ⟨_, rfl, by show _ = pure _; rfl⟩)
  exact ⟨_, h⟩
theorem b1_Word {K : PySem.W.Frag} {f : Addr} {fd : FuncData} (F : FunD K "__init__" "Word.__init__" (defArgs s_Word_init) (defBody s_Word_init) (defScope s_Word_init) [.str "1"] [("head", .str "")] f fd) : ∃ ds, Vals [V.str ""] ds ∧ Binds K fd ["self", "again", "head"] ds :=
  F.binds 2 1 (fun z => nomatch z) rfl (fun T D doc pm an cdv ct us its ks h1 h2 h3 => match us, its, ks, h1, h2, h3 with | [_, _], [_], [_], _, _, _ => ⟨_, rfl, _, _, _, _, _, _, rfl, rfl, rfl⟩) (fun z => nomatch z)
theorem b0_Word {K : PySem.W.Frag} {f : Addr} {fd : FuncData} (F : FunD K "__init__" "Word.__init__" (defArgs s_Word_init) (defBody s_Word_init) (defScope s_Word_init) [.str "1"] [("head", .str "")] f fd) : ∃ ds, Vals [V.str "1", V.str ""] ds ∧ Binds K fd ["self", "again", "head"] ds :=
  F.binds 1 0 (fun z => nomatch z) rfl (fun T D doc pm an cdv ct us its ks h1 h2 h3 => match us, its, ks, h1, h2, h3 with | [_], [_], [_], _, _, _ => ⟨_, rfl, _, _, _, _, _, _, rfl, rfl, rfl⟩) (fun z => nomatch z)
theorem ns_inj {K : PySem.W.Frag} {x : Str} {C D : Addr} (h : PySem.W.nsIn K mainGlobals x = some (some (.ref C))) (h' : PySem.W.nsIn K mainGlobals x = some (some (.ref D))) : C = D := Value.ref.inj (Option.some.inj (Option.some.inj (h.symm.trans h')))
/-- an object of Word that bears the word of x and y -/
def WOb (K : PySem.W.Frag) (H : Hp) (a : Addr) (x y : List Nat) : Prop := (∃ C dx, PySem.W.nsIn K mainGlobals "Word" = some (some (.ref C)) ∧ H a = some (.ins C dx [("_head", .str (tx x)), ("_again", .str (tx y))])) ∧ Bin x ∧ Bin y ∧ x.length ≤ 20000 ∧ 1 ≤ y.length ∧ y.length ≤ 20000
theorem WOb.mono {K : PySem.W.Frag} {H H' : Hp} {a : Addr} {x y : List Nat} (s : Same H H') (h : WOb K H a x y) : WOb K H' a x y := by
  obtain ⟨⟨C, dx, h1, h2⟩, h3⟩ := h
  exact ⟨⟨C, dx, h1, s _ _ h2⟩, h3⟩
theorem WOb.word {K : PySem.W.Frag} {H : Hp} {a p : Addr} {x y : List Nat} (h : WOb K H a x y) : WordAt (upd H p (.tup [.str (tx x), .str (tx y)])) p x y := ⟨upd_same, h.2⟩
def NoWS (K : PySem.W.Frag) (E : XK) (H : Hp) : Prop := ∀ H', Same H H' → NoW K E H'
/-- what stands beside a word and is none -/
inductive NotW (H : Hp) : V → Prop
  | non : NotW H .non
  | str (z : Str) : NotW H (.str z)
  | tup {c : Addr} {xs : List V} (h : H c = some (.tup xs)) : NotW H (.ref c)
section
variable {P : Program} {w : World} {K : PySem.W.Frag} {mg : Str → Option Value} {base : Heap}
def sp_Word_init (K : PySem.W.Frag) : Sp := fun vs H Q E => ∃ (a C dx : Addr) (v1 v2 : V), vs = [.ref a, v2, v1] ∧ PySem.W.nsIn K mainGlobals "Word" = some (some (.ref C)) ∧ H a = some (.ins C dx []) ∧
  ((∃ x y, v1 = .str (tx x) ∧ v2 = .str (tx y) ∧ Bin x ∧ Bin y ∧ x.length ≤ 20000 ∧ 1 ≤ y.length ∧ y.length ≤ 20000 ∧ ∀ H' u v, (∀ b o, b ≠ a → H b = some o → H' b = some o) → Lst (row x y) u v → u.length ≤ x.length → v.length ≤ y.length → H' a = some (.ins C dx [("_head", .str (tx u)), ("_again", .str (tx v))]) → Q .non H') ∨
   ((∀ H' p, Same H H' → H' p = some (.tup [v1, v2]) → WordIs H' (.ref p) false) ∧ NoWS K E H))
theorem ok_Word_init {f : Addr} {fd : FuncData} (F : FunD K "__init__" "Word.__init__" (defArgs s_Word_init) (defBody s_Word_init) (defScope s_Word_init) [.str "1"] [("head", .str "")] f fd) {f_least_word : Addr} {fd_least_word : FuncData} (c_least_word : Cal P w K mg base (L2.CX P w) 4 f_least_word fd_least_word "least_word" ["word"] (sp_least_word K)) {C_Word : Addr} (v_Word : OCls K "Word" C_Word ["_head", "_again"]) : FnOk P w K mg base (L2.CX P w) 5 f fd ["self", "again", "head"] (sp_Word_init K) := by
  refine F.ok sc_Word_init (fun vs H Q E h => ?_) (fun cdv A outer s H vs Q E hr h => ?_)
  · obtain ⟨_, _, _, _, _, rfl, _⟩ := h
    rfl
  · obtain ⟨a, C, dx, v1, v2, rfl, hC, ha, h⟩ := h
    have eC := (ns_inj hC v_Word.a).symm
    subst eC
    refine ⟨_, (pss_one (ps_asg (pe_call c_least_word.G (hr.mono (by decide)) (by rfl) c_least_word.g c_least_word.kp c_least_word.b .nil (passes_call (takes_of rfl rfl rfl rfl) (fun _ _ _ _ h => h)) (pa_cons (pe_tup (pa_cons (pv 2) (pa_cons (pv 1) pa_nil))) pa_nil)) (pg_tup (by rfl) (pgs_cons (WX.pg_att (pv 0)) (pgs_cons (WX.pg_att (pv 0)) pgs_nil))))), ?_⟩
    rcases h with ⟨x, y, rfl, rfl, bx, bay, l1, l2, l3, q⟩ | ⟨hb, qe⟩
    · refine ⟨_, rfl, _, rfl, by show 2 ≤ sizeLine; decide, fun p np => ?_⟩
      refine ⟨.ref p, rfl, .inl ⟨p, x, y, rfl, ⟨upd_same, bx, bay, l1, l2, l3⟩, fun p2 u v np2 L lu lv => ?_⟩⟩
      have s1 := (same_upd (o := .tup [.str (tx x), .str (tx y)]) np).trans (same_upd (o := .tup [.str (tx u), .str (tx v)]) np2)
      refine ⟨p2, _, rfl, SqT.of upd_same, rfl, _, _, rfl, _, rfl, a, C_Word, dx, _, rfl, s1 _ _ ha, v_Word.C, v_Word.no _ (by simp), by show 0 < 1000; decide, _, _, rfl, _, rfl, a, C_Word, dx, _, rfl, upd_same, v_Word.C, v_Word.no _ (by simp), by show 1 < 1000; decide, rfl, ?_⟩
      refine q _ u v (fun b o ne e => ?_) L lu lv upd_same
      rw [upd_ne ne, upd_ne ne]
      exact s1 _ _ e
    · refine ⟨_, rfl, _, rfl, by show 2 ≤ sizeLine; decide, fun p np => ?_⟩
      have s1 := same_upd (o := .tup [v1, v2]) np
      exact ⟨.ref p, rfl, .inr ⟨hb _ _ s1 upd_same, qe _ s1⟩⟩
def sp_Word_word (K : PySem.W.Frag) : Sp := fun vs H Q _ => ∃ (a : Addr) (x y : List Nat), vs = [.ref a] ∧ WOb K H a x y ∧ ∀ p, H p = none → Q (.ref p) (upd H p (.tup [.str (tx x), .str (tx y)]))
theorem ok_Word_word {f : Addr} {fd : FuncData} (F : Fun K "word" "Word.word" s_Word_word f fd) {C_Word : Addr} (v_Word : OCls K "Word" C_Word ["_head", "_again"]) : FnOk P w K mg base CX0 1 f fd ["self"] (sp_Word_word K) := by
  refine F.ok sc_Word_word (fun vs H Q E h => ?_) (fun cdv A outer s H vs Q E hr h => ?_)
  · obtain ⟨_, _, _, rfl, _⟩ := h
    rfl
  · obtain ⟨a, x, y, rfl, ⟨⟨C, dx, hC, ha⟩, _⟩, q⟩ := h
    have eC := (ns_inj hC v_Word.a).symm
    subst eC
    refine ⟨_, (pss_one (ps_ret (pe_tup (pa_cons (pe_fld (pv 0) rfl) (pa_cons (pe_fld (pv 0) rfl) pa_nil))))), ?_⟩
    exact ⟨_, rfl, a, C_Word, dx, _, _, rfl, ha, v_Word.C, v_Word.no _ (by simp), rfl, _, rfl, a, C_Word, dx, _, _, rfl, ha, v_Word.C, v_Word.no _ (by simp), rfl, by show 2 ≤ sizeLine; decide, fun p np => q p np⟩
def sp_Word_has_one (K : PySem.W.Frag) : Sp := fun vs H Q E => ∃ (a : Addr) (x y : List Nat) (k : Nat), vs = [.ref a, nV k] ∧ WOb K H a x y ∧ ∀ H', Same H H' → Q (.bl (decide (row x y k = 49))) H'
theorem ok_Word_has_one {f : Addr} {fd : FuncData} (F : Fun K "has_one" "Word.has_one" s_Word_has_one f fd) {f_letter : Addr} {fd_letter : FuncData} (c_letter : Cal P w K mg base CX0 4 f_letter fd_letter "letter" ["word", "k"] (sp_letter K)) {C_Word : Addr} (v_Word : OCls K "Word" C_Word ["_head", "_again"]) {f_Word_word : Addr} {fd_Word_word : FuncData} (q_Word_word : MCal P w K mg base CX0 1 C_Word "word" f_Word_word fd_Word_word ["self"] (sp_Word_word K)) : FnOk P w K mg base CX0 5 f fd ["self", "k"] (sp_Word_has_one K) := by
  refine F.ok sc_Word_has_one (fun vs H Q E h => ?_) (fun cdv A outer s H vs Q E hr h => ?_)
  · obtain ⟨_, _, _, _, rfl, _⟩ := h
    rfl
  · obtain ⟨a, x, y, k, rfl, hW, q⟩ := h
    obtain ⟨⟨C, dx, hC, ha⟩, _⟩ := id hW
    have eC := (ns_inj hC v_Word.a).symm
    subst eC
    refine ⟨_, (pss_one (ps_ret (pe_call c_letter.G (hr.mono (by decide)) (by rfl) c_letter.g c_letter.kp c_letter.b .nil pass0 (pa_cons (pe_meth0 (pv 0) v_Word.C q_Word_word.M q_Word_word.G (hr.mono (by decide)) q_Word_word.b .nil pass0) (pa_cons (pv 1) pa_nil))))), ?_⟩
    refine ⟨_, rfl, a, dx, _, rfl, ha, rfl, a, x, y, rfl, hW, fun p np => ?_⟩
    exact ⟨_, rfl, p, x, y, k, rfl, hW.word, q _ (same_upd np)⟩
def sp_Word_eq (K : PySem.W.Frag) : Sp := fun vs H Q _ => ∃ (a : Addr) (x y : List Nat) (z : V), vs = [.ref a, z] ∧ WOb K H a x y ∧ ((∃ c u v, z = .ref c ∧ WOb K H c u v ∧ Q (.bl (decide (x = u ∧ y = v))) H) ∨ (NotW H z ∧ Q (.bl false) H))
theorem ok_Word_eq {f : Addr} {fd : FuncData} (F : Fun K "__eq__" "Word.__eq__" s_Word_eq f fd) (m_isinstance : mg "isinstance" = none) {C_Word : Addr} (e_Word : DCal K mg "Word" C_Word) (v_Word : OCls K "Word" C_Word ["_head", "_again"]) (f_st_tuple : PySem.W.subIn K (.type "tuple") (.ref C_Word) = some false) (f_st_str : PySem.W.subIn K (.type "str") (.ref C_Word) = some false) (f_st_NoneType : PySem.W.subIn K (.type "NoneType") (.ref C_Word) = some false) (f_oi_Word : WX.OIs K C_Word) : FnOk P w K mg base CX0 1 f fd ["self", "other"] (sp_Word_eq K) := by
  refine F.ok sc_Word_eq (fun vs H Q E h => ?_) (fun cdv A outer s H vs Q E hr h => ?_)
  · obtain ⟨_, _, _, _, rfl, _⟩ := h
    rfl
  · obtain ⟨a, x, y, z, rfl, ⟨⟨C, dx, hC, ha⟩, _⟩, h⟩ := h
    have eC := (ns_inj hC v_Word.a).symm
    subst eC
    refine ⟨_, (pss_one (ps_ret (pe_and (pe_callB call_isi (by rfl) m_isinstance (by decide +kernel) (pa_cons (pv 1) (pa_cons (pe_glob (v := .ref C_Word) (by rfl) e_Word.g rfl) pa_nil))) (pe_and (pe_cmpR op_eq (pe_fld (pv 0) rfl) (pe_fld (pv 1) rfl) (nomark _)) (pe_one (pe_cmpR op_eq (pe_fld (pv 0) rfl) (pe_fld (pv 1) rfl) (nomark _))))))), ?_⟩
    rcases h with ⟨c, u, v, rfl, ⟨⟨C2, dc, hC2, hc⟩, _⟩, q⟩ | ⟨hn, q⟩
    · have eC := (ns_inj hC2 v_Word.a).symm
      subst eC
      refine ⟨_, rfl, _, .ref C_Word, .ref C_Word, .ref C_Word, true, rfl, .own C_Word, f_oi_Word.ty v_Word.C hc, ECal.self, true, rfl, iteT ?_⟩
      refine ⟨_, rfl, a, C_Word, dx, _, _, rfl, ha, v_Word.C, v_Word.no _ (by simp), rfl, _, rfl, c, C_Word, dc, _, _, rfl, hc, v_Word.C, v_Word.no _ (by simp), rfl, rfl, ?_⟩
      refine ⟨_, rfl, ?_⟩
      rw [tx_eq]
      by_cases e1 : x = u
      · rw [decide_eq_true e1]
        refine iteT ?_
        refine ⟨_, rfl, a, C_Word, dx, _, _, rfl, ha, v_Word.C, v_Word.no _ (by simp), rfl, _, rfl, c, C_Word, dc, _, _, rfl, hc, v_Word.C, v_Word.no _ (by simp), rfl, rfl, ?_⟩
        rw [tx_eq]
        rw [show decide (x = u ∧ y = v) = decide (y = v) from decide_eq_decide.mpr ⟨fun h => h.2, fun h => ⟨e1, h⟩⟩] at q
        exact q
      · rw [decide_eq_false e1]
        rw [decide_eq_false (fun h => e1 h.1)] at q
        exact iteF q
    · cases hn with
      | non => exact ⟨_, rfl, _, .ref C_Word, .type "NoneType", .ref C_Word, false, rfl, .own C_Word, .base .non, e_Word.kit f_st_NoneType (fun z => by simp at z), false, rfl, iteF q⟩
      | str zz => exact ⟨_, rfl, _, .ref C_Word, .type "str", .ref C_Word, false, rfl, .own C_Word, .base (.str _), e_Word.kit f_st_str (fun z => by simp at z), false, rfl, iteF q⟩
      | tup ht => exact ⟨_, rfl, _, .ref C_Word, .type "tuple", .ref C_Word, false, rfl, .own C_Word, .base (.tup ht), e_Word.kit f_st_tuple (fun z => by simp at z), false, rfl, iteF q⟩
def sp_Word_len (K : PySem.W.Frag) : Sp := fun vs H Q _ => ∃ (a : Addr) (x y : List Nat), vs = [.ref a] ∧ WOb K H a x y ∧ Q (nV (x.length + y.length)) H
theorem ok_Word_len {f : Addr} {fd : FuncData} (F : Fun K "__len__" "Word.__len__" s_Word_len f fd) (m_len : mg "len" = none) {C_Word : Addr} (v_Word : OCls K "Word" C_Word ["_head", "_again"]) : FnOk P w K mg base CX0 1 f fd ["self"] (sp_Word_len K) := by
  refine F.ok sc_Word_len (fun vs H Q E h => ?_) (fun cdv A outer s H vs Q E hr h => ?_)
  · obtain ⟨_, _, _, rfl, _⟩ := h
    rfl
  · obtain ⟨a, x, y, rfl, ⟨⟨C, dx, hC, ha⟩, _, _, l1, l2, l3⟩, q⟩ := h
    have eC := (ns_inj hC v_Word.a).symm
    subst eC
    have hz := szl
    refine ⟨_, (pss_one (ps_ret (pe_callB call_len_str (by rfl) m_len PySem.boot_len (pa_cons (pe_op op_add_str (pe_fld (pv 0) rfl) (pe_fld (pv 0) rfl)) pa_nil)))), ?_⟩
    refine ⟨_, rfl, a, C_Word, dx, _, _, rfl, ha, v_Word.C, v_Word.no _ (by simp), rfl, _, rfl, a, C_Word, dx, _, _, rfl, ha, v_Word.C, v_Word.no _ (by simp), rfl, ?_⟩
    have hl : (tx (x ++ y)).length = x.length + y.length := by rw [tx_len, List.length_append]
    have h1 := tx_len x
    have h2 := tx_len y
    refine ⟨_, _, rfl, rfl, by omega, tx (x ++ y), ?_, by omega, ?_⟩
    · rw [← tx_add]
    · rw [hl]
      exact q
def strL (x y : List Nat) : List Nat := x ++ [40] ++ y ++ [41]
def reprL (x y : List Nat) : List Nat := [87, 111, 114, 100, 40, 34] ++ y ++ [34, 44, 32, 104, 101, 97, 100, 61, 34] ++ x ++ [34, 41]
def sp_Word_str (K : PySem.W.Frag) : Sp := fun vs H Q _ => ∃ (a : Addr) (x y : List Nat), vs = [.ref a] ∧ WOb K H a x y ∧ Q (.str (tx (strL x y))) H
theorem ok_Word_str {f : Addr} {fd : FuncData} (F : Fun K "__str__" "Word.__str__" s_Word_str f fd) {C_Word : Addr} (v_Word : OCls K "Word" C_Word ["_head", "_again"]) : FnOk P w K mg base CX0 1 f fd ["self"] (sp_Word_str K) := by
  refine F.ok sc_Word_str (fun vs H Q E h => ?_) (fun cdv A outer s H vs Q E hr h => ?_)
  · obtain ⟨_, _, _, rfl, _⟩ := h
    rfl
  · obtain ⟨a, x, y, rfl, ⟨⟨C, dx, hC, ha⟩, _, _, l1, l2, l3⟩, q⟩ := h
    have eC := (ns_inj hC v_Word.a).symm
    subst eC
    have hz := szl
    refine ⟨_, (pss_one (ps_ret (pe_joined (.cons (pe_fmt (pe_fld (pv 0) rfl)) (.cons pe_str (.cons (pe_fmt (pe_fld (pv 0) rfl)) (.cons pe_str .nil))))))), ?_⟩
    have e0 : Str.empty ++ tx x = tx x := tx_add [] x
    have e1 : Str.empty ++ tx x ++ "(" = tx (x ++ [40]) := by rw [e0]; exact tx_add x [40]
    have e2 : Str.empty ++ tx x ++ "(" ++ tx y = tx (x ++ [40] ++ y) := by rw [e1]; exact tx_add (x ++ [40]) y
    have e3 : Str.empty ++ tx x ++ "(" ++ tx y ++ ")" = tx (strL x y) := by rw [e2]; exact tx_add (x ++ [40] ++ y) [41]
    have h1 := tx_len x
    have h2 := tx_len y
    refine ⟨_, rfl, a, C_Word, dx, _, _, rfl, ha, v_Word.C, v_Word.no _ (by simp), rfl, .inl ⟨tx x, rfl, by omega, tx x, rfl, ?_, "(", rfl, ?_, _, rfl, a, C_Word, dx, _, _, rfl, ha, v_Word.C, v_Word.no _ (by simp), rfl, .inl ⟨tx y, rfl, by omega, tx y, rfl, ?_, ")", rfl, ?_, ?_⟩⟩⟩
    · rw [e0]; omega
    · rw [e1, tx_len, List.length_append]; show x.length + 1 ≤ _; omega
    · rw [e2, tx_len, List.length_append, List.length_append]; show x.length + 1 + _ ≤ _; omega
    · rw [e3, tx_len]; unfold strL; rw [List.length_append, List.length_append, List.length_append]; show x.length + 1 + _ + 1 ≤ _; omega
    · show Q (.str (Str.empty ++ tx x ++ "(" ++ tx y ++ ")")) H
      rw [e3]
      exact q
def sp_Word_repr (K : PySem.W.Frag) : Sp := fun vs H Q _ => ∃ (a : Addr) (x y : List Nat), vs = [.ref a] ∧ WOb K H a x y ∧ Q (.str (tx (reprL x y))) H
theorem ok_Word_repr {f : Addr} {fd : FuncData} (F : Fun K "__repr__" "Word.__repr__" s_Word_repr f fd) {C_Word : Addr} (v_Word : OCls K "Word" C_Word ["_head", "_again"]) : FnOk P w K mg base CX0 1 f fd ["self"] (sp_Word_repr K) := by
  refine F.ok sc_Word_repr (fun vs H Q E h => ?_) (fun cdv A outer s H vs Q E hr h => ?_)
  · obtain ⟨_, _, _, rfl, _⟩ := h
    rfl
  · obtain ⟨a, x, y, rfl, ⟨⟨C, dx, hC, ha⟩, _, _, l1, l2, l3⟩, q⟩ := h
    have eC := (ns_inj hC v_Word.a).symm
    subst eC
    have hz := szl
    refine ⟨_, (pss_one (ps_ret (pe_joined (.cons pe_str (.cons (pe_fmt (pe_fld (pv 0) rfl)) (.cons pe_str (.cons (pe_fmt (pe_fld (pv 0) rfl)) (.cons pe_str .nil)))))))), ?_⟩
    have e0 : Str.empty ++ ("Word(\"" : Str) = tx [87, 111, 114, 100, 40, 34] := rfl
    have e1 : Str.empty ++ ("Word(\"" : Str) ++ tx y = tx ([87, 111, 114, 100, 40, 34] ++ y) := by rw [e0]; exact tx_add _ y
    have e2 : Str.empty ++ ("Word(\"" : Str) ++ tx y ++ "\", head=\"" = tx ([87, 111, 114, 100, 40, 34] ++ y ++ [34, 44, 32, 104, 101, 97, 100, 61, 34]) := by rw [e1]; exact tx_add _ [34, 44, 32, 104, 101, 97, 100, 61, 34]
    have e3 : Str.empty ++ ("Word(\"" : Str) ++ tx y ++ "\", head=\"" ++ tx x = tx ([87, 111, 114, 100, 40, 34] ++ y ++ [34, 44, 32, 104, 101, 97, 100, 61, 34] ++ x) := by rw [e2]; exact tx_add _ x
    have e4 : Str.empty ++ ("Word(\"" : Str) ++ tx y ++ "\", head=\"" ++ tx x ++ "\")" = tx (reprL x y) := by rw [e3]; exact tx_add _ [34, 41]
    have h1 := tx_len x
    have h2 := tx_len y
    refine ⟨"Word(\"", rfl, ?_, _, rfl, a, C_Word, dx, _, _, rfl, ha, v_Word.C, v_Word.no _ (by simp), rfl, .inl ⟨tx y, rfl, by omega, tx y, rfl, ?_, "\", head=\"", rfl, ?_, _, rfl, a, C_Word, dx, _, _, rfl, ha, v_Word.C, v_Word.no _ (by simp), rfl, .inl ⟨tx x, rfl, by omega, tx x, rfl, ?_, "\")", rfl, ?_, ?_⟩⟩⟩
    · rw [e0, tx_len]; show 6 ≤ _; omega
    · rw [e1, tx_len, List.length_append]; show 6 + _ ≤ _; omega
    · rw [e2, tx_len, List.length_append, List.length_append]; show 6 + _ + 9 ≤ _; omega
    · rw [e3, tx_len, List.length_append, List.length_append, List.length_append]; show 6 + _ + 9 + _ ≤ _; omega
    · rw [e4, tx_len]; unfold reprL; rw [List.length_append, List.length_append, List.length_append, List.length_append]; show 6 + _ + 9 + _ + 2 ≤ _; omega
    · show Q (.str (Str.empty ++ ("Word(\"" : Str) ++ tx y ++ "\", head=\"" ++ tx x ++ "\")")) H
      rw [e4]
      exact q
end
end WK
namespace WK
open PySem PySem.Spec PyProof.Rows L2
theorem made_ob {K : PySem.W.Frag} {H H' : Hp} {a dx C : Addr} {x y u v : List Nat} (hC : PySem.W.nsIn K mainGlobals "Word" = some (some (.ref C))) (na : H a = none) (nd : H dx = none) (ne : dx ≠ a)
    (kp : ∀ b o, b ≠ a → (upd (upd H dx (.own a)) a (.ins C dx [])) b = some o → H' b = some o) (hA : H' a = some (.ins C dx [("_head", .str (tx u)), ("_again", .str (tx v))]))
    (L : Lst (row x y) u v) (lu : u.length ≤ x.length) (lv : v.length ≤ y.length) (bx : Bin x) (bay : Bin y) (l1 : x.length ≤ 20000) (l2 : 1 ≤ y.length) (l3 : y.length ≤ 20000) : Same H H' ∧ WOb K H' a u v := by
  have sm : Same H (upd (upd H dx (.own a)) a (.ins C dx [])) := (same_upd nd).trans (same_upd (by rw [upd_ne ne.symm]; exact na))
  have B := L.binR (row_bin bx bay l2)
  exact ⟨fun c o e => kp c o (fun z => by rw [z, na] at e; cases e) (sm _ _ e), ⟨C, dx, hC, hA⟩, B.1, B.2, by omega, L.tells.pos, by omega⟩
section
variable {P : Program} {w : World} {K : PySem.W.Frag} {mg : Str → Option Value} {base : Heap}
def sp_Word_on (K : PySem.W.Frag) : Sp := fun vs H Q E => ∃ (a1 a2 : Addr) (x1 y1 x2 y2 : List Nat), vs = [.ref a1, .ref a2] ∧ WOb K H a1 x1 y1 ∧ WOb K H a2 x2 y2 ∧
  (((∀ L A, OnLen x1 y1 x2 y2 L A → L ≤ 20000 ∧ A ≤ 20000) ∧ x1.length + x2.length * y1.length ≤ 20000 ∧ y2.length * y1.length ≤ 20000 ∧ ∀ H' c u v, Same H H' → WOb K H' c u v → Lst (onr (row x1 y1) (row x2 y2)) u v → Q (.ref c) H') ∨
   ((∀ L A, OnLen x1 y1 x2 y2 L A → 20000 < L ∨ 20000 < A) ∧ ∀ C H', Same H H' → PySem.W.nsIn K mainGlobals "TooLong" = some (some (.ref C)) → E (.ref C) none H'))
theorem ok_Word_on {f : Addr} {fd : FuncData} (F : Fun K "on" "Word.on" s_Word_on f fd) {f_on_words : Addr} {fd_on_words : FuncData} (c_on_words : KCal P w K mg base (L2.CX P w) 6 f_on_words fd_on_words "on_words" ["one", "other", "most"] (sp_on K) 2 ["most"] [.int 20000]) {C_Word : Addr} {f_Wordi : Addr} {fd_Wordi : FuncData} (w_Word : OCal P w K mg base (L2.CX P w) 5 "Word" C_Word f_Wordi fd_Wordi ["self", "again", "head"] (sp_Word_init K) 1 ["head"]) (v_Word : OCls K "Word" C_Word ["_head", "_again"]) {f_Word_word : Addr} {fd_Word_word : FuncData} (q_Word_word : MCal P w K mg base CX0 1 C_Word "word" f_Word_word fd_Word_word ["self"] (sp_Word_word K)) : FnOk P w K mg base (L2.CX P w) 7 f fd ["self", "other"] (sp_Word_on K) := by
  refine F.okX sc_Word_on (fun vs H Q E h => ?_) (fun cdv A outer s H vs Q E hr h => ?_)
  · obtain ⟨_, _, _, _, _, _, rfl, _⟩ := h
    rfl
  · obtain ⟨a1, a2, x1, y1, x2, y2, rfl, hW1, hW2, h⟩ := h
    obtain ⟨⟨C1, d1, hC1, ha1⟩, _⟩ := id hW1
    obtain ⟨⟨C2, d2, hC2, ha2⟩, _⟩ := id hW2
    have eC := (ns_inj hC1 v_Word.a).symm
    subst eC
    have eC := (ns_inj hC2 v_Word.a).symm
    subst eC
    refine ⟨_, (pss_cons (ps_asg (pe_call c_on_words.G (hr.mono (by decide)) (by rfl) c_on_words.g c_on_words.kp c_on_words.b.choose_spec.2 c_on_words.b.choose_spec.1 (passes_call (takes_of rfl rfl rfl rfl) (fun _ _ _ _ h => h)) (pa_cons (pe_meth0 (pv 0) v_Word.C q_Word_word.M q_Word_word.G (hr.mono (by decide)) q_Word_word.b .nil pass0) (pa_cons (pe_meth0 (pv 1) v_Word.C q_Word_word.M q_Word_word.G (hr.mono (by decide)) q_Word_word.b .nil pass0) pa_nil))) (pg_tup (by rfl) (pgs_cons (pg_name (i := 2) sc_Word_on.nd rfl (Or.inl rfl)) (pgs_cons (pg_name (i := 3) sc_Word_on.nd rfl (Or.inl rfl)) pgs_nil))))
      (pss_one (ps_ret (pe_makeK w_Word.M w_Word.G (hr.mono (by decide)) (by rfl) w_Word.g w_Word.k1 (passes_call (takes_of rfl rfl rfl rfl) (fun _ _ _ _ h => h)) (pa_cons (pv 3) pa_nil) (pk_cons (pv 2) pk_nil))))), ?_⟩
    refine ⟨_, rfl, a1, d1, _, rfl, ha1, rfl, a1, x1, y1, rfl, hW1, fun p1 np1 => ?_⟩
    have s1 := same_upd (o := .tup [.str (tx x1), .str (tx y1)]) np1
    refine ⟨_, rfl, a2, d2, _, rfl, s1 _ _ ha2, rfl, a2, x2, y2, rfl, hW2.mono s1, fun p2 np2 => ?_⟩
    have s2 := same_upd (o := .tup [.str (tx x2), .str (tx y2)]) np2
    refine ⟨p1, p2, x1, y1, x2, y2, 20000, rfl, hW1.word.mono s2, (hW2.mono s1).word, fun L A ol h1 h2 => ?_, fun L A ol hc C H1 t1 hC => ?_⟩
    · rcases h with ⟨_, c1, c2, q⟩ | ⟨hl, _⟩
      · refine ⟨⟨c1, c2⟩, fun H1 p3 x y t1 hw3 L3 => ?_⟩
        obtain ⟨g1, g2, g3, g4, g5, g6⟩ := id hw3
        refine ⟨p3, _, rfl, SqT.of g1, rfl, _, _, rfl, _, _, rfl, rfl, ?_⟩
        refine ⟨_, rfl, _, rfl, rfl, rfl, fun a dx na nd ne => ?_⟩
        refine ⟨a, C_Word, dx, .str (tx x), .str (tx y), rfl, v_Word.a, upd_same, .inl ⟨x, y, rfl, rfl, g2, g3, g4, g5, g6, fun H2 u v kp L lu lv hA => ⟨rfl, ?_⟩⟩⟩
        obtain ⟨t2, ob⟩ := made_ob v_Word.a na nd ne kp hA L lu lv g2 g3 g4 g5 g6
        rw [funext L3.tells.eq] at L
        exact q H2 a u v (s1.trans (s2.trans (t1.trans t2))) ob L
      · have := hl L A ol
        omega
    · rcases h with ⟨hl, _⟩ | ⟨_, qe⟩
      · have := hl L A ol
        omega
      · exact qe C H1 (s1.trans (s2.trans t1)) hC
def sp_Word_other (K : PySem.W.Frag) : Sp := fun vs H Q E => ∃ (a : Addr) (x y : List Nat), vs = [.ref a] ∧ WOb K H a x y ∧ ∀ H' c u v, Same H H' → WOb K H' c u v → Lst (flr (row x y)) u v → Q (.ref c) H'
theorem ok_Word_other {f : Addr} {fd : FuncData} (F : Fun K "other" "Word.other" s_Word_other f fd) {f_other_of : Addr} {fd_other_of : FuncData} (c_other_of : Cal P w K mg base CX0 4 f_other_of fd_other_of "other_of" ["word"] (sp_other_of K)) {C_Word : Addr} {f_Wordi : Addr} {fd_Wordi : FuncData} (w_Word : OCal P w K mg base (L2.CX P w) 5 "Word" C_Word f_Wordi fd_Wordi ["self", "again", "head"] (sp_Word_init K) 1 ["head"]) (v_Word : OCls K "Word" C_Word ["_head", "_again"]) {f_Word_word : Addr} {fd_Word_word : FuncData} (q_Word_word : MCal P w K mg base CX0 1 C_Word "word" f_Word_word fd_Word_word ["self"] (sp_Word_word K)) : FnOk P w K mg base CX0 7 f fd ["self"] (sp_Word_other K) := by
  refine F.ok sc_Word_other (fun vs H Q E h => ?_) (fun cdv A outer s H vs Q E hr h => ?_)
  · obtain ⟨_, _, _, rfl, _⟩ := h
    rfl
  · obtain ⟨a1, x1, y1, rfl, hW1, q⟩ := h
    obtain ⟨⟨C1, d1, hC1, ha1⟩, _⟩ := id hW1
    have eC := (ns_inj hC1 v_Word.a).symm
    subst eC
    refine ⟨_, (pss_cons (ps_asg (pe_call c_other_of.G (hr.mono (by decide)) (by rfl) c_other_of.g c_other_of.kp c_other_of.b .nil pass0 (pa_cons (pe_meth0 (pv 0) v_Word.C q_Word_word.M q_Word_word.G (hr.mono (by decide)) q_Word_word.b .nil pass0) pa_nil)) (pg_tup (by rfl) (pgs_cons (pg_name (i := 1) sc_Word_other.nd rfl (Or.inl rfl)) (pgs_cons (pg_name (i := 2) sc_Word_other.nd rfl (Or.inl rfl)) pgs_nil))))
      (pss_one (ps_ret (pe_makeK w_Word.M w_Word.G (hr.mono (by decide)) (by rfl) w_Word.g w_Word.k1 passL (pa_cons (pv 2) pa_nil) (pk_cons (pv 1) pk_nil))))), ?_⟩
    refine ⟨_, rfl, a1, d1, _, rfl, ha1, rfl, a1, x1, y1, rfl, hW1, fun p1 np1 => ?_⟩
    have s1 := same_upd (o := .tup [.str (tx x1), .str (tx y1)]) np1
    refine ⟨p1, x1, y1, rfl, hW1.word, fun H1 p3 x y t1 hw3 _ _ L3 => ?_⟩
    obtain ⟨g1, g2, g3, g4, g5, g6⟩ := id hw3
    refine ⟨p3, _, rfl, SqT.of g1, rfl, _, _, rfl, _, _, rfl, rfl, ?_⟩
    refine ⟨_, rfl, _, rfl, rfl, rfl, fun a dx na nd ne => ?_⟩
    refine ⟨a, C_Word, dx, .str (tx x), .str (tx y), rfl, v_Word.a, upd_same, .inl ⟨x, y, rfl, rfl, g2, g3, g4, g5, g6, fun H2 u v kp L lu lv hA => ⟨rfl, ?_⟩⟩⟩
    obtain ⟨t2, ob⟩ := made_ob v_Word.a na nd ne kp hA L lu lv g2 g3 g4 g5 g6
    rw [funext L3.tells.eq] at L
    exact q H2 a u v (s1.trans (t1.trans t2)) ob L
end
end WK
namespace WK
open PySem PySem.Spec PyProof.Rows L2
abbrev s_law_names_of : Stmt := topS 60
theorem sc_law_names_of : FnScope ["_law_e", "_law_hits", "_law_words", "_law_word_here", "_law_hit"] ["_law_e"] (defScope s_law_names_of) := ⟨rfl, rfl, rfl, by decide +kernel, rfl, by decide +kernel, by decide +kernel⟩
theorem at_upd {H : Hp} {p : Addr} {o : HO} (h : H p = none) : (upd H p o) p = some o := upd_same
theorem ne_sub {K : PySem.W.Frag} {C D : Addr} (h : PySem.W.subIn K (.ref C) (.ref D) = some false) (h2 : PySem.W.subIn K (.ref C) (.ref C) = some true) : C ≠ D := fun z => by
  rw [z] at h h2
  rw [h2] at h
  cases h
def allN : List Str := ["Dry", "NoBack", "NoBeat", "NoBook", "NoDeed", "NoDrive", "NoFace", "NoFlow", "NoLane", "NoLine", "NoLoop", "NoMeasure", "NoModule", "NoName", "NoNet", "NoPart", "NoPlace", "NoRoom", "NoState", "NoText", "NoTitle", "NoWait", "NoWay", "NoWord", "Over", "TooDeep", "TooLong", "Twice"]
def hitL (n : Str) : List Bool := allN.map fun x => x == n
def selL (B : List Bool) (k : Nat) : List V := (((allN.zip B).take k).filter fun p => p.2).map fun p => V.str p.1
theorem selL_succ {B : List Bool} {k : Nat} {x : Str} {b : Bool} (hx : allN[k]? = some x) (hb : B[k]? = some b) : selL B (k + 1) = selL B k ++ (if b = true then [V.str x] else []) := by
  unfold selL
  have hz : (allN.zip B)[k]? = some (x, b) := by
    rw [List.getElem?_zip_eq_some]
    exact ⟨hx, hb⟩
  rw [List.take_succ, hz, List.filter_append, List.map_append]
  cases b <;> rfl
def hitNoWordn1 : List V := [V.bl false, V.bl false, V.bl false, V.bl false]
def hitNoWord1 : List V := hitNoWordn1
def hitNoWordn2 : List V := [V.bl false, V.bl false, V.bl false]
def hitNoWord2 : List V := hitNoWord1 ++ hitNoWordn2
def hitNoWordn3 : List V := [V.bl false, V.bl false, V.bl false]
def hitNoWord3 : List V := hitNoWord2 ++ hitNoWordn3
def hitNoWordn4 : List V := [V.bl false, V.bl false, V.bl false]
def hitNoWord4 : List V := hitNoWord3 ++ hitNoWordn4
def hitNoWordn5 : List V := [V.bl false, V.bl false, V.bl false]
def hitNoWord5 : List V := hitNoWord4 ++ hitNoWordn5
def hitNoWordn6 : List V := [V.bl false, V.bl false, V.bl false]
def hitNoWord6 : List V := hitNoWord5 ++ hitNoWordn6
def hitNoWordn7 : List V := [V.bl false, V.bl false, V.bl false]
def hitNoWord7 : List V := hitNoWord6 ++ hitNoWordn7
def hitNoWordn8 : List V := [V.bl false, V.bl true, V.bl false, V.bl false]
def hitNoWord8 : List V := hitNoWord7 ++ hitNoWordn8
def hitNoWordn9 : List V := [V.bl false, V.bl false]
def hitNoWord9 : List V := hitNoWord8 ++ hitNoWordn9
def hitTooLongn1 : List V := [V.bl false, V.bl false, V.bl false, V.bl false]
def hitTooLong1 : List V := hitTooLongn1
def hitTooLongn2 : List V := [V.bl false, V.bl false, V.bl false]
def hitTooLong2 : List V := hitTooLong1 ++ hitTooLongn2
def hitTooLongn3 : List V := [V.bl false, V.bl false, V.bl false]
def hitTooLong3 : List V := hitTooLong2 ++ hitTooLongn3
def hitTooLongn4 : List V := [V.bl false, V.bl false, V.bl false]
def hitTooLong4 : List V := hitTooLong3 ++ hitTooLongn4
def hitTooLongn5 : List V := [V.bl false, V.bl false, V.bl false]
def hitTooLong5 : List V := hitTooLong4 ++ hitTooLongn5
def hitTooLongn6 : List V := [V.bl false, V.bl false, V.bl false]
def hitTooLong6 : List V := hitTooLong5 ++ hitTooLongn6
def hitTooLongn7 : List V := [V.bl false, V.bl false, V.bl false]
def hitTooLong7 : List V := hitTooLong6 ++ hitTooLongn7
def hitTooLongn8 : List V := [V.bl false, V.bl false, V.bl false, V.bl false]
def hitTooLong8 : List V := hitTooLong7 ++ hitTooLongn8
def hitTooLongn9 : List V := [V.bl true, V.bl false]
def hitTooLong9 : List V := hitTooLong8 ++ hitTooLongn9
def wrdn1 : List V := [V.str "Dry", V.str "NoBack", V.str "NoBeat", V.str "NoBook", V.str "NoDeed", V.str "NoDrive", V.str "NoFace", V.str "NoFlow", V.str "NoLane"]
def wrd1 : List V := wrdn1
def wrdn2 : List V := [V.str "NoLine", V.str "NoLoop", V.str "NoMeasure", V.str "NoModule", V.str "NoName", V.str "NoNet", V.str "NoPart", V.str "NoPlace"]
def wrd2 : List V := wrd1 ++ wrdn2
def wrdn3 : List V := [V.str "NoRoom", V.str "NoState", V.str "NoText", V.str "NoTitle", V.str "NoWait", V.str "NoWay", V.str "NoWord", V.str "Over"]
def wrd3 : List V := wrd2 ++ wrdn3
def wrdn4 : List V := [V.str "TooDeep", V.str "TooLong", V.str "Twice"]
def wrd4 : List V := wrd3 ++ wrdn4
theorem selL_len (B : List Bool) (k : Nat) : (selL B k).length ≤ 28 := by
  unfold selL
  rw [List.length_map]
  refine Nat.le_trans (List.length_filter_le _ _) ?_
  rw [List.length_take, List.length_zip]
  have : allN.length = 28 := rfl
  omega
section
variable {P : Program} {w : World} {K : PySem.W.Frag} {mg : Str → Option Value} {base : Heap}
def sp_law_names_of (K : PySem.W.Frag) : Sp := fun vs H Q _ => ∃ (a C : Addr) (d : Option Addr), vs = [.ref a] ∧ H a = some (WX.ExT a (.ref C) d) ∧ WX.ExD H d ∧ ((PySem.W.nsIn K mainGlobals "NoWord" = some (some (.ref C)) ∧ ∀ H' p, Same H H' → H p = none → H' p = some (.lst [.str "NoWord"]) → Q (.ref p) H') ∨ (PySem.W.nsIn K mainGlobals "TooLong" = some (some (.ref C)) ∧ ∀ H' p, Same H H' → H p = none → H' p = some (.lst [.str "TooLong"]) → Q (.ref p) H'))
theorem exd_mono {H H' : Hp} {d : Option Addr} (s : Same H H') (h : WX.ExD H d) : WX.ExD H' d := by
  rcases h with h | ⟨dd, fs, h1, h2⟩
  · exact .inl h
  · exact .inr ⟨dd, fs, h1, s _ _ h2⟩
theorem ok_law_names_of {f : Addr} {fd : FuncData} (F : Fun K "_law_names_of" "_law_names_of" s_law_names_of f fd) (m_isinstance : mg "isinstance" = none) (m_zip : mg "zip" = none) {C_Dry : Addr} (e_Dry : DCal K mg "Dry" C_Dry) {C_NoBack : Addr} (e_NoBack : DCal K mg "NoBack" C_NoBack) {C_NoBeat : Addr} (e_NoBeat : DCal K mg "NoBeat" C_NoBeat) {C_NoBook : Addr} (e_NoBook : DCal K mg "NoBook" C_NoBook) {C_NoDeed : Addr} (e_NoDeed : DCal K mg "NoDeed" C_NoDeed) {C_NoDrive : Addr} (e_NoDrive : DCal K mg "NoDrive" C_NoDrive) {C_NoFace : Addr} (e_NoFace : DCal K mg "NoFace" C_NoFace) {C_NoFlow : Addr} (e_NoFlow : DCal K mg "NoFlow" C_NoFlow) {C_NoLane : Addr} (e_NoLane : DCal K mg "NoLane" C_NoLane) {C_NoLine : Addr} (e_NoLine : DCal K mg "NoLine" C_NoLine) {C_NoLoop : Addr} (e_NoLoop : DCal K mg "NoLoop" C_NoLoop) {C_NoMeasure : Addr} (e_NoMeasure : DCal K mg "NoMeasure" C_NoMeasure) {C_NoModule : Addr} (e_NoModule : DCal K mg "NoModule" C_NoModule) {C_NoName : Addr} (e_NoName : DCal K mg "NoName" C_NoName) {C_NoNet : Addr} (e_NoNet : DCal K mg "NoNet" C_NoNet) {C_NoPart : Addr} (e_NoPart : DCal K mg "NoPart" C_NoPart) {C_NoPlace : Addr} (e_NoPlace : DCal K mg "NoPlace" C_NoPlace) {C_NoRoom : Addr} (e_NoRoom : DCal K mg "NoRoom" C_NoRoom) {C_NoState : Addr} (e_NoState : DCal K mg "NoState" C_NoState) {C_NoText : Addr} (e_NoText : DCal K mg "NoText" C_NoText) {C_NoTitle : Addr} (e_NoTitle : DCal K mg "NoTitle" C_NoTitle) {C_NoWait : Addr} (e_NoWait : DCal K mg "NoWait" C_NoWait) {C_NoWay : Addr} (e_NoWay : DCal K mg "NoWay" C_NoWay) {C_NoWord : Addr} (e_NoWord : ECal K mg "NoWord" C_NoWord) {C_Over : Addr} (e_Over : DCal K mg "Over" C_Over) {C_TooDeep : Addr} (e_TooDeep : DCal K mg "TooDeep" C_TooDeep) {C_TooLong : Addr} (e_TooLong : ECal K mg "TooLong" C_TooLong) {C_Twice : Addr} (e_Twice : DCal K mg "Twice" C_Twice) (u_NoWord_Dry : PySem.W.subIn K (.ref C_NoWord) (.ref C_Dry) = some false) (u_NoWord_NoBack : PySem.W.subIn K (.ref C_NoWord) (.ref C_NoBack) = some false) (u_NoWord_NoBeat : PySem.W.subIn K (.ref C_NoWord) (.ref C_NoBeat) = some false) (u_NoWord_NoBook : PySem.W.subIn K (.ref C_NoWord) (.ref C_NoBook) = some false) (u_NoWord_NoDeed : PySem.W.subIn K (.ref C_NoWord) (.ref C_NoDeed) = some false) (u_NoWord_NoDrive : PySem.W.subIn K (.ref C_NoWord) (.ref C_NoDrive) = some false) (u_NoWord_NoFace : PySem.W.subIn K (.ref C_NoWord) (.ref C_NoFace) = some false) (u_NoWord_NoFlow : PySem.W.subIn K (.ref C_NoWord) (.ref C_NoFlow) = some false) (u_NoWord_NoLane : PySem.W.subIn K (.ref C_NoWord) (.ref C_NoLane) = some false) (u_NoWord_NoLine : PySem.W.subIn K (.ref C_NoWord) (.ref C_NoLine) = some false) (u_NoWord_NoLoop : PySem.W.subIn K (.ref C_NoWord) (.ref C_NoLoop) = some false) (u_NoWord_NoMeasure : PySem.W.subIn K (.ref C_NoWord) (.ref C_NoMeasure) = some false) (u_NoWord_NoModule : PySem.W.subIn K (.ref C_NoWord) (.ref C_NoModule) = some false) (u_NoWord_NoName : PySem.W.subIn K (.ref C_NoWord) (.ref C_NoName) = some false) (u_NoWord_NoNet : PySem.W.subIn K (.ref C_NoWord) (.ref C_NoNet) = some false) (u_NoWord_NoPart : PySem.W.subIn K (.ref C_NoWord) (.ref C_NoPart) = some false) (u_NoWord_NoPlace : PySem.W.subIn K (.ref C_NoWord) (.ref C_NoPlace) = some false) (u_NoWord_NoRoom : PySem.W.subIn K (.ref C_NoWord) (.ref C_NoRoom) = some false) (u_NoWord_NoState : PySem.W.subIn K (.ref C_NoWord) (.ref C_NoState) = some false) (u_NoWord_NoText : PySem.W.subIn K (.ref C_NoWord) (.ref C_NoText) = some false) (u_NoWord_NoTitle : PySem.W.subIn K (.ref C_NoWord) (.ref C_NoTitle) = some false) (u_NoWord_NoWait : PySem.W.subIn K (.ref C_NoWord) (.ref C_NoWait) = some false) (u_NoWord_NoWay : PySem.W.subIn K (.ref C_NoWord) (.ref C_NoWay) = some false) (u_NoWord_NoWord : PySem.W.subIn K (.ref C_NoWord) (.ref C_NoWord) = some true) (u_NoWord_Over : PySem.W.subIn K (.ref C_NoWord) (.ref C_Over) = some false) (u_NoWord_TooDeep : PySem.W.subIn K (.ref C_NoWord) (.ref C_TooDeep) = some false) (u_NoWord_TooLong : PySem.W.subIn K (.ref C_NoWord) (.ref C_TooLong) = some false) (u_NoWord_Twice : PySem.W.subIn K (.ref C_NoWord) (.ref C_Twice) = some false) (u_TooLong_Dry : PySem.W.subIn K (.ref C_TooLong) (.ref C_Dry) = some false) (u_TooLong_NoBack : PySem.W.subIn K (.ref C_TooLong) (.ref C_NoBack) = some false) (u_TooLong_NoBeat : PySem.W.subIn K (.ref C_TooLong) (.ref C_NoBeat) = some false) (u_TooLong_NoBook : PySem.W.subIn K (.ref C_TooLong) (.ref C_NoBook) = some false) (u_TooLong_NoDeed : PySem.W.subIn K (.ref C_TooLong) (.ref C_NoDeed) = some false) (u_TooLong_NoDrive : PySem.W.subIn K (.ref C_TooLong) (.ref C_NoDrive) = some false) (u_TooLong_NoFace : PySem.W.subIn K (.ref C_TooLong) (.ref C_NoFace) = some false) (u_TooLong_NoFlow : PySem.W.subIn K (.ref C_TooLong) (.ref C_NoFlow) = some false) (u_TooLong_NoLane : PySem.W.subIn K (.ref C_TooLong) (.ref C_NoLane) = some false) (u_TooLong_NoLine : PySem.W.subIn K (.ref C_TooLong) (.ref C_NoLine) = some false) (u_TooLong_NoLoop : PySem.W.subIn K (.ref C_TooLong) (.ref C_NoLoop) = some false) (u_TooLong_NoMeasure : PySem.W.subIn K (.ref C_TooLong) (.ref C_NoMeasure) = some false) (u_TooLong_NoModule : PySem.W.subIn K (.ref C_TooLong) (.ref C_NoModule) = some false) (u_TooLong_NoName : PySem.W.subIn K (.ref C_TooLong) (.ref C_NoName) = some false) (u_TooLong_NoNet : PySem.W.subIn K (.ref C_TooLong) (.ref C_NoNet) = some false) (u_TooLong_NoPart : PySem.W.subIn K (.ref C_TooLong) (.ref C_NoPart) = some false) (u_TooLong_NoPlace : PySem.W.subIn K (.ref C_TooLong) (.ref C_NoPlace) = some false) (u_TooLong_NoRoom : PySem.W.subIn K (.ref C_TooLong) (.ref C_NoRoom) = some false) (u_TooLong_NoState : PySem.W.subIn K (.ref C_TooLong) (.ref C_NoState) = some false) (u_TooLong_NoText : PySem.W.subIn K (.ref C_TooLong) (.ref C_NoText) = some false) (u_TooLong_NoTitle : PySem.W.subIn K (.ref C_TooLong) (.ref C_NoTitle) = some false) (u_TooLong_NoWait : PySem.W.subIn K (.ref C_TooLong) (.ref C_NoWait) = some false) (u_TooLong_NoWay : PySem.W.subIn K (.ref C_TooLong) (.ref C_NoWay) = some false) (u_TooLong_NoWord : PySem.W.subIn K (.ref C_TooLong) (.ref C_NoWord) = some false) (u_TooLong_Over : PySem.W.subIn K (.ref C_TooLong) (.ref C_Over) = some false) (u_TooLong_TooDeep : PySem.W.subIn K (.ref C_TooLong) (.ref C_TooDeep) = some false) (u_TooLong_TooLong : PySem.W.subIn K (.ref C_TooLong) (.ref C_TooLong) = some true) (u_TooLong_Twice : PySem.W.subIn K (.ref C_TooLong) (.ref C_Twice) = some false) : FnOk P w K mg base CX0 1 f fd ["_law_e"] (sp_law_names_of K) := by
  refine F.ok sc_law_names_of (fun vs H Q E h => ?_) (fun cdv A outer s H vs Q E hr h => ?_)
  · obtain ⟨_, _, _, rfl, _⟩ := h
    rfl
  · obtain ⟨a, C, d, rfl, ha, hd, h⟩ := h
    have hz := szl
    refine ⟨_, (C8.pss_cut (ps_set (i := 1) sc_law_names_of.nd rfl (Or.inl rfl) (pe_lst (pa_cons (pe_callB WX.call_isX (by rfl) m_isinstance (by decide +kernel) (pa_cons (pv 0) (pa_cons (pe_glob (v := .ref C_Dry) (by rfl) e_Dry.g rfl) pa_nil))) (pa_cons (pe_callB WX.call_isX (by rfl) m_isinstance (by decide +kernel) (pa_cons (pv 0) (pa_cons (pe_glob (v := .ref C_NoBack) (by rfl) e_NoBack.g rfl) pa_nil))) (pa_cons (pe_callB WX.call_isX (by rfl) m_isinstance (by decide +kernel) (pa_cons (pv 0) (pa_cons (pe_glob (v := .ref C_NoBeat) (by rfl) e_NoBeat.g rfl) pa_nil))) (pa_cons (pe_callB WX.call_isX (by rfl) m_isinstance (by decide +kernel) (pa_cons (pv 0) (pa_cons (pe_glob (v := .ref C_NoBook) (by rfl) e_NoBook.g rfl) pa_nil))) pa_nil))))))
      (C8.pss_cut (ps_set (i := 1) sc_law_names_of.nd rfl (Or.inl rfl) (pe_op op_cat (pv 1) (pe_lst (pa_cons (pe_callB WX.call_isX (by rfl) m_isinstance (by decide +kernel) (pa_cons (pv 0) (pa_cons (pe_glob (v := .ref C_NoDeed) (by rfl) e_NoDeed.g rfl) pa_nil))) (pa_cons (pe_callB WX.call_isX (by rfl) m_isinstance (by decide +kernel) (pa_cons (pv 0) (pa_cons (pe_glob (v := .ref C_NoDrive) (by rfl) e_NoDrive.g rfl) pa_nil))) (pa_cons (pe_callB WX.call_isX (by rfl) m_isinstance (by decide +kernel) (pa_cons (pv 0) (pa_cons (pe_glob (v := .ref C_NoFace) (by rfl) e_NoFace.g rfl) pa_nil))) pa_nil))))))
      (C8.pss_cut (ps_set (i := 1) sc_law_names_of.nd rfl (Or.inl rfl) (pe_op op_cat (pv 1) (pe_lst (pa_cons (pe_callB WX.call_isX (by rfl) m_isinstance (by decide +kernel) (pa_cons (pv 0) (pa_cons (pe_glob (v := .ref C_NoFlow) (by rfl) e_NoFlow.g rfl) pa_nil))) (pa_cons (pe_callB WX.call_isX (by rfl) m_isinstance (by decide +kernel) (pa_cons (pv 0) (pa_cons (pe_glob (v := .ref C_NoLane) (by rfl) e_NoLane.g rfl) pa_nil))) (pa_cons (pe_callB WX.call_isX (by rfl) m_isinstance (by decide +kernel) (pa_cons (pv 0) (pa_cons (pe_glob (v := .ref C_NoLine) (by rfl) e_NoLine.g rfl) pa_nil))) pa_nil))))))
      (C8.pss_cut (ps_set (i := 1) sc_law_names_of.nd rfl (Or.inl rfl) (pe_op op_cat (pv 1) (pe_lst (pa_cons (pe_callB WX.call_isX (by rfl) m_isinstance (by decide +kernel) (pa_cons (pv 0) (pa_cons (pe_glob (v := .ref C_NoLoop) (by rfl) e_NoLoop.g rfl) pa_nil))) (pa_cons (pe_callB WX.call_isX (by rfl) m_isinstance (by decide +kernel) (pa_cons (pv 0) (pa_cons (pe_glob (v := .ref C_NoMeasure) (by rfl) e_NoMeasure.g rfl) pa_nil))) (pa_cons (pe_callB WX.call_isX (by rfl) m_isinstance (by decide +kernel) (pa_cons (pv 0) (pa_cons (pe_glob (v := .ref C_NoModule) (by rfl) e_NoModule.g rfl) pa_nil))) pa_nil))))))
      (C8.pss_cut (ps_set (i := 1) sc_law_names_of.nd rfl (Or.inl rfl) (pe_op op_cat (pv 1) (pe_lst (pa_cons (pe_callB WX.call_isX (by rfl) m_isinstance (by decide +kernel) (pa_cons (pv 0) (pa_cons (pe_glob (v := .ref C_NoName) (by rfl) e_NoName.g rfl) pa_nil))) (pa_cons (pe_callB WX.call_isX (by rfl) m_isinstance (by decide +kernel) (pa_cons (pv 0) (pa_cons (pe_glob (v := .ref C_NoNet) (by rfl) e_NoNet.g rfl) pa_nil))) (pa_cons (pe_callB WX.call_isX (by rfl) m_isinstance (by decide +kernel) (pa_cons (pv 0) (pa_cons (pe_glob (v := .ref C_NoPart) (by rfl) e_NoPart.g rfl) pa_nil))) pa_nil))))))
      (C8.pss_cut (ps_set (i := 1) sc_law_names_of.nd rfl (Or.inl rfl) (pe_op op_cat (pv 1) (pe_lst (pa_cons (pe_callB WX.call_isX (by rfl) m_isinstance (by decide +kernel) (pa_cons (pv 0) (pa_cons (pe_glob (v := .ref C_NoPlace) (by rfl) e_NoPlace.g rfl) pa_nil))) (pa_cons (pe_callB WX.call_isX (by rfl) m_isinstance (by decide +kernel) (pa_cons (pv 0) (pa_cons (pe_glob (v := .ref C_NoRoom) (by rfl) e_NoRoom.g rfl) pa_nil))) (pa_cons (pe_callB WX.call_isX (by rfl) m_isinstance (by decide +kernel) (pa_cons (pv 0) (pa_cons (pe_glob (v := .ref C_NoState) (by rfl) e_NoState.g rfl) pa_nil))) pa_nil))))))
      (C8.pss_cut (ps_set (i := 1) sc_law_names_of.nd rfl (Or.inl rfl) (pe_op op_cat (pv 1) (pe_lst (pa_cons (pe_callB WX.call_isX (by rfl) m_isinstance (by decide +kernel) (pa_cons (pv 0) (pa_cons (pe_glob (v := .ref C_NoText) (by rfl) e_NoText.g rfl) pa_nil))) (pa_cons (pe_callB WX.call_isX (by rfl) m_isinstance (by decide +kernel) (pa_cons (pv 0) (pa_cons (pe_glob (v := .ref C_NoTitle) (by rfl) e_NoTitle.g rfl) pa_nil))) (pa_cons (pe_callB WX.call_isX (by rfl) m_isinstance (by decide +kernel) (pa_cons (pv 0) (pa_cons (pe_glob (v := .ref C_NoWait) (by rfl) e_NoWait.g rfl) pa_nil))) pa_nil))))))
      (C8.pss_cut (ps_set (i := 1) sc_law_names_of.nd rfl (Or.inl rfl) (pe_op op_cat (pv 1) (pe_lst (pa_cons (pe_callB WX.call_isX (by rfl) m_isinstance (by decide +kernel) (pa_cons (pv 0) (pa_cons (pe_glob (v := .ref C_NoWay) (by rfl) e_NoWay.g rfl) pa_nil))) (pa_cons (pe_callB WX.call_isX (by rfl) m_isinstance (by decide +kernel) (pa_cons (pv 0) (pa_cons (pe_glob (v := .ref C_NoWord) (by rfl) e_NoWord.g rfl) pa_nil))) (pa_cons (pe_callB WX.call_isX (by rfl) m_isinstance (by decide +kernel) (pa_cons (pv 0) (pa_cons (pe_glob (v := .ref C_Over) (by rfl) e_Over.g rfl) pa_nil))) (pa_cons (pe_callB WX.call_isX (by rfl) m_isinstance (by decide +kernel) (pa_cons (pv 0) (pa_cons (pe_glob (v := .ref C_TooDeep) (by rfl) e_TooDeep.g rfl) pa_nil))) pa_nil)))))))
      (C8.pss_cut (ps_set (i := 1) sc_law_names_of.nd rfl (Or.inl rfl) (pe_op op_cat (pv 1) (pe_lst (pa_cons (pe_callB WX.call_isX (by rfl) m_isinstance (by decide +kernel) (pa_cons (pv 0) (pa_cons (pe_glob (v := .ref C_TooLong) (by rfl) e_TooLong.g rfl) pa_nil))) (pa_cons (pe_callB WX.call_isX (by rfl) m_isinstance (by decide +kernel) (pa_cons (pv 0) (pa_cons (pe_glob (v := .ref C_Twice) (by rfl) e_Twice.g rfl) pa_nil))) pa_nil)))))
      (C8.pss_cut (ps_set (i := 2) sc_law_names_of.nd rfl (Or.inl rfl) (pe_lst (pa_cons pe_str (pa_cons pe_str (pa_cons pe_str (pa_cons pe_str (pa_cons pe_str (pa_cons pe_str (pa_cons pe_str (pa_cons pe_str (pa_cons pe_str pa_nil)))))))))))
      (C8.pss_cut (ps_set (i := 2) sc_law_names_of.nd rfl (Or.inl rfl) (pe_op op_cat (pv 2) (pe_lst (pa_cons pe_str (pa_cons pe_str (pa_cons pe_str (pa_cons pe_str (pa_cons pe_str (pa_cons pe_str (pa_cons pe_str (pa_cons pe_str pa_nil)))))))))))
      (C8.pss_cut (ps_set (i := 2) sc_law_names_of.nd rfl (Or.inl rfl) (pe_op op_cat (pv 2) (pe_lst (pa_cons pe_str (pa_cons pe_str (pa_cons pe_str (pa_cons pe_str (pa_cons pe_str (pa_cons pe_str (pa_cons pe_str (pa_cons pe_str pa_nil)))))))))))
      (C8.pss_cut (ps_set (i := 2) sc_law_names_of.nd rfl (Or.inl rfl) (pe_op op_cat (pv 2) (pe_lst (pa_cons pe_str (pa_cons pe_str (pa_cons pe_str pa_nil))))))
      (pss_one (ps_ret (pe_lc (own := [("_law_word_here", 3), ("_law_hit", 4)]) (g := gTup K 2 (gCons (gName 3) (gCons (gName 4) gNil))) (by rfl) sc_law_names_of.nd (pi_zip (by rfl) m_zip (pa_cons (pv 2) (pa_cons (pv 1) pa_nil))) (blkOk_by (N := ["_law_e", "_law_hits", "_law_words", "_law_word_here", "_law_hit"]) (sc := defScope s_law_names_of) (by decide +kernel)) (fun _ _ _ _ _ => pg_tup (by rfl) (pgs_cons (pg_name (i := 3) sc_law_names_of.nd rfl (Or.inl rfl)) (pgs_cons (pg_name (i := 4) sc_law_names_of.nd rfl (Or.inl rfl)) pgs_nil))) (fun _ _ _ _ _ => pts_one (pt_val (pv 4))) (fun _ _ _ _ _ => (pv 3)))))))))))))))))), ?_⟩
    rcases h with ⟨hC, q⟩ | ⟨hC, q⟩
    · have eC := (ns_inj hC e_NoWord.a).symm
      subst eC
      have haK := ha
      have hdK := hd
      refine ⟨fun σ H' => Same H H' ∧ ∃ l, H' l = some (.lst hitNoWord1) ∧ σ = [some (.ref a), some (.ref l), none, none, none], ?_, fun σ H1 hm => ?_⟩
      · exact ⟨_, rfl, a, C_NoWord, d, _, .ref C_Dry, false, rfl, ha, hd, e_NoWord.E, .own C_Dry, (e_Dry.kit u_NoWord_Dry (fun z => absurd (by simpa using z) (ne_sub u_NoWord_Dry u_NoWord_NoWord))), _, rfl, a, C_NoWord, d, _, .ref C_NoBack, false, rfl, ha, hd, e_NoWord.E, .own C_NoBack, (e_NoBack.kit u_NoWord_NoBack (fun z => absurd (by simpa using z) (ne_sub u_NoWord_NoBack u_NoWord_NoWord))), _, rfl, a, C_NoWord, d, _, .ref C_NoBeat, false, rfl, ha, hd, e_NoWord.E, .own C_NoBeat, (e_NoBeat.kit u_NoWord_NoBeat (fun z => absurd (by simpa using z) (ne_sub u_NoWord_NoBeat u_NoWord_NoWord))), _, rfl, a, C_NoWord, d, _, .ref C_NoBook, false, rfl, ha, hd, e_NoWord.E, .own C_NoBook, (e_NoBook.kit u_NoWord_NoBook (fun z => absurd (by simpa using z) (ne_sub u_NoWord_NoBook u_NoWord_NoWord))), by show 4 ≤ sizeLine; decide, fun l nl => ⟨same_upd nl, l, at_upd nl, rfl⟩⟩
      clear ha hd
      obtain ⟨s0, l1, hl, rfl⟩ := hm
      have ha := s0 _ _ haK
      have hd := exd_mono s0 hdK
      refine ⟨fun σ H' => Same H H' ∧ ∃ l, H' l = some (.lst hitNoWord2) ∧ σ = [some (.ref a), some (.ref l), none, none, none], ?_, fun σ H2 hm => ?_⟩
      · refine ⟨_, rfl, _, rfl, a, C_NoWord, d, _, .ref C_NoDeed, false, rfl, ha, hd, e_NoWord.E, .own C_NoDeed, (e_NoDeed.kit u_NoWord_NoDeed (fun z => absurd (by simpa using z) (ne_sub u_NoWord_NoDeed u_NoWord_NoWord))), _, rfl, a, C_NoWord, d, _, .ref C_NoDrive, false, rfl, ha, hd, e_NoWord.E, .own C_NoDrive, (e_NoDrive.kit u_NoWord_NoDrive (fun z => absurd (by simpa using z) (ne_sub u_NoWord_NoDrive u_NoWord_NoWord))), _, rfl, a, C_NoWord, d, _, .ref C_NoFace, false, rfl, ha, hd, e_NoWord.E, .own C_NoFace, (e_NoFace.kit u_NoWord_NoFace (fun z => absurd (by simpa using z) (ne_sub u_NoWord_NoFace u_NoWord_NoWord))), by show 3 ≤ sizeLine; decide, fun l nl => ?_⟩
        have t := same_upd (o := .lst hitNoWordn2) nl
        exact ⟨_, _, _, _, rfl, rfl, t _ _ hl, at_upd nl, by show 7 ≤ sizeLine; decide, fun m nm => ⟨s0.trans (t.trans (same_upd nm)), m, at_upd nm, rfl⟩⟩
      clear ha hd s0 hl
      obtain ⟨s0, l2, hl, rfl⟩ := hm
      have ha := s0 _ _ haK
      have hd := exd_mono s0 hdK
      refine ⟨fun σ H' => Same H H' ∧ ∃ l, H' l = some (.lst hitNoWord3) ∧ σ = [some (.ref a), some (.ref l), none, none, none], ?_, fun σ H3 hm => ?_⟩
      · refine ⟨_, rfl, _, rfl, a, C_NoWord, d, _, .ref C_NoFlow, false, rfl, ha, hd, e_NoWord.E, .own C_NoFlow, (e_NoFlow.kit u_NoWord_NoFlow (fun z => absurd (by simpa using z) (ne_sub u_NoWord_NoFlow u_NoWord_NoWord))), _, rfl, a, C_NoWord, d, _, .ref C_NoLane, false, rfl, ha, hd, e_NoWord.E, .own C_NoLane, (e_NoLane.kit u_NoWord_NoLane (fun z => absurd (by simpa using z) (ne_sub u_NoWord_NoLane u_NoWord_NoWord))), _, rfl, a, C_NoWord, d, _, .ref C_NoLine, false, rfl, ha, hd, e_NoWord.E, .own C_NoLine, (e_NoLine.kit u_NoWord_NoLine (fun z => absurd (by simpa using z) (ne_sub u_NoWord_NoLine u_NoWord_NoWord))), by show 3 ≤ sizeLine; decide, fun l nl => ?_⟩
        have t := same_upd (o := .lst hitNoWordn3) nl
        exact ⟨_, _, _, _, rfl, rfl, t _ _ hl, at_upd nl, by show 10 ≤ sizeLine; decide, fun m nm => ⟨s0.trans (t.trans (same_upd nm)), m, at_upd nm, rfl⟩⟩
      clear ha hd s0 hl
      obtain ⟨s0, l3, hl, rfl⟩ := hm
      have ha := s0 _ _ haK
      have hd := exd_mono s0 hdK
      refine ⟨fun σ H' => Same H H' ∧ ∃ l, H' l = some (.lst hitNoWord4) ∧ σ = [some (.ref a), some (.ref l), none, none, none], ?_, fun σ H4 hm => ?_⟩
      · refine ⟨_, rfl, _, rfl, a, C_NoWord, d, _, .ref C_NoLoop, false, rfl, ha, hd, e_NoWord.E, .own C_NoLoop, (e_NoLoop.kit u_NoWord_NoLoop (fun z => absurd (by simpa using z) (ne_sub u_NoWord_NoLoop u_NoWord_NoWord))), _, rfl, a, C_NoWord, d, _, .ref C_NoMeasure, false, rfl, ha, hd, e_NoWord.E, .own C_NoMeasure, (e_NoMeasure.kit u_NoWord_NoMeasure (fun z => absurd (by simpa using z) (ne_sub u_NoWord_NoMeasure u_NoWord_NoWord))), _, rfl, a, C_NoWord, d, _, .ref C_NoModule, false, rfl, ha, hd, e_NoWord.E, .own C_NoModule, (e_NoModule.kit u_NoWord_NoModule (fun z => absurd (by simpa using z) (ne_sub u_NoWord_NoModule u_NoWord_NoWord))), by show 3 ≤ sizeLine; decide, fun l nl => ?_⟩
        have t := same_upd (o := .lst hitNoWordn4) nl
        exact ⟨_, _, _, _, rfl, rfl, t _ _ hl, at_upd nl, by show 13 ≤ sizeLine; decide, fun m nm => ⟨s0.trans (t.trans (same_upd nm)), m, at_upd nm, rfl⟩⟩
      clear ha hd s0 hl
      obtain ⟨s0, l4, hl, rfl⟩ := hm
      have ha := s0 _ _ haK
      have hd := exd_mono s0 hdK
      refine ⟨fun σ H' => Same H H' ∧ ∃ l, H' l = some (.lst hitNoWord5) ∧ σ = [some (.ref a), some (.ref l), none, none, none], ?_, fun σ H5 hm => ?_⟩
      · refine ⟨_, rfl, _, rfl, a, C_NoWord, d, _, .ref C_NoName, false, rfl, ha, hd, e_NoWord.E, .own C_NoName, (e_NoName.kit u_NoWord_NoName (fun z => absurd (by simpa using z) (ne_sub u_NoWord_NoName u_NoWord_NoWord))), _, rfl, a, C_NoWord, d, _, .ref C_NoNet, false, rfl, ha, hd, e_NoWord.E, .own C_NoNet, (e_NoNet.kit u_NoWord_NoNet (fun z => absurd (by simpa using z) (ne_sub u_NoWord_NoNet u_NoWord_NoWord))), _, rfl, a, C_NoWord, d, _, .ref C_NoPart, false, rfl, ha, hd, e_NoWord.E, .own C_NoPart, (e_NoPart.kit u_NoWord_NoPart (fun z => absurd (by simpa using z) (ne_sub u_NoWord_NoPart u_NoWord_NoWord))), by show 3 ≤ sizeLine; decide, fun l nl => ?_⟩
        have t := same_upd (o := .lst hitNoWordn5) nl
        exact ⟨_, _, _, _, rfl, rfl, t _ _ hl, at_upd nl, by show 16 ≤ sizeLine; decide, fun m nm => ⟨s0.trans (t.trans (same_upd nm)), m, at_upd nm, rfl⟩⟩
      clear ha hd s0 hl
      obtain ⟨s0, l5, hl, rfl⟩ := hm
      have ha := s0 _ _ haK
      have hd := exd_mono s0 hdK
      refine ⟨fun σ H' => Same H H' ∧ ∃ l, H' l = some (.lst hitNoWord6) ∧ σ = [some (.ref a), some (.ref l), none, none, none], ?_, fun σ H6 hm => ?_⟩
      · refine ⟨_, rfl, _, rfl, a, C_NoWord, d, _, .ref C_NoPlace, false, rfl, ha, hd, e_NoWord.E, .own C_NoPlace, (e_NoPlace.kit u_NoWord_NoPlace (fun z => absurd (by simpa using z) (ne_sub u_NoWord_NoPlace u_NoWord_NoWord))), _, rfl, a, C_NoWord, d, _, .ref C_NoRoom, false, rfl, ha, hd, e_NoWord.E, .own C_NoRoom, (e_NoRoom.kit u_NoWord_NoRoom (fun z => absurd (by simpa using z) (ne_sub u_NoWord_NoRoom u_NoWord_NoWord))), _, rfl, a, C_NoWord, d, _, .ref C_NoState, false, rfl, ha, hd, e_NoWord.E, .own C_NoState, (e_NoState.kit u_NoWord_NoState (fun z => absurd (by simpa using z) (ne_sub u_NoWord_NoState u_NoWord_NoWord))), by show 3 ≤ sizeLine; decide, fun l nl => ?_⟩
        have t := same_upd (o := .lst hitNoWordn6) nl
        exact ⟨_, _, _, _, rfl, rfl, t _ _ hl, at_upd nl, by show 19 ≤ sizeLine; decide, fun m nm => ⟨s0.trans (t.trans (same_upd nm)), m, at_upd nm, rfl⟩⟩
      clear ha hd s0 hl
      obtain ⟨s0, l6, hl, rfl⟩ := hm
      have ha := s0 _ _ haK
      have hd := exd_mono s0 hdK
      refine ⟨fun σ H' => Same H H' ∧ ∃ l, H' l = some (.lst hitNoWord7) ∧ σ = [some (.ref a), some (.ref l), none, none, none], ?_, fun σ H7 hm => ?_⟩
      · refine ⟨_, rfl, _, rfl, a, C_NoWord, d, _, .ref C_NoText, false, rfl, ha, hd, e_NoWord.E, .own C_NoText, (e_NoText.kit u_NoWord_NoText (fun z => absurd (by simpa using z) (ne_sub u_NoWord_NoText u_NoWord_NoWord))), _, rfl, a, C_NoWord, d, _, .ref C_NoTitle, false, rfl, ha, hd, e_NoWord.E, .own C_NoTitle, (e_NoTitle.kit u_NoWord_NoTitle (fun z => absurd (by simpa using z) (ne_sub u_NoWord_NoTitle u_NoWord_NoWord))), _, rfl, a, C_NoWord, d, _, .ref C_NoWait, false, rfl, ha, hd, e_NoWord.E, .own C_NoWait, (e_NoWait.kit u_NoWord_NoWait (fun z => absurd (by simpa using z) (ne_sub u_NoWord_NoWait u_NoWord_NoWord))), by show 3 ≤ sizeLine; decide, fun l nl => ?_⟩
        have t := same_upd (o := .lst hitNoWordn7) nl
        exact ⟨_, _, _, _, rfl, rfl, t _ _ hl, at_upd nl, by show 22 ≤ sizeLine; decide, fun m nm => ⟨s0.trans (t.trans (same_upd nm)), m, at_upd nm, rfl⟩⟩
      clear ha hd s0 hl
      obtain ⟨s0, l7, hl, rfl⟩ := hm
      have ha := s0 _ _ haK
      have hd := exd_mono s0 hdK
      refine ⟨fun σ H' => Same H H' ∧ ∃ l, H' l = some (.lst hitNoWord8) ∧ σ = [some (.ref a), some (.ref l), none, none, none], ?_, fun σ H8 hm => ?_⟩
      · refine ⟨_, rfl, _, rfl, a, C_NoWord, d, _, .ref C_NoWay, false, rfl, ha, hd, e_NoWord.E, .own C_NoWay, (e_NoWay.kit u_NoWord_NoWay (fun z => absurd (by simpa using z) (ne_sub u_NoWord_NoWay u_NoWord_NoWord))), _, rfl, a, C_NoWord, d, _, .ref C_NoWord, true, rfl, ha, hd, e_NoWord.E, .own C_NoWord, ECal.self, _, rfl, a, C_NoWord, d, _, .ref C_Over, false, rfl, ha, hd, e_NoWord.E, .own C_Over, (e_Over.kit u_NoWord_Over (fun z => absurd (by simpa using z) (ne_sub u_NoWord_Over u_NoWord_NoWord))), _, rfl, a, C_NoWord, d, _, .ref C_TooDeep, false, rfl, ha, hd, e_NoWord.E, .own C_TooDeep, (e_TooDeep.kit u_NoWord_TooDeep (fun z => absurd (by simpa using z) (ne_sub u_NoWord_TooDeep u_NoWord_NoWord))), by show 4 ≤ sizeLine; decide, fun l nl => ?_⟩
        have t := same_upd (o := .lst hitNoWordn8) nl
        exact ⟨_, _, _, _, rfl, rfl, t _ _ hl, at_upd nl, by show 26 ≤ sizeLine; decide, fun m nm => ⟨s0.trans (t.trans (same_upd nm)), m, at_upd nm, rfl⟩⟩
      clear ha hd s0 hl
      obtain ⟨s0, l8, hl, rfl⟩ := hm
      have ha := s0 _ _ haK
      have hd := exd_mono s0 hdK
      refine ⟨fun σ H' => Same H H' ∧ ∃ l, H' l = some (.lst hitNoWord9) ∧ σ = [some (.ref a), some (.ref l), none, none, none], ?_, fun σ H9 hm => ?_⟩
      · refine ⟨_, rfl, _, rfl, a, C_NoWord, d, _, .ref C_TooLong, false, rfl, ha, hd, e_NoWord.E, .own C_TooLong, (e_TooLong.kit u_NoWord_TooLong (fun z => absurd (by simpa using z) (ne_sub u_NoWord_TooLong u_NoWord_NoWord))), _, rfl, a, C_NoWord, d, _, .ref C_Twice, false, rfl, ha, hd, e_NoWord.E, .own C_Twice, (e_Twice.kit u_NoWord_Twice (fun z => absurd (by simpa using z) (ne_sub u_NoWord_Twice u_NoWord_NoWord))), by show 2 ≤ sizeLine; decide, fun l nl => ?_⟩
        have t := same_upd (o := .lst hitNoWordn9) nl
        exact ⟨_, _, _, _, rfl, rfl, t _ _ hl, at_upd nl, by show 28 ≤ sizeLine; decide, fun m nm => ⟨s0.trans (t.trans (same_upd nm)), m, at_upd nm, rfl⟩⟩
      clear ha hd s0 hl
      obtain ⟨s0, l9, hl, rfl⟩ := hm
      have ha := s0 _ _ haK
      have hd := exd_mono s0 hdK
      have hB : H9 l9 = some (.lst ((hitL "NoWord").map V.bl)) := hl
      clear hl ha hd
      refine ⟨fun σ H' => Same H9 H' ∧ ∃ l, H' l = some (.lst wrd1) ∧ σ = [some (.ref a), some (.ref l9), some (.ref l), none, none], ?_, fun σ W1 hm => ?_⟩
      · exact ⟨by show 9 ≤ sizeLine; decide, fun l nl => ⟨same_upd nl, l, at_upd nl, rfl⟩⟩
      obtain ⟨r0, m1, hl, rfl⟩ := hm
      refine ⟨fun σ H' => Same H9 H' ∧ ∃ l, H' l = some (.lst wrd2) ∧ σ = [some (.ref a), some (.ref l9), some (.ref l), none, none], ?_, fun σ W2 hm => ?_⟩
      · refine ⟨_, rfl, by show 8 ≤ sizeLine; decide, fun l nl => ?_⟩
        have t := same_upd (o := .lst wrdn2) nl
        exact ⟨_, _, _, _, rfl, rfl, t _ _ hl, at_upd nl, by show 17 ≤ sizeLine; decide, fun m nm => ⟨r0.trans (t.trans (same_upd nm)), m, at_upd nm, rfl⟩⟩
      clear r0 hl
      obtain ⟨r0, m2, hl, rfl⟩ := hm
      refine ⟨fun σ H' => Same H9 H' ∧ ∃ l, H' l = some (.lst wrd3) ∧ σ = [some (.ref a), some (.ref l9), some (.ref l), none, none], ?_, fun σ W3 hm => ?_⟩
      · refine ⟨_, rfl, by show 8 ≤ sizeLine; decide, fun l nl => ?_⟩
        have t := same_upd (o := .lst wrdn3) nl
        exact ⟨_, _, _, _, rfl, rfl, t _ _ hl, at_upd nl, by show 25 ≤ sizeLine; decide, fun m nm => ⟨r0.trans (t.trans (same_upd nm)), m, at_upd nm, rfl⟩⟩
      clear r0 hl
      obtain ⟨r0, m3, hl, rfl⟩ := hm
      refine ⟨fun σ H' => Same H9 H' ∧ ∃ l, H' l = some (.lst wrd4) ∧ σ = [some (.ref a), some (.ref l9), some (.ref l), none, none], ?_, fun σ W4 hm => ?_⟩
      · refine ⟨_, rfl, by show 3 ≤ sizeLine; decide, fun l nl => ?_⟩
        have t := same_upd (o := .lst wrdn4) nl
        exact ⟨_, _, _, _, rfl, rfl, t _ _ hl, at_upd nl, by show 28 ≤ sizeLine; decide, fun m nm => ⟨r0.trans (t.trans (same_upd nm)), m, at_upd nm, rfl⟩⟩
      clear r0 hl
      obtain ⟨r0, m4, hl, rfl⟩ := hm
      have hW : W4 m4 = some (.lst (allN.map V.str)) := hl
      have hB := r0 _ _ hB
      have s0 := s0.trans r0
      refine ⟨_, rfl, _, rfl, m4, l9, _, _, rfl, SqL.of hW, SqL.of hB, fun D nD => ?_⟩
      refine lc_it (walk_zip (K := K) (n := 28) (a := m4) (b := l9) (xs := allN.map V.str) (ys := (hitL "NoWord").map V.bl) rfl) (fun k H' => Same W4 H' ∧ H' D = some (.lst (selL (hitL "NoWord") k))) ⟨same_upd nD, upd_same⟩ (fun k H' _ hP => ⟨SqL.of (hP.1 _ _ hW), SqL.of (hP.1 _ _ hB)⟩) (fun k z H1 H2 hk hP hY => ?_) (fun H1 hP => ?_)
      · obtain ⟨s1, hD⟩ := hP
        obtain ⟨T, u1, u2, rfl, nT, rfl, e1, e2⟩ := hY
        obtain ⟨x, hx, rfl⟩ : ∃ x, allN[k]? = some x ∧ V.str x = u1 := by
          have e1 : (allN.map V.str)[k]? = some u1 := e1
          rw [List.getElem?_map] at e1
          exact Option.map_eq_some_iff.mp e1
        obtain ⟨bb, hb, rfl⟩ : ∃ x, (hitL "NoWord")[k]? = some x ∧ V.bl x = u2 := by
          have e2 : ((hitL "NoWord").map V.bl)[k]? = some u2 := e2
          rw [List.getElem?_map] at e2
          exact Option.map_eq_some_iff.mp e2
        have es := selL_succ hx hb
        have hD2 := same_upd (o := .tup [V.str x, V.bl bb]) nT _ _ hD
        refine ⟨T, _, rfl, SqT.of upd_same, rfl, _, _, rfl, _, _, rfl, rfl, rfl, ?_⟩
        refine ⟨_, rfl, bb, rfl, ?_⟩
        cases bb
        · rw [if_neg (by decide)]
          rw [if_neg (by decide), List.append_nil] at es
          exact ⟨s1.trans (same_upd nT), by rw [es]; exact hD2⟩
        · rw [if_pos rfl]
          rw [if_pos rfl] at es
          refine ⟨_, rfl, _, hD2, by have := selL_len (hitL "NoWord") k; omega, Same.upd (s1.trans (same_upd nT)) nD, ?_⟩
          rw [es]
          exact upd_same
      · obtain ⟨s1, hD⟩ := hP
        exact q H1 D (s0.trans s1) (s0.free nD) hD
    · have eC := (ns_inj hC e_TooLong.a).symm
      subst eC
      have haK := ha
      have hdK := hd
      refine ⟨fun σ H' => Same H H' ∧ ∃ l, H' l = some (.lst hitTooLong1) ∧ σ = [some (.ref a), some (.ref l), none, none, none], ?_, fun σ H1 hm => ?_⟩
      · exact ⟨_, rfl, a, C_TooLong, d, _, .ref C_Dry, false, rfl, ha, hd, e_TooLong.E, .own C_Dry, (e_Dry.kit u_TooLong_Dry (fun z => absurd (by simpa using z) (ne_sub u_TooLong_Dry u_TooLong_TooLong))), _, rfl, a, C_TooLong, d, _, .ref C_NoBack, false, rfl, ha, hd, e_TooLong.E, .own C_NoBack, (e_NoBack.kit u_TooLong_NoBack (fun z => absurd (by simpa using z) (ne_sub u_TooLong_NoBack u_TooLong_TooLong))), _, rfl, a, C_TooLong, d, _, .ref C_NoBeat, false, rfl, ha, hd, e_TooLong.E, .own C_NoBeat, (e_NoBeat.kit u_TooLong_NoBeat (fun z => absurd (by simpa using z) (ne_sub u_TooLong_NoBeat u_TooLong_TooLong))), _, rfl, a, C_TooLong, d, _, .ref C_NoBook, false, rfl, ha, hd, e_TooLong.E, .own C_NoBook, (e_NoBook.kit u_TooLong_NoBook (fun z => absurd (by simpa using z) (ne_sub u_TooLong_NoBook u_TooLong_TooLong))), by show 4 ≤ sizeLine; decide, fun l nl => ⟨same_upd nl, l, at_upd nl, rfl⟩⟩
      clear ha hd
      obtain ⟨s0, l1, hl, rfl⟩ := hm
      have ha := s0 _ _ haK
      have hd := exd_mono s0 hdK
      refine ⟨fun σ H' => Same H H' ∧ ∃ l, H' l = some (.lst hitTooLong2) ∧ σ = [some (.ref a), some (.ref l), none, none, none], ?_, fun σ H2 hm => ?_⟩
      · refine ⟨_, rfl, _, rfl, a, C_TooLong, d, _, .ref C_NoDeed, false, rfl, ha, hd, e_TooLong.E, .own C_NoDeed, (e_NoDeed.kit u_TooLong_NoDeed (fun z => absurd (by simpa using z) (ne_sub u_TooLong_NoDeed u_TooLong_TooLong))), _, rfl, a, C_TooLong, d, _, .ref C_NoDrive, false, rfl, ha, hd, e_TooLong.E, .own C_NoDrive, (e_NoDrive.kit u_TooLong_NoDrive (fun z => absurd (by simpa using z) (ne_sub u_TooLong_NoDrive u_TooLong_TooLong))), _, rfl, a, C_TooLong, d, _, .ref C_NoFace, false, rfl, ha, hd, e_TooLong.E, .own C_NoFace, (e_NoFace.kit u_TooLong_NoFace (fun z => absurd (by simpa using z) (ne_sub u_TooLong_NoFace u_TooLong_TooLong))), by show 3 ≤ sizeLine; decide, fun l nl => ?_⟩
        have t := same_upd (o := .lst hitTooLongn2) nl
        exact ⟨_, _, _, _, rfl, rfl, t _ _ hl, at_upd nl, by show 7 ≤ sizeLine; decide, fun m nm => ⟨s0.trans (t.trans (same_upd nm)), m, at_upd nm, rfl⟩⟩
      clear ha hd s0 hl
      obtain ⟨s0, l2, hl, rfl⟩ := hm
      have ha := s0 _ _ haK
      have hd := exd_mono s0 hdK
      refine ⟨fun σ H' => Same H H' ∧ ∃ l, H' l = some (.lst hitTooLong3) ∧ σ = [some (.ref a), some (.ref l), none, none, none], ?_, fun σ H3 hm => ?_⟩
      · refine ⟨_, rfl, _, rfl, a, C_TooLong, d, _, .ref C_NoFlow, false, rfl, ha, hd, e_TooLong.E, .own C_NoFlow, (e_NoFlow.kit u_TooLong_NoFlow (fun z => absurd (by simpa using z) (ne_sub u_TooLong_NoFlow u_TooLong_TooLong))), _, rfl, a, C_TooLong, d, _, .ref C_NoLane, false, rfl, ha, hd, e_TooLong.E, .own C_NoLane, (e_NoLane.kit u_TooLong_NoLane (fun z => absurd (by simpa using z) (ne_sub u_TooLong_NoLane u_TooLong_TooLong))), _, rfl, a, C_TooLong, d, _, .ref C_NoLine, false, rfl, ha, hd, e_TooLong.E, .own C_NoLine, (e_NoLine.kit u_TooLong_NoLine (fun z => absurd (by simpa using z) (ne_sub u_TooLong_NoLine u_TooLong_TooLong))), by show 3 ≤ sizeLine; decide, fun l nl => ?_⟩
        have t := same_upd (o := .lst hitTooLongn3) nl
        exact ⟨_, _, _, _, rfl, rfl, t _ _ hl, at_upd nl, by show 10 ≤ sizeLine; decide, fun m nm => ⟨s0.trans (t.trans (same_upd nm)), m, at_upd nm, rfl⟩⟩
      clear ha hd s0 hl
      obtain ⟨s0, l3, hl, rfl⟩ := hm
      have ha := s0 _ _ haK
      have hd := exd_mono s0 hdK
      refine ⟨fun σ H' => Same H H' ∧ ∃ l, H' l = some (.lst hitTooLong4) ∧ σ = [some (.ref a), some (.ref l), none, none, none], ?_, fun σ H4 hm => ?_⟩
      · refine ⟨_, rfl, _, rfl, a, C_TooLong, d, _, .ref C_NoLoop, false, rfl, ha, hd, e_TooLong.E, .own C_NoLoop, (e_NoLoop.kit u_TooLong_NoLoop (fun z => absurd (by simpa using z) (ne_sub u_TooLong_NoLoop u_TooLong_TooLong))), _, rfl, a, C_TooLong, d, _, .ref C_NoMeasure, false, rfl, ha, hd, e_TooLong.E, .own C_NoMeasure, (e_NoMeasure.kit u_TooLong_NoMeasure (fun z => absurd (by simpa using z) (ne_sub u_TooLong_NoMeasure u_TooLong_TooLong))), _, rfl, a, C_TooLong, d, _, .ref C_NoModule, false, rfl, ha, hd, e_TooLong.E, .own C_NoModule, (e_NoModule.kit u_TooLong_NoModule (fun z => absurd (by simpa using z) (ne_sub u_TooLong_NoModule u_TooLong_TooLong))), by show 3 ≤ sizeLine; decide, fun l nl => ?_⟩
        have t := same_upd (o := .lst hitTooLongn4) nl
        exact ⟨_, _, _, _, rfl, rfl, t _ _ hl, at_upd nl, by show 13 ≤ sizeLine; decide, fun m nm => ⟨s0.trans (t.trans (same_upd nm)), m, at_upd nm, rfl⟩⟩
      clear ha hd s0 hl
      obtain ⟨s0, l4, hl, rfl⟩ := hm
      have ha := s0 _ _ haK
      have hd := exd_mono s0 hdK
      refine ⟨fun σ H' => Same H H' ∧ ∃ l, H' l = some (.lst hitTooLong5) ∧ σ = [some (.ref a), some (.ref l), none, none, none], ?_, fun σ H5 hm => ?_⟩
      · refine ⟨_, rfl, _, rfl, a, C_TooLong, d, _, .ref C_NoName, false, rfl, ha, hd, e_TooLong.E, .own C_NoName, (e_NoName.kit u_TooLong_NoName (fun z => absurd (by simpa using z) (ne_sub u_TooLong_NoName u_TooLong_TooLong))), _, rfl, a, C_TooLong, d, _, .ref C_NoNet, false, rfl, ha, hd, e_TooLong.E, .own C_NoNet, (e_NoNet.kit u_TooLong_NoNet (fun z => absurd (by simpa using z) (ne_sub u_TooLong_NoNet u_TooLong_TooLong))), _, rfl, a, C_TooLong, d, _, .ref C_NoPart, false, rfl, ha, hd, e_TooLong.E, .own C_NoPart, (e_NoPart.kit u_TooLong_NoPart (fun z => absurd (by simpa using z) (ne_sub u_TooLong_NoPart u_TooLong_TooLong))), by show 3 ≤ sizeLine; decide, fun l nl => ?_⟩
        have t := same_upd (o := .lst hitTooLongn5) nl
        exact ⟨_, _, _, _, rfl, rfl, t _ _ hl, at_upd nl, by show 16 ≤ sizeLine; decide, fun m nm => ⟨s0.trans (t.trans (same_upd nm)), m, at_upd nm, rfl⟩⟩
      clear ha hd s0 hl
      obtain ⟨s0, l5, hl, rfl⟩ := hm
      have ha := s0 _ _ haK
      have hd := exd_mono s0 hdK
      refine ⟨fun σ H' => Same H H' ∧ ∃ l, H' l = some (.lst hitTooLong6) ∧ σ = [some (.ref a), some (.ref l), none, none, none], ?_, fun σ H6 hm => ?_⟩
      · refine ⟨_, rfl, _, rfl, a, C_TooLong, d, _, .ref C_NoPlace, false, rfl, ha, hd, e_TooLong.E, .own C_NoPlace, (e_NoPlace.kit u_TooLong_NoPlace (fun z => absurd (by simpa using z) (ne_sub u_TooLong_NoPlace u_TooLong_TooLong))), _, rfl, a, C_TooLong, d, _, .ref C_NoRoom, false, rfl, ha, hd, e_TooLong.E, .own C_NoRoom, (e_NoRoom.kit u_TooLong_NoRoom (fun z => absurd (by simpa using z) (ne_sub u_TooLong_NoRoom u_TooLong_TooLong))), _, rfl, a, C_TooLong, d, _, .ref C_NoState, false, rfl, ha, hd, e_TooLong.E, .own C_NoState, (e_NoState.kit u_TooLong_NoState (fun z => absurd (by simpa using z) (ne_sub u_TooLong_NoState u_TooLong_TooLong))), by show 3 ≤ sizeLine; decide, fun l nl => ?_⟩
        have t := same_upd (o := .lst hitTooLongn6) nl
        exact ⟨_, _, _, _, rfl, rfl, t _ _ hl, at_upd nl, by show 19 ≤ sizeLine; decide, fun m nm => ⟨s0.trans (t.trans (same_upd nm)), m, at_upd nm, rfl⟩⟩
      clear ha hd s0 hl
      obtain ⟨s0, l6, hl, rfl⟩ := hm
      have ha := s0 _ _ haK
      have hd := exd_mono s0 hdK
      refine ⟨fun σ H' => Same H H' ∧ ∃ l, H' l = some (.lst hitTooLong7) ∧ σ = [some (.ref a), some (.ref l), none, none, none], ?_, fun σ H7 hm => ?_⟩
      · refine ⟨_, rfl, _, rfl, a, C_TooLong, d, _, .ref C_NoText, false, rfl, ha, hd, e_TooLong.E, .own C_NoText, (e_NoText.kit u_TooLong_NoText (fun z => absurd (by simpa using z) (ne_sub u_TooLong_NoText u_TooLong_TooLong))), _, rfl, a, C_TooLong, d, _, .ref C_NoTitle, false, rfl, ha, hd, e_TooLong.E, .own C_NoTitle, (e_NoTitle.kit u_TooLong_NoTitle (fun z => absurd (by simpa using z) (ne_sub u_TooLong_NoTitle u_TooLong_TooLong))), _, rfl, a, C_TooLong, d, _, .ref C_NoWait, false, rfl, ha, hd, e_TooLong.E, .own C_NoWait, (e_NoWait.kit u_TooLong_NoWait (fun z => absurd (by simpa using z) (ne_sub u_TooLong_NoWait u_TooLong_TooLong))), by show 3 ≤ sizeLine; decide, fun l nl => ?_⟩
        have t := same_upd (o := .lst hitTooLongn7) nl
        exact ⟨_, _, _, _, rfl, rfl, t _ _ hl, at_upd nl, by show 22 ≤ sizeLine; decide, fun m nm => ⟨s0.trans (t.trans (same_upd nm)), m, at_upd nm, rfl⟩⟩
      clear ha hd s0 hl
      obtain ⟨s0, l7, hl, rfl⟩ := hm
      have ha := s0 _ _ haK
      have hd := exd_mono s0 hdK
      refine ⟨fun σ H' => Same H H' ∧ ∃ l, H' l = some (.lst hitTooLong8) ∧ σ = [some (.ref a), some (.ref l), none, none, none], ?_, fun σ H8 hm => ?_⟩
      · refine ⟨_, rfl, _, rfl, a, C_TooLong, d, _, .ref C_NoWay, false, rfl, ha, hd, e_TooLong.E, .own C_NoWay, (e_NoWay.kit u_TooLong_NoWay (fun z => absurd (by simpa using z) (ne_sub u_TooLong_NoWay u_TooLong_TooLong))), _, rfl, a, C_TooLong, d, _, .ref C_NoWord, false, rfl, ha, hd, e_TooLong.E, .own C_NoWord, (e_NoWord.kit u_TooLong_NoWord (fun z => absurd (by simpa using z) (ne_sub u_TooLong_NoWord u_TooLong_TooLong))), _, rfl, a, C_TooLong, d, _, .ref C_Over, false, rfl, ha, hd, e_TooLong.E, .own C_Over, (e_Over.kit u_TooLong_Over (fun z => absurd (by simpa using z) (ne_sub u_TooLong_Over u_TooLong_TooLong))), _, rfl, a, C_TooLong, d, _, .ref C_TooDeep, false, rfl, ha, hd, e_TooLong.E, .own C_TooDeep, (e_TooDeep.kit u_TooLong_TooDeep (fun z => absurd (by simpa using z) (ne_sub u_TooLong_TooDeep u_TooLong_TooLong))), by show 4 ≤ sizeLine; decide, fun l nl => ?_⟩
        have t := same_upd (o := .lst hitTooLongn8) nl
        exact ⟨_, _, _, _, rfl, rfl, t _ _ hl, at_upd nl, by show 26 ≤ sizeLine; decide, fun m nm => ⟨s0.trans (t.trans (same_upd nm)), m, at_upd nm, rfl⟩⟩
      clear ha hd s0 hl
      obtain ⟨s0, l8, hl, rfl⟩ := hm
      have ha := s0 _ _ haK
      have hd := exd_mono s0 hdK
      refine ⟨fun σ H' => Same H H' ∧ ∃ l, H' l = some (.lst hitTooLong9) ∧ σ = [some (.ref a), some (.ref l), none, none, none], ?_, fun σ H9 hm => ?_⟩
      · refine ⟨_, rfl, _, rfl, a, C_TooLong, d, _, .ref C_TooLong, true, rfl, ha, hd, e_TooLong.E, .own C_TooLong, ECal.self, _, rfl, a, C_TooLong, d, _, .ref C_Twice, false, rfl, ha, hd, e_TooLong.E, .own C_Twice, (e_Twice.kit u_TooLong_Twice (fun z => absurd (by simpa using z) (ne_sub u_TooLong_Twice u_TooLong_TooLong))), by show 2 ≤ sizeLine; decide, fun l nl => ?_⟩
        have t := same_upd (o := .lst hitTooLongn9) nl
        exact ⟨_, _, _, _, rfl, rfl, t _ _ hl, at_upd nl, by show 28 ≤ sizeLine; decide, fun m nm => ⟨s0.trans (t.trans (same_upd nm)), m, at_upd nm, rfl⟩⟩
      clear ha hd s0 hl
      obtain ⟨s0, l9, hl, rfl⟩ := hm
      have ha := s0 _ _ haK
      have hd := exd_mono s0 hdK
      have hB : H9 l9 = some (.lst ((hitL "TooLong").map V.bl)) := hl
      clear hl ha hd
      refine ⟨fun σ H' => Same H9 H' ∧ ∃ l, H' l = some (.lst wrd1) ∧ σ = [some (.ref a), some (.ref l9), some (.ref l), none, none], ?_, fun σ W1 hm => ?_⟩
      · exact ⟨by show 9 ≤ sizeLine; decide, fun l nl => ⟨same_upd nl, l, at_upd nl, rfl⟩⟩
      obtain ⟨r0, m1, hl, rfl⟩ := hm
      refine ⟨fun σ H' => Same H9 H' ∧ ∃ l, H' l = some (.lst wrd2) ∧ σ = [some (.ref a), some (.ref l9), some (.ref l), none, none], ?_, fun σ W2 hm => ?_⟩
      · refine ⟨_, rfl, by show 8 ≤ sizeLine; decide, fun l nl => ?_⟩
        have t := same_upd (o := .lst wrdn2) nl
        exact ⟨_, _, _, _, rfl, rfl, t _ _ hl, at_upd nl, by show 17 ≤ sizeLine; decide, fun m nm => ⟨r0.trans (t.trans (same_upd nm)), m, at_upd nm, rfl⟩⟩
      clear r0 hl
      obtain ⟨r0, m2, hl, rfl⟩ := hm
      refine ⟨fun σ H' => Same H9 H' ∧ ∃ l, H' l = some (.lst wrd3) ∧ σ = [some (.ref a), some (.ref l9), some (.ref l), none, none], ?_, fun σ W3 hm => ?_⟩
      · refine ⟨_, rfl, by show 8 ≤ sizeLine; decide, fun l nl => ?_⟩
        have t := same_upd (o := .lst wrdn3) nl
        exact ⟨_, _, _, _, rfl, rfl, t _ _ hl, at_upd nl, by show 25 ≤ sizeLine; decide, fun m nm => ⟨r0.trans (t.trans (same_upd nm)), m, at_upd nm, rfl⟩⟩
      clear r0 hl
      obtain ⟨r0, m3, hl, rfl⟩ := hm
      refine ⟨fun σ H' => Same H9 H' ∧ ∃ l, H' l = some (.lst wrd4) ∧ σ = [some (.ref a), some (.ref l9), some (.ref l), none, none], ?_, fun σ W4 hm => ?_⟩
      · refine ⟨_, rfl, by show 3 ≤ sizeLine; decide, fun l nl => ?_⟩
        have t := same_upd (o := .lst wrdn4) nl
        exact ⟨_, _, _, _, rfl, rfl, t _ _ hl, at_upd nl, by show 28 ≤ sizeLine; decide, fun m nm => ⟨r0.trans (t.trans (same_upd nm)), m, at_upd nm, rfl⟩⟩
      clear r0 hl
      obtain ⟨r0, m4, hl, rfl⟩ := hm
      have hW : W4 m4 = some (.lst (allN.map V.str)) := hl
      have hB := r0 _ _ hB
      have s0 := s0.trans r0
      refine ⟨_, rfl, _, rfl, m4, l9, _, _, rfl, SqL.of hW, SqL.of hB, fun D nD => ?_⟩
      refine lc_it (walk_zip (K := K) (n := 28) (a := m4) (b := l9) (xs := allN.map V.str) (ys := (hitL "TooLong").map V.bl) rfl) (fun k H' => Same W4 H' ∧ H' D = some (.lst (selL (hitL "TooLong") k))) ⟨same_upd nD, upd_same⟩ (fun k H' _ hP => ⟨SqL.of (hP.1 _ _ hW), SqL.of (hP.1 _ _ hB)⟩) (fun k z H1 H2 hk hP hY => ?_) (fun H1 hP => ?_)
      · obtain ⟨s1, hD⟩ := hP
        obtain ⟨T, u1, u2, rfl, nT, rfl, e1, e2⟩ := hY
        obtain ⟨x, hx, rfl⟩ : ∃ x, allN[k]? = some x ∧ V.str x = u1 := by
          have e1 : (allN.map V.str)[k]? = some u1 := e1
          rw [List.getElem?_map] at e1
          exact Option.map_eq_some_iff.mp e1
        obtain ⟨bb, hb, rfl⟩ : ∃ x, (hitL "TooLong")[k]? = some x ∧ V.bl x = u2 := by
          have e2 : ((hitL "TooLong").map V.bl)[k]? = some u2 := e2
          rw [List.getElem?_map] at e2
          exact Option.map_eq_some_iff.mp e2
        have es := selL_succ hx hb
        have hD2 := same_upd (o := .tup [V.str x, V.bl bb]) nT _ _ hD
        refine ⟨T, _, rfl, SqT.of upd_same, rfl, _, _, rfl, _, _, rfl, rfl, rfl, ?_⟩
        refine ⟨_, rfl, bb, rfl, ?_⟩
        cases bb
        · rw [if_neg (by decide)]
          rw [if_neg (by decide), List.append_nil] at es
          exact ⟨s1.trans (same_upd nT), by rw [es]; exact hD2⟩
        · rw [if_pos rfl]
          rw [if_pos rfl] at es
          refine ⟨_, rfl, _, hD2, by have := selL_len (hitL "TooLong") k; omega, Same.upd (s1.trans (same_upd nT)) nD, ?_⟩
          rw [es]
          exact upd_same
      · obtain ⟨s1, hD⟩ := hP
        exact q H1 D (s0.trans s1) (s0.free nD) hD
end
end WK
namespace WK
open PySem PySem.Spec PyProof.Rows L2
abbrev s_law_refused : Stmt := topS 61
theorem sc_law_refused : FnScope ["_law_first", "_law_behind", "_law_caught", "_law_e"] ["_law_first", "_law_behind"] (defScope s_law_refused) := ⟨rfl, rfl, rfl, by decide +kernel, rfl, by decide +kernel, by decide +kernel⟩
/-- the two put together are no word, now and later -/
def NoPair (H : Hp) (v1 v2 : V) : Prop := ∀ H' p, Same H H' → H' p = some (.tup [v1, v2]) → WordIs H' (.ref p) false
theorem NoPair.mono {H H' : Hp} {v1 v2 : V} (s : Same H H') (h : NoPair H v1 v2) : NoPair H' v1 v2 := fun H2 p s2 hp => h H2 p (s.trans s2) hp
section
variable {P : Program} {w : World} {K : PySem.W.Frag} {mg : Str → Option Value} {base : Heap}
def sp_law_refused (K : PySem.W.Frag) : Sp := fun vs H Q _ => ∃ v1 v2 : V, vs = [v1, v2] ∧ NoPair H v1 v2 ∧ ∀ H', Same H H' → Q (.bl true) H'
theorem ok_law_refused {f : Addr} {fd : FuncData} (F : Fun K "_law_refused" "_law_refused" s_law_refused f fd) (m_ValueError : mg "ValueError" = none) (m_isinstance : mg "isinstance" = none) {f_law_names_of : Addr} {fd_law_names_of : FuncData} (c_law_names_of : Cal P w K mg base CX0 1 f_law_names_of fd_law_names_of "_law_names_of" ["_law_e"] (sp_law_names_of K)) {C_LoomError : Addr} (e_LoomError : ECal K mg "LoomError" C_LoomError) {C_NoWord : Addr} (e_NoWord : ECal K mg "NoWord" C_NoWord) {C_Word : Addr} {f_Wordi : Addr} {fd_Wordi : FuncData} (w_Word : OCal P w K mg base (L2.CX P w) 5 "Word" C_Word f_Wordi fd_Wordi ["self", "again", "head"] (sp_Word_init K) 1 ["head"]) (v_Word : OCls K "Word" C_Word ["_head", "_again"]) (u_NoWord_LoomError : PySem.W.subIn K (.ref C_NoWord) (.ref C_LoomError) = some true) : FnOk P w K mg base CX0 7 f fd ["_law_first", "_law_behind"] (sp_law_refused K) := by
  refine F.ok sc_law_refused (fun vs H Q E h => ?_) (fun cdv A outer s H vs Q E hr h => ?_)
  · obtain ⟨_, _, rfl, _⟩ := h
    rfl
  · obtain ⟨v1, v2, rfl, hb, q⟩ := h
    refine ⟨_, (pss_cons (ps_set (i := 2) sc_law_refused.nd rfl (Or.inl rfl) pe_non)
      (pss_cons (WX.ps_try_keep (i := 3) (j := 2) rfl rfl rfl sc_law_refused.nd rfl rfl rfl (Or.inl rfl) (Or.inl rfl) ⟨rfl, by decide, Or.inl e_LoomError.g⟩ rfl (Or.inl rfl) (by decide) (by decide) (fun W pn xe tk _ => 
        (pss_one (ps_expr (WX.pe_makeKX w_Word.M w_Word.G (hr.mono (by decide)) (by rfl) w_Word.g w_Word.k1 (fun σ => passAt tk σ) (pa_cons (pv 1) pa_nil) (pk_cons (pv 0) pk_nil))))))
      (pss_one (ps_ret (pe_and (pe_callB WX.call_isX (by rfl) m_isinstance (by decide +kernel) (pa_cons (pv 2) (pa_cons (pe_bltn (v := .ty "ValueError") (by rfl) m_ValueError (by decide +kernel) rfl) pa_nil))) (pe_one (pe_cmpR (op_eqD hr.units) (pe_call c_law_names_of.G (hr.mono (by decide)) (by rfl) c_law_names_of.g c_law_names_of.kp c_law_names_of.b .nil pass0 (pa_cons (pv 2) pa_nil)) (pe_lst (pa_cons pe_str pa_nil)) (nomark _)))))))), ?_⟩
    refine ⟨_, rfl, _, rfl, rfl, rfl, fun a dx na nd ne => ?_⟩
    have s0 : Same H (upd (upd H dx (.own a)) a (.ins C_Word dx [])) := (same_upd nd).trans (same_upd (by rw [upd_ne ne.symm]; exact na))
    refine ⟨a, C_Word, dx, v1, v2, rfl, v_Word.a, upd_same, .inr ⟨fun H' p s hp => hb H' p (s0.trans s) hp, fun H' s C hC => ?_⟩⟩
    have eC := (ns_inj hC e_NoWord.a).symm
    subst eC
    refine ⟨e_LoomError.exm u_NoWord_LoomError, fun ea nea => ?_⟩
    have te := same_upd (o := WX.ExT ea (.ref C_NoWord) none) nea
    refine ⟨_, rfl, ea, C_NoWord, none, _, .type "ValueError", true, rfl, at_upd nea, .inl rfl, e_NoWord.E, .ty _, e_NoWord.ve, true, rfl, iteT ?_⟩
    refine ⟨_, rfl, ea, C_NoWord, none, rfl, at_upd nea, .inl rfl, .inl ⟨hC, fun H8 pn s8 _ hpn => ?_⟩⟩
    refine ⟨by show 1 ≤ sizeLine; decide, fun l3 n3 => ?_⟩
    have t3 := same_upd (o := .lst [V.str "NoWord"]) n3
    refine ⟨.list [.str "NoWord"], .list [.str "NoWord"], .lst (SqL.of (t3 _ _ hpn)) (.cons (.str _) .nil), .lst (SqL.of (at_upd n3)) (.cons (.str _) .nil), by decide +kernel, by decide +kernel, ?_⟩
    exact q _ (s0.trans (s.trans (te.trans (s8.trans t3))))
end
end WK
namespace WK
open PySem PySem.Spec PyProof.Rows L2
abbrev s_law_shown : Stmt := topS 62
theorem sc_law_shown : FnScope ["_law_word_here", "_law_thing", "_law_first", "_law_behind", "_law_k", "_law_sign"] ["_law_word_here", "_law_thing"] (defScope s_law_shown) := ⟨rfl, rfl, rfl, by decide +kernel, rfl, by decide +kernel, by decide +kernel⟩
theorem bin_nil : Bin [] := by
  intro c hc
  cases hc
theorem ok_bin {x : List Nat} (h : Bin x) : PyData.strOk (tx x) = true := by
  show (x.toArray.all fun c => decide (c < 0x110000)) = true
  rw [List.all_toArray, List.all_eq_true]
  intro c hc
  rcases h c hc with e | e <;> rw [e] <;> decide
theorem shaped_word {x y : List Nat} (hx : Bin x) (hy : Bin y) : SeqAt.shaped (.tuple [.str (tx x), .str (tx y)]) = true := by
  unfold SeqAt.shaped
  have e1 : (PyData.tuple [.str (tx x), .str (tx y)]).canLay0 = true := by
    simp [PyData.canLay0, PyData.canLayAll0, ok_bin hx, ok_bin hy]
  rw [e1]
  simp [PyData.depth, PyData.depthAll]
theorem dp_word {K : PySem.W.Frag} {H : Hp} {a : Addr} {x y : List Nat} (h : H a = some (.tup [.str (tx x), .str (tx y)])) : Dp K H (.ref a) (.tuple [.str (tx x), .str (tx y)]) := .tup (SqT.of h) (.cons (.str _) (.cons (.str _) .nil))
theorem eqv_word {x y : List Nat} : PyData.eqv (.tuple [.str (tx x), .str (tx y)]) (.tuple [.str (tx x), .str (tx y)]) = true := by
  simp [PyData.eqv, PyData.eqvAll]
theorem bools_lay : ∀ l : List Bool, PyData.canLayAll0 (l.map PyData.bool) = true
  | [] => by simp [PyData.canLayAll0]
  | b :: l => by rw [List.map_cons]; simp [PyData.canLayAll0, PyData.canLay0, bools_lay l]
theorem bools_depth : ∀ l : List Bool, PyData.depthAll (l.map PyData.bool) = 0
  | [] => by simp [PyData.depthAll]
  | b :: l => by rw [List.map_cons]; simp [PyData.depthAll, PyData.depth, bools_depth l]
theorem shaped_bools (l : List Bool) : SeqAt.shaped (.list (l.map PyData.bool)) = true := by
  unfold SeqAt.shaped
  have e1 : (PyData.list (l.map PyData.bool)).canLay0 = true := by
    simp [PyData.canLay0, bools_lay l]
  rw [e1]
  simp [PyData.depth, bools_depth l]
theorem eqv_bools : ∀ l : List Bool, PyData.eqvAll (l.map PyData.bool) (l.map PyData.bool) = true
  | [] => by simp [PyData.eqvAll]
  | b :: l => by rw [List.map_cons]; simp [PyData.eqvAll, PyData.eqv, eqv_bools l]
theorem dp_all {K : PySem.W.Frag} {H : Hp} : ∀ l : List Bool, DpAll K H (l.map V.bl) (l.map PyData.bool)
  | [] => .nil
  | b :: l => .cons (.bl b) (dp_all l)
theorem dp_bools {K : PySem.W.Frag} {H : Hp} {D : Addr} {l : List Bool} (h : H D = some (.lst (l.map V.bl))) : Dp K H (.ref D) (.list (l.map PyData.bool)) := .lst (SqL.of h) (dp_all l)
section
variable {P : Program} {w : World} {K : PySem.W.Frag} {mg : Str → Option Value} {base : Heap}
def sp_law_shown (K : PySem.W.Frag) : Sp := fun vs H Q _ => ∃ (b a : Addr) (x y u v : List Nat), vs = [.ref b, .ref a] ∧ WordAt H b x y ∧ x.length ≤ 200 ∧ y.length ≤ 200 ∧ WOb K H a u v ∧ Lst (row x y) u v ∧ ∀ H', Same H H' → Q (.bl true) H'
theorem ok_law_shown {f : Addr} {fd : FuncData} (F : Fun K "_law_shown" "_law_shown" s_law_shown f fd) (m_len : mg "len" = none) (m_range : mg "range" = none) (m_repr : mg "repr" = none) (m_str : mg "str" = none) {f_least_word : Addr} {fd_least_word : FuncData} (c_least_word : Cal P w K mg base (L2.CX P w) 4 f_least_word fd_least_word "least_word" ["word"] (sp_least_word K)) {f_law_text : Addr} {fd_law_text : FuncData} (c_law_text : Cal P w K mg base CX0 1 f_law_text fd_law_text "_law_text" ["_law_word_here", "_law_many"] (sp_law_text K)) {C_Word : Addr} (v_Word : OCls K "Word" C_Word ["_head", "_again"]) {f_Word___len__ : Addr} {fd_Word___len__ : FuncData} (q_Word___len__ : MCal P w K mg base CX0 1 C_Word "__len__" f_Word___len__ fd_Word___len__ ["self"] (sp_Word_len K)) {f_Word___repr__ : Addr} {fd_Word___repr__ : FuncData} (q_Word___repr__ : MCal P w K mg base CX0 1 C_Word "__repr__" f_Word___repr__ fd_Word___repr__ ["self"] (sp_Word_repr K)) {f_Word___str__ : Addr} {fd_Word___str__ : FuncData} (q_Word___str__ : MCal P w K mg base CX0 1 C_Word "__str__" f_Word___str__ fd_Word___str__ ["self"] (sp_Word_str K)) {f_Word_has_one : Addr} {fd_Word_has_one : FuncData} (q_Word_has_one : MCal P w K mg base CX0 5 C_Word "has_one" f_Word_has_one fd_Word_has_one ["self", "k"] (sp_Word_has_one K)) {f_Word_word : Addr} {fd_Word_word : FuncData} (q_Word_word : MCal P w K mg base CX0 1 C_Word "word" f_Word_word fd_Word_word ["self"] (sp_Word_word K)) : FnOk P w K mg base CX0 6 f fd ["_law_word_here", "_law_thing"] (sp_law_shown K) := by
  refine F.ok sc_law_shown (fun vs H Q E h => ?_) (fun cdv A outer s H vs Q E hr h => ?_)
  · obtain ⟨_, _, _, _, _, _, rfl, _⟩ := h
    rfl
  · obtain ⟨b, a, x, y, u, v, rfl, hw, lx, ly, hW, hL, q⟩ := h
    have hz := szl
    have eC : ∃ dx, H a = some (.ins C_Word dx [("_head", .str (tx u)), ("_again", .str (tx v))]) := by
      obtain ⟨⟨C, dx, hC, ha⟩, _⟩ := id hW
      rw [ns_inj hC v_Word.a] at ha
      exact ⟨dx, ha⟩
    obtain ⟨dx, ha⟩ := eC
    obtain ⟨_, bu, bv, l1, l2, l3⟩ := id hW
    obtain ⟨hb, k2, k3, k4, k5, k6⟩ := id hw
    have hlu := tx_len u
    have hlv := tx_len v
    refine ⟨_, (pss_cons (ps_asg (pe_call c_least_word.G (hr.mono (by decide)) (by rfl) c_least_word.g c_least_word.kp c_least_word.b .nil passL (pa_cons (pv 0) pa_nil)) (pg_tup (by rfl) (pgs_cons (pg_name (i := 2) sc_law_shown.nd rfl (Or.inl rfl)) (pgs_cons (pg_name (i := 3) sc_law_shown.nd rfl (Or.inl rfl)) pgs_nil))))
      (pss_cons (ps_if (PW.pt (pw_or (pt_cmpR op_ne (pe_callTy (WX.cr_strO q_Word___str__.G (hr.mono (by decide)) q_Word___str__.b pass0 q_Word___str__.M) (by rfl) m_str (by decide +kernel) (pa_cons (pv 1) pa_nil)) (pe_op op_add_str (pe_op op_add_str (pe_op op_add_str (pv 2) pe_str) (pv 3)) pe_str) (nomark _)) (pw_or1 (pt_cmpR op_ne (pe_callB (WX.cr_lenO q_Word___len__.G (hr.mono (by decide)) q_Word___len__.b pass0 q_Word___len__.M) (by rfl) m_len PySem.boot_len (pa_cons (pv 1) pa_nil)) (pe_op op_add (pe_callB call_len_str (by rfl) m_len PySem.boot_len (pa_cons (pv 2) pa_nil)) (pe_callB call_len_str (by rfl) m_len PySem.boot_len (pa_cons (pv 3) pa_nil))) (nomark _)))))
        (pss_one (ps_ret pe_bl))
        pss_nil)
      (pss_cons (ps_if (PW.pt (pw_or (pt_cmpR op_ne (pe_callB (WX.cr_reprO q_Word___repr__.G (hr.mono (by decide)) q_Word___repr__.b pass0 q_Word___repr__.M) (by rfl) m_repr (by decide +kernel) (pa_cons (pv 1) pa_nil)) (pe_op op_add_str (pe_op op_add_str (pe_op op_add_str (pe_op op_add_str pe_str (pv 3)) pe_str) (pv 2)) pe_str) (nomark _)) (pw_or1 (pt_cmpR (op_neD hr.units) (pe_meth0 (pv 1) v_Word.C q_Word_word.M q_Word_word.G (hr.mono (by decide)) q_Word_word.b .nil pass0) (pe_tup (pa_cons (pv 2) (pa_cons (pv 3) pa_nil))) (nomark _)))))
        (pss_one (ps_ret pe_bl))
        pss_nil)
      (pss_one (ps_ret (pe_cmpR (op_eqD hr.units) (pe_lc (own := [("_law_k", 4)]) (g := gName 4) (by rfl) sc_law_shown.nd (pi_range1 (by rfl) m_range (pa_cons pe_int pa_nil)) (blkOk_by (N := ["_law_word_here", "_law_thing", "_law_first", "_law_behind", "_law_k", "_law_sign"]) (sc := defScope s_law_shown) (by decide +kernel)) (fun _ _ _ _ _ => pg_name (i := 4) sc_law_shown.nd rfl (Or.inl rfl)) (fun _ _ _ _ _ => pts_nil) (fun _ _ _ _ _ => (pe_meth (pv 1) v_Word.C q_Word_has_one.M q_Word_has_one.G (hr.mono (by decide)) q_Word_has_one.b .nil pass0 (pa_cons (pv 4) pa_nil)))) (pe_lc (own := [("_law_sign", 5)]) (g := gName 5) (by rfl) sc_law_shown.nd (pi_str (pe_call c_law_text.G (hr.mono (by decide)) (by rfl) c_law_text.g c_law_text.kp c_law_text.b .nil pass0 (pa_cons (pv 0) (pa_cons pe_int pa_nil)))) (blkOk_by (N := ["_law_word_here", "_law_thing", "_law_first", "_law_behind", "_law_k", "_law_sign"]) (sc := defScope s_law_shown) (by decide +kernel)) (fun _ _ _ _ _ => pg_name (i := 5) sc_law_shown.nd rfl (Or.inl rfl)) (fun _ _ _ _ _ => pts_nil) (fun _ _ _ _ _ => (pe_cmpR op_eq (pv 5) pe_str (nomark _)))) (nomark _))))))), ?_⟩
    refine ⟨_, rfl, .ref b, rfl, .inl ⟨b, x, y, rfl, hw, fun p u' v' np L m1 m2 => ?_⟩⟩
    obtain ⟨rfl, rfl⟩ := L.uniq hL
    have s1 := same_upd (o := .tup [.str (tx u'), .str (tx v')]) np
    refine ⟨p, _, rfl, SqT.of upd_same, rfl, _, _, rfl, _, _, rfl, rfl, ?_⟩
    have hp : (upd H p (.tup [.str (tx u'), .str (tx v')])) p = some (.tup [.str (tx u'), .str (tx v')]) := upd_same
    have hw := hw.mono s1
    have hW := hW.mono s1
    have ha := s1 _ _ ha
    generalize (upd H p (.tup [.str (tx u'), .str (tx v')])) = H1 at *
    have g1 : tx u' ++ "(" = tx (u' ++ [40]) := tx_add u' [40]
    have g2 : tx u' ++ "(" ++ tx v' = tx (u' ++ [40] ++ v') := by rw [g1]; exact tx_add (u' ++ [40]) v'
    have g3 : tx u' ++ "(" ++ tx v' ++ ")" = tx (strL u' v') := by rw [g2]; exact tx_add (u' ++ [40] ++ v') [41]
    refine ⟨_, rfl, a, dx, _, rfl, ha, a, u', v', rfl, hW, _, rfl, _, rfl, _, _, rfl, rfl, ?_, _, rfl, _, _, rfl, rfl, ?_, _, _, rfl, rfl, ?_, rfl, false, ?_, iteF ?_⟩
    · show (tx u').length + 1 ≤ sizeLine
      omega
    · show (tx u' ++ "(").length + (tx v').length ≤ sizeLine
      rw [g1, tx_len, List.length_append]
      show u'.length + 1 + (tx v').length ≤ sizeLine
      omega
    · show (tx u' ++ "(" ++ tx v').length + 1 ≤ sizeLine
      rw [g2, tx_len, List.length_append, List.length_append]
      show u'.length + 1 + v'.length + 1 ≤ sizeLine
      omega
    · show V.bl (!decide (V.str (tx (strL u' v')) = V.str (tx u' ++ "(" ++ tx v' ++ ")"))) = V.bl false
      rw [g3, decide_eq_true rfl]
      rfl
    refine ⟨_, rfl, a, dx, _, rfl, ha, a, u', v', rfl, hW, _, rfl, ⟨by omega, by omega⟩, _, rfl, tx u', rfl, by omega, _, rfl, tx v', rfl, by omega, _, _, rfl, rfl, rfl, false, ?_, iteF ?_⟩
    · show V.bl (!decide (V.int ((u'.length + v'.length : Nat) : Int) = V.int (((tx u').length : Int) + ((tx v').length : Int)))) = V.bl false
      rw [hlu, hlv, decide_eq_true (by rw [Int.natCast_add])]
      rfl
    have r1 : ("Word(\"" : Str) ++ tx v' = tx ([87, 111, 114, 100, 40, 34] ++ v') := tx_add [87, 111, 114, 100, 40, 34] v'
    have r2 : ("Word(\"" : Str) ++ tx v' ++ "\", head=\"" = tx ([87, 111, 114, 100, 40, 34] ++ v' ++ [34, 44, 32, 104, 101, 97, 100, 61, 34]) := by rw [r1]; exact tx_add _ [34, 44, 32, 104, 101, 97, 100, 61, 34]
    have r3 : ("Word(\"" : Str) ++ tx v' ++ "\", head=\"" ++ tx u' = tx ([87, 111, 114, 100, 40, 34] ++ v' ++ [34, 44, 32, 104, 101, 97, 100, 61, 34] ++ u') := by rw [r2]; exact tx_add _ u'
    have r4 : ("Word(\"" : Str) ++ tx v' ++ "\", head=\"" ++ tx u' ++ "\")" = tx (reprL u' v') := by rw [r3]; exact tx_add _ [34, 41]
    refine ⟨_, rfl, a, dx, _, rfl, ha, a, u', v', rfl, hW, _, rfl, _, rfl, _, _, rfl, rfl, ?_, _, _, rfl, rfl, ?_, _, rfl, _, _, rfl, rfl, ?_, _, _, rfl, rfl, ?_, rfl, false, ?_, iteF ?_⟩
    · show 6 + (tx v').length ≤ sizeLine
      omega
    · show (("Word(\"" : Str) ++ tx v').length + 9 ≤ sizeLine
      rw [r1, tx_len, List.length_append]
      show 6 + v'.length + 9 ≤ sizeLine
      omega
    · show (("Word(\"" : Str) ++ tx v' ++ "\", head=\"").length + (tx u').length ≤ sizeLine
      rw [r2, tx_len, List.length_append, List.length_append]
      show 6 + v'.length + 9 + (tx u').length ≤ sizeLine
      omega
    · show (("Word(\"" : Str) ++ tx v' ++ "\", head=\"" ++ tx u').length + 2 ≤ sizeLine
      rw [r3, tx_len, List.length_append, List.length_append, List.length_append]
      show 6 + v'.length + 9 + u'.length + 2 ≤ sizeLine
      omega
    · show V.bl (!decide (V.str (tx (reprL u' v')) = V.str (("Word(\"" : Str) ++ tx v' ++ "\", head=\"" ++ tx u' ++ "\")"))) = V.bl false
      rw [r4, decide_eq_true rfl]
      rfl
    refine ⟨_, rfl, a, dx, _, rfl, ha, rfl, a, u', v', rfl, hW, fun p2 np2 => ?_⟩
    refine ⟨_, rfl, _, rfl, by show 2 ≤ sizeLine; decide, fun p3 np3 => ?_⟩
    have s2 := same_upd (o := .tup [.str (tx u'), .str (tx v')]) np2
    have s3 := same_upd (o := .tup [.str (tx u'), .str (tx v')]) np3
    refine ⟨_, _, dp_word (s3 _ _ upd_same), dp_word upd_same, shaped_word bu bv, shaped_word bu bv, ?_⟩
    rw [eqv_word]
    refine ⟨false, rfl, iteF ?_⟩
    have s23 := s2.trans s3
    have hw := hw.mono s23
    have hW := hW.mono s23
    have ha := s23 _ _ ha
    have s03 := s1.trans s23
    generalize (upd (upd H1 p2 (.tup [.str (tx u'), .str (tx v')])) p3 (.tup [.str (tx u'), .str (tx v')])) = H2 at *
    refine ⟨60, rfl, by decide, by decide, fun D nD => ?_⟩
    have er : row u' v' = row x y := funext hL.tells.eq
    refine lc_range (lo := 0) (n := 60) (fun k H' => Same H2 H' ∧ H' D = some (.lst (((List.range k).map fun j => decide (row x y j = 49)).map V.bl))) ⟨same_upd nD, upd_same⟩ (fun k HJ hk hP => ?_) (fun H3 hP => ?_)
    · obtain ⟨sJ, hD⟩ := hP
      refine ⟨rfl, lc_yes ?_⟩
      rw [if_pos rfl]
      refine ⟨_, rfl, a, dx, _, rfl, sJ _ _ ha, rfl, _, rfl, a, u', v', k, ?_, hW.mono sJ, fun H4 s4 => ?_⟩
      · show [V.ref a, V.int ((0 : Int) + (k : Int))] = _
        rw [Int.zero_add]
        rfl
      refine ⟨_, s4 _ _ hD, by rw [List.length_map, List.length_map, List.length_range]; omega, Same.upd (sJ.trans s4) nD, ?_⟩
      rw [upd_same, List.range_succ, List.map_append, List.map_append, er]
      rfl
    obtain ⟨s4, hD⟩ := hP
    have hw := hw.mono s4
    obtain ⟨hb, _⟩ := id hw
    refine ⟨_, rfl, b, x, y, 60, rfl, hb, k5, k6, k4, by decide, fun t T => ?_⟩
    refine ⟨tx t, rfl, fun D2 nD2 => ?_⟩
    have lt := T.1
    have ltx := tx_len t
    refine lc_it (walk_str (z := tx t)) (fun k H' => H' = upd H3 D2 (.lst (((t.take k).map fun c => decide (c = 49)).map V.bl))) rfl (fun _ _ _ _ => trivial) (fun k z HJ HJ' hk hP hY => ?_) (fun H5 hP => ?_)
    · subst hP
      obtain ⟨rfl, c, hc, rfl⟩ := hY
      have hc : t.toArray[k]? = some c := hc
      have hc : t[k]? = some c := by simpa using hc
      have hkt : k < t.length := hk
      refine ⟨rfl, lc_yes ?_⟩
      rw [if_pos rfl]
      refine ⟨_, rfl, rfl, _, upd_same, by rw [List.length_map, List.length_map, List.length_take]; omega, ?_⟩
      rw [upd_upd, List.take_succ, hc, List.map_append, List.map_append]
      show upd H3 D2 (.lst (_ ++ [V.bl (decide (V.str ⟨#[c]⟩ = V.str (tx [49])))])) = _
      rw [one_eq]
      rfl
    subst hP
    have etk : t.take (tx t).cps.size = t := List.take_of_length_le (Nat.le_of_eq ltx.symm)
    rw [etk]
    have el : ((List.range 60).map fun j => decide (row x y j = 49)) = t.map fun c => decide (c = 49) := by
      refine List.ext_getElem (by rw [List.length_map, List.length_map, List.length_range, lt]) fun i h1 h2 => ?_
      rw [List.length_map] at h2
      rw [List.getElem_map, List.getElem_map, List.getElem_range]
      have := T.2 i (by omega)
      rw [List.getD_eq_getElem?_getD, List.getElem?_eq_getElem h2] at this
      rw [← this]
      rfl
    rw [el] at hD
    have s5 := same_upd (o := .lst ((t.map fun c => decide (c = 49)).map V.bl)) nD2
    refine ⟨_, _, dp_bools (s5 _ _ hD), dp_bools upd_same, shaped_bools _, shaped_bools _, ?_⟩
    rw [show PyData.eqv (.list _) (.list _) = true from by simp only [PyData.eqv]; exact eqv_bools _]
    exact q _ (s03.trans (s4.trans s5))
end
end WK
namespace WK
open PySem PySem.Spec PyProof.Rows L2
theorem row_rep {h a : List Nat} (ha : 0 < a.length) {k : Nat} (hk : 1 ≤ k) : row h (rep a k) = row h a := funext fun i => by
  have hl := rep_len a k
  have hpos : 0 < k * a.length := Nat.mul_pos hk ha
  by_cases hi : i < h.length
  · rw [row_head hi, row_head hi]
  · rw [row_again (by omega), row_again (by omega), hl]
    have := rep_get ha k ((i - h.length) % (k * a.length)) (Nat.mod_lt _ hpos)
    rw [show rep a k = List.flatten (List.replicate k a) from rfl, this]
    congr 1
    exact Nat.mod_mod_of_dvd _ (Nat.dvd_mul_left _ _)
theorem row_app {x y : List Nat} (hy : 0 < y.length) : row (x ++ y) y = row x y := funext fun i => by
  by_cases h1 : i < x.length
  · rw [row_head (by rw [List.length_append]; omega), row_head h1, getD_app, if_pos h1]
  · by_cases h2 : i < x.length + y.length
    · rw [row_head (by rw [List.length_append]; omega), row_again (by omega), getD_app, if_neg h1, Nat.mod_eq_of_lt (by omega)]
    · rw [row_again (by rw [List.length_append]; omega), row_again (by omega), List.length_append]
      have : i - x.length = (i - (x.length + y.length)) + y.length := by omega
      rw [this, Nat.add_mod_right]
theorem row_same {x y : List Nat} (hy : 0 < y.length) {k : Nat} (hk : 1 ≤ k) : row (x ++ y) (rep y k) = row x y := (row_rep hy hk).trans (row_app hy)
theorem alike {x1 y1 x2 y2 u1 v1 u2 v2 t1 t2 : List Nat} (h1 : 1 ≤ y1.length) (h2 : 1 ≤ y2.length) (a1 : x1.length ≤ 12) (a2 : y1.length ≤ 26) (a3 : x2.length ≤ 12) (a4 : y2.length ≤ 26)
    (T1 : WK.Txt (row x1 y1) 200 t1) (T2 : WK.Txt (row x2 y2) 200 t2) (L1 : Lst (row x1 y1) u1 v1) (L2 : Lst (row x2 y2) u2 v2) : decide (t1 = t2) = decide (u1 = u2 ∧ v1 = v2) := by
  refine decide_eq_decide.mpr ⟨fun e => ?_, fun e => ?_⟩
  · subst e
    have : row x1 y1 = row x2 y2 := rows_alike ((row_per (h := x1) h1).mono (Nat.le_max_left x1.length x2.length)) ((row_per (h := x2) h2).mono (Nat.le_max_right x1.length x2.length)) fun j hj => by
      rw [← T1.2 j (by omega), T2.2 j (by omega)]
    rw [this] at L1
    exact L1.uniq L2
  · obtain ⟨rfl, rfl⟩ := e
    have e : row x1 y1 = row x2 y2 := funext fun i => (L1.tells.eq i).symm.trans (L2.tells.eq i)
    rw [e] at T1
    exact T1.uniq T2
theorem flr_flr {R : Nat → Nat} (b : ∀ i, R i = 48 ∨ R i = 49) : flr (flr R) = R := funext fun i => by
  show WX.flip1 (WX.flip1 (R i)) = R i
  rcases b i with e | e <;> rw [e] <;> rfl
theorem count_rep (a : List Nat) : ∀ n, (rep a n).count 49 = n * a.count 49
  | 0 => by rw [rep_zero, Nat.zero_mul]; rfl
  | n + 1 => by rw [rep_succ, List.count_append, count_rep a n, Nat.succ_mul, Nat.add_comm]
theorem rep1_get {c n i : Nat} (h : i < n) : (rep [c] n).getD i 0 = c := by
  have := rep_get (a := [c]) (by simp) n i (by simpa using h)
  refine Eq.trans this ?_
  rw [show i % [c].length = 0 from Nat.mod_one i]
  rfl
theorem len_lead (n : Nat) : ([49] ++ rep [48] n).length = 1 + n := by
  rw [List.length_append, rep_len]
  simp
theorem cnt_lead (n : Nat) : ([49] ++ rep [48] n).count 49 = 1 := by
  rw [List.count_append, count_rep]
  simp
theorem len_tail (n : Nat) : (rep [49] n ++ [48]).length = n + 1 := by
  rw [List.length_append, rep_len]
  simp
theorem great_long {n m : Nat} {L A : Nat} (h : OnLen [] ([49] ++ rep [48] n) [] (rep [49] m ++ [48]) L A) : A = (m + 1) * (1 + n) := by
  have := h.again (by rw [cnt_lead]; decide)
  rw [cnt_lead, Nat.gcd_one_right, Nat.div_one, len_lead, len_tail] at this
  exact this
theorem lst_lead (n : Nat) : Lst (row [] ([49] ++ rep [48] n)) [] ([49] ++ rep [48] n) := by
  have hl := len_lead n
  refine Lst.of ⟨by rw [hl]; omega, fun i => rfl⟩ (fun _ _ _ => Nat.zero_le _) fun p Pp => ?_
  have p0 := Pp.1
  have h1 := Pp.2 0 (Nat.le_refl _)
  rw [row_nil, row_nil, hl, Nat.zero_add, Nat.zero_mod] at h1
  rw [hl]
  have hm := Nat.mod_lt p (show 0 < 1 + n by omega)
  by_cases h : p % (1 + n) = 0
  · exact Nat.le_of_dvd p0 (Nat.dvd_of_mod_eq_zero h)
  · exfalso
    have e : ([49] ++ rep [48] n).getD (p % (1 + n)) 0 = 48 := by
      rw [getD_app, if_neg (show ¬ p % (1 + n) < [49].length by show ¬ p % (1 + n) < 1; omega)]
      exact rep1_get (by show p % (1 + n) - 1 < n; omega)
    rw [e] at h1
    cases h1
theorem lst_tail (m : Nat) : Lst (row [] (rep [49] m ++ [48])) [] (rep [49] m ++ [48]) := by
  have hl := len_tail m
  have g : ∀ i, i < m + 1 → (rep [49] m ++ [48]).getD i 0 = if i < m then 49 else 48 := fun i hi => by
    have e : (rep [49] m).length = m := by rw [rep_len]; simp
    rw [getD_app, e]
    by_cases h : i < m
    · rw [if_pos h, if_pos h, rep1_get h]
    · rw [if_neg h, if_neg h, show i - m = 0 by omega]
      rfl
  refine Lst.of ⟨by rw [hl]; omega, fun i => rfl⟩ (fun _ _ _ => Nat.zero_le _) fun p Pp => ?_
  have p0 := Pp.1
  have h1 := Pp.2 m (Nat.zero_le _)
  have m1 := Nat.mod_lt (m + p) (show 0 < m + 1 by omega)
  rw [row_nil, row_nil, hl, g _ m1, Nat.mod_eq_of_lt (show m < m + 1 by omega), g m (by omega), if_neg (Nat.lt_irrefl m)] at h1
  rw [hl]
  by_cases hp : m + 1 ≤ p
  · exact hp
  · exfalso
    have e : (m + p) % (m + 1) = p - 1 := by
      rw [show m + p = p - 1 + (m + 1) by omega, Nat.add_mod_right, Nat.mod_eq_of_lt (by omega)]
    rw [e, if_pos (by omega)] at h1
    cases h1
theorem lst_one : Lst (row [] [49]) [] [49] := lst_lead 0
theorem row_ones : row [49] [49, 49] = row [] [49] := funext fun i => by
  rw [row_nil, show i % ([49] : List Nat).length = 0 from Nat.mod_one i]
  by_cases h : i < 1
  · rw [row_head (by show i < 1; exact h), show i = 0 by omega]
  · rw [row_again (by show 1 ≤ i; omega)]
    have := Nat.mod_lt (i - ([49] : List Nat).length) (show 0 < ([49, 49] : List Nat).length by decide)
    have h2 : (i - ([49] : List Nat).length) % ([49, 49] : List Nat).length < 2 := this
    rcases (show (i - ([49] : List Nat).length) % ([49, 49] : List Nat).length = 0 ∨ (i - ([49] : List Nat).length) % ([49, 49] : List Nat).length = 1 by omega) with e | e <;> rw [e] <;> rfl
theorem nf_self {K : PySem.W.Frag} {C : Addr} : PySem.W.notFirst K C (.ref C) = true := by
  unfold PySem.W.notFirst
  simp
theorem nf_of {K : PySem.W.Frag} {C : Addr} {tb : Value} (h : PySem.W.subIn K tb (.ref C) = some false) : PySem.W.notFirst K C tb = true := by
  unfold PySem.W.notFirst
  rw [h]
  simp
theorem WOb.at {K : PySem.W.Frag} {H : Hp} {a C : Addr} {x y : List Nat} (h : WOb K H a x y) (hC : PySem.W.nsIn K mainGlobals "Word" = some (some (.ref C))) : ∃ dx, H a = some (.ins C dx [("_head", .str (tx x)), ("_again", .str (tx y))]) := by
  obtain ⟨⟨D, dx, hD, ha⟩, _⟩ := h
  rw [ns_inj hD hC] at ha
  exact ⟨dx, ha⟩
/-- what can stand in a word's place and makes none -/
def Odd (H : Hp) (v : V) : Prop := v = .non ∨ (∃ i, v = .int i) ∨ (∃ c, v = .bl c) ∨ (∃ z, v = .str (tx z) ∧ z.length ≤ 100 ∧ ¬ Bin z) ∨ ∃ a xs, v = .ref a ∧ (H a = some (.lst xs) ∨ H a = some (.tup xs))
theorem Odd.mono {H H' : Hp} {v : V} (s : Same H H') (h : Odd H v) : Odd H' v := by
  rcases h with h | h | h | h | ⟨a, xs, h1, h2⟩
  · exact .inl h
  · exact .inr (.inl h)
  · exact .inr (.inr (.inl h))
  · exact .inr (.inr (.inr (.inl h)))
  · exact .inr (.inr (.inr (.inr ⟨a, xs, h1, h2.elim (fun z => .inl (s _ _ z)) (fun z => .inr (s _ _ z))⟩)))
theorem Odd.signs {H : Hp} {v : V} (h : Odd H v) : SignsIs H v false := by
  rcases h with h | h | h | ⟨z, h1, h2, h3⟩ | ⟨a, xs, h1, h2 | h2⟩
  · exact .inr ⟨rfl, .inl h⟩
  · exact .inr ⟨rfl, .inr (.inl h)⟩
  · exact .inr ⟨rfl, .inr (.inr (.inr (.inl h)))⟩
  · exact .inl ⟨z, h1, by omega, (decide_eq_false h3).symm⟩
  · exact .inr ⟨rfl, .inr (.inr (.inl ⟨a, xs, h1, h2⟩))⟩
  · exact .inr ⟨rfl, .inr (.inr (.inr (.inr ⟨a, xs, h1, h2⟩)))⟩
theorem NoPair.back {H : Hp} {x : List Nat} {v : V} (hx : x.length ≤ 100) (h : Odd H v) : NoPair H (.str (tx x)) v := fun H' p s hp =>
  .inr ⟨rfl, .inl ⟨p, .str (tx x), v, decide (Bin x), false, rfl, hp, .inl ⟨x, rfl, by omega, rfl⟩, (h.mono s).signs, .inr rfl⟩⟩
theorem NoPair.front {H : Hp} {y : List Nat} {v : V} (hy : y.length ≤ 100) (h : Odd H v) : NoPair H v (.str (tx y)) := fun H' p s hp =>
  .inr ⟨rfl, .inl ⟨p, v, .str (tx y), false, decide (Bin y), rfl, hp, (h.mono s).signs, .inl ⟨y, rfl, by omega, rfl⟩, .inl rfl⟩⟩
theorem NoPair.none {H : Hp} {x : List Nat} (hx : x.length ≤ 100) : NoPair H (.str (tx x)) (.str (tx [])) := fun H' p s hp =>
  .inl ⟨p, x, [], rfl, hp, by omega, by decide, (decide_eq_false fun z => absurd z.2.2.2.1 (by decide)).symm⟩
end WK
namespace WK
open PySem PySem.Spec PyProof.Rows L2
abbrev s_law : Stmt := topS 63
theorem sc_law : FnScope ["_law_script", "_law_j", "_law_one", "_law_other", "_law_same", "_law_things", "_law_alike", "_law_turn", "_law_put", "_law_odd", "_law_caught", "_law_e"] ["_law_script"] (defScope s_law) := ⟨rfl, rfl, rfl, by decide +kernel, rfl, by decide +kernel, by decide +kernel⟩
section
variable {P : Program} {w : World} {K : PySem.W.Frag} {mg : Str → Option Value} {base : Heap}
def sp_law (K : PySem.W.Frag) : Sp := fun vs H Q _ => ∃ (a : Addr) (ns : List Int), vs = [.ref a] ∧ SqL K H a (ns.map V.int) ∧ ns.length ≤ 63 ∧ ∀ H', Q (.bl true) H'
theorem ok_law {f : Addr} {fd : FuncData} (F : Fun K "law" "law" s_law f fd) (m_ValueError : mg "ValueError" = none) (m_isinstance : mg "isinstance" = none) (m_range : mg "range" = none) (m_str : mg "str" = none) {f_law_word : Addr} {fd_law_word : FuncData} (c_law_word : Cal P w K mg base CX0 2 f_law_word fd_law_word "_law_word" ["_law_script", "_law_j"] (sp_law_word K)) {f_law_text : Addr} {fd_law_text : FuncData} (c_law_text : Cal P w K mg base CX0 1 f_law_text fd_law_text "_law_text" ["_law_word_here", "_law_many"] (sp_law_text K)) {f_law_shown : Addr} {fd_law_shown : FuncData} (c_law_shown : Cal P w K mg base CX0 6 f_law_shown fd_law_shown "_law_shown" ["_law_word_here", "_law_thing"] (sp_law_shown K)) {f_on_words : Addr} {fd_on_words : FuncData} (c_on_words : KCal P w K mg base (L2.CX P w) 6 f_on_words fd_on_words "on_words" ["one", "other", "most"] (sp_on K) 2 ["most"] [.int 20000]) {f_other_of : Addr} {fd_other_of : FuncData} (c_other_of : Cal P w K mg base CX0 4 f_other_of fd_other_of "other_of" ["word"] (sp_other_of K)) {f_least_word : Addr} {fd_least_word : FuncData} (c_least_word : Cal P w K mg base (L2.CX P w) 4 f_least_word fd_least_word "least_word" ["word"] (sp_least_word K)) {f_law_draws : Addr} {fd_law_draws : FuncData} (c_law_draws : Cal P w K mg base CX0 1 f_law_draws fd_law_draws "_law_draws" ["_law_script", "_law_j", "_law_many"] (sp_law_draws K)) {f_law_refused : Addr} {fd_law_refused : FuncData} (c_law_refused : Cal P w K mg base CX0 7 f_law_refused fd_law_refused "_law_refused" ["_law_first", "_law_behind"] (sp_law_refused K)) {f_law_names_of : Addr} {fd_law_names_of : FuncData} (c_law_names_of : Cal P w K mg base CX0 1 f_law_names_of fd_law_names_of "_law_names_of" ["_law_e"] (sp_law_names_of K)) {C_LoomError : Addr} (e_LoomError : ECal K mg "LoomError" C_LoomError) {C_NoWord : Addr} (e_NoWord : ECal K mg "NoWord" C_NoWord) {C_TooLong : Addr} (e_TooLong : ECal K mg "TooLong" C_TooLong) {C_Word : Addr} (e_Word : DCal K mg "Word" C_Word) {f_Wordi : Addr} {fd_Wordi : FuncData} (w_Word : OCal P w K mg base (L2.CX P w) 5 "Word" C_Word f_Wordi fd_Wordi ["self", "again", "head"] (sp_Word_init K) 1 ["head"]) (v_Word : OCls K "Word" C_Word ["_head", "_again"]) {f_Word___eq__ : Addr} {fd_Word___eq__ : FuncData} (q_Word___eq__ : MCal P w K mg base CX0 1 C_Word "__eq__" f_Word___eq__ fd_Word___eq__ ["self", "other"] (sp_Word_eq K)) {f_Word___str__ : Addr} {fd_Word___str__ : FuncData} (q_Word___str__ : MCal P w K mg base CX0 1 C_Word "__str__" f_Word___str__ fd_Word___str__ ["self"] (sp_Word_str K)) {f_Word_on : Addr} {fd_Word_on : FuncData} (q_Word_on : MCal P w K mg base (L2.CX P w) 7 C_Word "on" f_Word_on fd_Word_on ["self", "other"] (sp_Word_on K)) {f_Word_other : Addr} {fd_Word_other : FuncData} (q_Word_other : MCal P w K mg base CX0 7 C_Word "other" f_Word_other fd_Word_other ["self"] (sp_Word_other K)) {f_Word_word : Addr} {fd_Word_word : FuncData} (q_Word_word : MCal P w K mg base CX0 1 C_Word "word" f_Word_word fd_Word_word ["self"] (sp_Word_word K)) (u_TooLong_LoomError : PySem.W.subIn K (.ref C_TooLong) (.ref C_LoomError) = some true) (f_st_tuple : PySem.W.subIn K (.type "tuple") (.ref C_Word) = some false) (f_st_str : PySem.W.subIn K (.type "str") (.ref C_Word) = some false) (f_st_NoneType : PySem.W.subIn K (.type "NoneType") (.ref C_Word) = some false) (f_ne_Word : WX.NeCls K C_Word f_Word___eq__) (f_oi_Word : WX.OIs K C_Word) : FnOk P w K mg base CX0 8 f fd ["_law_script"] (sp_law K) := by
  refine F.ok sc_law (fun vs H Q E h => ?_) (fun cdv A outer s H vs Q E hr h => ?_)
  · obtain ⟨_, _, rfl, _⟩ := h
    rfl
  · obtain ⟨a, ns, rfl, hS, h1, q⟩ := h
    have hz := szl
    refine ⟨_, (pss_cons (ps_for PassesOwn.never rfl (pi_range1 (by rfl) m_range (pa_cons pe_int pa_nil)) (pg_name (i := 1) sc_law.nd rfl (Or.inl rfl))
        (pss_cons (ps_set (i := 2) sc_law.nd rfl (Or.inl rfl) (pe_call c_law_word.G (hr.mono (by decide)) (by rfl) c_law_word.g c_law_word.kp c_law_word.b .nil pass0 (pa_cons (pv 0) (pa_cons (pe_op op_mul pe_int (pv 1)) pa_nil))))
        (pss_cons (ps_set (i := 3) sc_law.nd rfl (Or.inl rfl) (pe_call c_law_word.G (hr.mono (by decide)) (by rfl) c_law_word.g c_law_word.kp c_law_word.b .nil pass0 (pa_cons (pv 0) (pa_cons (pe_op op_add (pe_op op_mul pe_int (pv 1)) pe_int) pa_nil))))
        (pss_cons (ps_set (i := 4) sc_law.nd rfl (Or.inl rfl) (pe_tup (pa_cons (pe_op op_add_str (pe_ix ix_tup (pv 2) pe_int (fun _ _ => rfl)) (pe_ix ix_tup (pv 2) pe_int (fun _ _ => rfl))) (pa_cons (pe_op op_mul_str (pe_ix ix_tup (pv 2) pe_int (fun _ _ => rfl)) (pe_op op_add pe_int (pv 1))) pa_nil))))
        (pss_cons (ps_set (i := 5) sc_law.nd rfl (Or.inl rfl) (pe_lst (pa_cons (pe_makeK w_Word.M w_Word.G (hr.mono (by decide)) (by rfl) w_Word.g w_Word.k1 passL (pa_cons (pe_ix ix_tup (pv 2) pe_int (fun _ _ => rfl)) pa_nil) (pk_cons (pe_ix ix_tup (pv 2) pe_int (fun _ _ => rfl)) pk_nil)) (pa_cons (pe_makeK w_Word.M w_Word.G (hr.mono (by decide)) (by rfl) w_Word.g w_Word.k1 passL (pa_cons (pe_ix ix_tup (pv 3) pe_int (fun _ _ => rfl)) pa_nil) (pk_cons (pe_ix ix_tup (pv 3) pe_int (fun _ _ => rfl)) pk_nil)) (pa_cons (pe_makeK w_Word.M w_Word.G (hr.mono (by decide)) (by rfl) w_Word.g w_Word.k1 passL (pa_cons (pe_ix ix_tup (pv 4) pe_int (fun _ _ => rfl)) pa_nil) (pk_cons (pe_ix ix_tup (pv 4) pe_int (fun _ _ => rfl)) pk_nil)) pa_nil)))))
        (pss_cons (ps_set (i := 6) sc_law.nd rfl (Or.inl rfl) (pe_cmpR op_eq (pe_call c_law_text.G (hr.mono (by decide)) (by rfl) c_law_text.g c_law_text.kp c_law_text.b .nil pass0 (pa_cons (pv 2) (pa_cons pe_int pa_nil))) (pe_call c_law_text.G (hr.mono (by decide)) (by rfl) c_law_text.g c_law_text.kp c_law_text.b .nil pass0 (pa_cons (pv 3) (pa_cons pe_int pa_nil))) (nomark _)))
        (pss_cons (ps_for PassesOwn.never rfl (pi_range1 (by rfl) m_range (pa_cons pe_int pa_nil)) (pg_name (i := 7) sc_law.nd rfl (Or.inl rfl))
          (pss_cons (ps_if (PW.pt (pw_or (pt_not (pt_val (pe_call c_law_shown.G (hr.mono (by decide)) (by rfl) c_law_shown.g c_law_shown.kp c_law_shown.b .nil pass0 (pa_cons (pv 2) (pa_cons (pe_ix ix_list (pv 5) pe_int (fun _ _ => rfl)) pa_nil))))) (pw_or (pt_not (pt_val (pe_call c_law_shown.G (hr.mono (by decide)) (by rfl) c_law_shown.g c_law_shown.kp c_law_shown.b .nil pass0 (pa_cons (pv 3) (pa_cons (pe_ix ix_list (pv 5) pe_int (fun _ _ => rfl)) pa_nil))))) (pw_or1 (pt_cmpR (WX.op_neO q_Word___eq__.G (hr.mono (by decide)) q_Word___eq__.b pass0 f_ne_Word) (pe_ix ix_list (pv 5) pe_int (fun _ _ => rfl)) (pe_ix ix_list (pv 5) pe_int (fun _ _ => rfl)) (nomark _))))))
            (pss_one (ps_ret pe_bl))
            pss_nil)
          (pss_cons (ps_if (PW.pt (pw_or (pt_cmpR op_ne (pe_cmpR (WX.op_eqO q_Word___eq__.G (hr.mono (by decide)) q_Word___eq__.b pass0 q_Word___eq__.M) (pe_ix ix_list (pv 5) pe_int (fun _ _ => rfl)) (pe_ix ix_list (pv 5) pe_int (fun _ _ => rfl)) (nomark _)) (pv 6) (nomark _)) (pw_or1 (pt_cmpR op_ne (pe_cmpR (WX.op_eqO q_Word___eq__.G (hr.mono (by decide)) q_Word___eq__.b pass0 q_Word___eq__.M) (pe_ix ix_list (pv 5) pe_int (fun _ _ => rfl)) (pe_ix ix_list (pv 5) pe_int (fun _ _ => rfl)) (nomark _)) (pv 6) (nomark _)))))
            (pss_one (ps_ret pe_bl))
            pss_nil)
          (pss_cons (ps_if (PW.pt (pw_or (pt_cmpR (WX.op_eqO q_Word___eq__.G (hr.mono (by decide)) q_Word___eq__.b pass0 q_Word___eq__.M) (pe_ix ix_list (pv 5) pe_int (fun _ _ => rfl)) (pv 2) (nomark _)) (pw_or (pt_cmpR (WX.op_eqO q_Word___eq__.G (hr.mono (by decide)) q_Word___eq__.b pass0 q_Word___eq__.M) (pe_ix ix_list (pv 5) pe_int (fun _ _ => rfl)) (pe_callTy (WX.cr_strO q_Word___str__.G (hr.mono (by decide)) q_Word___str__.b pass0 q_Word___str__.M) (by rfl) m_str (by decide +kernel) (pa_cons (pe_ix ix_list (pv 5) pe_int (fun _ _ => rfl)) pa_nil)) (nomark _)) (pw_or1 (pt_cmpR (WX.op_eqO q_Word___eq__.G (hr.mono (by decide)) q_Word___eq__.b pass0 q_Word___eq__.M) (pe_ix ix_list (pv 5) pe_int (fun _ _ => rfl)) pe_non (nomark _))))))
            (pss_one (ps_ret pe_bl))
            pss_nil)
          (pss_cons (ps_set (i := 8) sc_law.nd rfl (Or.inl rfl) (pe_meth (pe_ix ix_list (pv 5) pe_int (fun _ _ => rfl)) v_Word.C q_Word_on.M q_Word_on.G (hr.mono (by decide)) q_Word_on.b .nil passL (pa_cons (pe_ix ix_list (pv 5) pe_int (fun _ _ => rfl)) pa_nil)))
          (pss_cons (ps_if (PW.pt (pw_or (pt_not (pt_val (pe_callB call_isi (by rfl) m_isinstance (by decide +kernel) (pa_cons (pv 8) (pa_cons (pe_glob (v := .ref C_Word) (by rfl) e_Word.g rfl) pa_nil))))) (pw_or (pt_cmpR (op_neD hr.units) (pe_meth0 (pv 8) v_Word.C q_Word_word.M q_Word_word.G (hr.mono (by decide)) q_Word_word.b .nil pass0) (pe_call c_on_words.G (hr.mono (by decide)) (by rfl) c_on_words.g c_on_words.kp c_on_words.b.choose_spec.2 c_on_words.b.choose_spec.1 passL (pa_cons (pv 2) (pa_cons (pv 3) pa_nil))) (nomark _)) (pw_or1 (pt_cmpR (WX.op_neO q_Word___eq__.G (hr.mono (by decide)) q_Word___eq__.b pass0 f_ne_Word) (pv 8) (pe_meth (pe_ix ix_list (pv 5) pe_int (fun _ _ => rfl)) v_Word.C q_Word_on.M q_Word_on.G (hr.mono (by decide)) q_Word_on.b .nil passL (pa_cons (pe_ix ix_list (pv 5) pe_int (fun _ _ => rfl)) pa_nil)) (nomark _))))))
            (pss_one (ps_ret pe_bl))
            pss_nil)
          (pss_one (ps_if (PW.pt (pw_or (pt_cmpR (op_neD hr.units) (pe_meth0 (pe_meth0 (pe_ix ix_list (pv 5) pe_int (fun _ _ => rfl)) v_Word.C q_Word_other.M q_Word_other.G (hr.mono (by decide)) q_Word_other.b .nil pass0) v_Word.C q_Word_word.M q_Word_word.G (hr.mono (by decide)) q_Word_word.b .nil pass0) (pe_call c_other_of.G (hr.mono (by decide)) (by rfl) c_other_of.g c_other_of.kp c_other_of.b .nil pass0 (pa_cons (pv 2) pa_nil)) (nomark _)) (pw_or1 (pt_cmpR (WX.op_neO q_Word___eq__.G (hr.mono (by decide)) q_Word___eq__.b pass0 f_ne_Word) (pe_meth0 (pe_meth0 (pe_ix ix_list (pv 5) pe_int (fun _ _ => rfl)) v_Word.C q_Word_other.M q_Word_other.G (hr.mono (by decide)) q_Word_other.b .nil pass0) v_Word.C q_Word_other.M q_Word_other.G (hr.mono (by decide)) q_Word_other.b .nil pass0) (pe_ix ix_list (pv 5) pe_int (fun _ _ => rfl)) (nomark _)))))
            (pss_one (ps_ret pe_bl))
            pss_nil))))))))
        (pss_cons (ps_if (PW.pt (pw_or (pt_cmpR (op_neD hr.units) (pe_meth0 (pe_make w_Word.M w_Word.G (hr.mono (by decide)) (by rfl) w_Word.g w_Word.b1.choose_spec.2 w_Word.b1.choose_spec.1 passL (pa_cons (pe_ix ix_tup (pv 2) pe_int (fun _ _ => rfl)) pa_nil)) v_Word.C q_Word_word.M q_Word_word.G (hr.mono (by decide)) q_Word_word.b .nil pass0) (pe_call c_least_word.G (hr.mono (by decide)) (by rfl) c_least_word.g c_least_word.kp c_least_word.b .nil passL (pa_cons (pe_tup (pa_cons pe_str (pa_cons (pe_ix ix_tup (pv 2) pe_int (fun _ _ => rfl)) pa_nil))) pa_nil)) (nomark _)) (pw_or1 (pt_cmpR (op_neD hr.units) (pe_meth0 (pe_makeK0 w_Word.M w_Word.G (hr.mono (by decide)) (by rfl) w_Word.g w_Word.k0.choose_spec passL (pk_cons (pe_ix ix_tup (pv 2) pe_int (fun _ _ => rfl)) pk_nil)) v_Word.C q_Word_word.M q_Word_word.G (hr.mono (by decide)) q_Word_word.b .nil pass0) (pe_call c_least_word.G (hr.mono (by decide)) (by rfl) c_least_word.g c_least_word.kp c_least_word.b .nil passL (pa_cons (pe_tup (pa_cons (pe_ix ix_tup (pv 2) pe_int (fun _ _ => rfl)) (pa_cons pe_str pa_nil))) pa_nil)) (nomark _)))))
          (pss_one (ps_ret pe_bl))
          pss_nil)
        (pss_cons (ps_set (i := 9) sc_law.nd rfl (Or.inl rfl) (pe_ix ix_list (pe_lst (pa_cons pe_non (pa_cons pe_int (pa_cons pe_bl (pa_cons pe_str (pa_cons pe_str (pa_cons (pe_lst (pa_cons pe_str pa_nil)) (pa_cons (pe_tup (pa_cons pe_str pa_nil)) pa_nil)))))))) (pe_op op_mod (pe_ix ix_list (pe_call c_law_draws.G (hr.mono (by decide)) (by rfl) c_law_draws.g c_law_draws.kp c_law_draws.b .nil pass0 (pa_cons (pv 0) (pa_cons (pe_op op_add pe_int (pv 1)) (pa_cons pe_int pa_nil)))) pe_int (fun _ _ => rfl)) pe_int) (fun _ _ => rfl)))
        (pss_one (ps_if (PW.pt (pw_or (pt_not (pt_val (pe_call c_law_refused.G (hr.mono (by decide)) (by rfl) c_law_refused.g c_law_refused.kp c_law_refused.b .nil pass0 (pa_cons (pe_ix ix_tup (pv 2) pe_int (fun _ _ => rfl)) (pa_cons (pv 9) pa_nil))))) (pw_or (pt_not (pt_val (pe_call c_law_refused.G (hr.mono (by decide)) (by rfl) c_law_refused.g c_law_refused.kp c_law_refused.b .nil pass0 (pa_cons (pv 9) (pa_cons (pe_ix ix_tup (pv 2) pe_int (fun _ _ => rfl)) pa_nil))))) (pw_or1 (pt_not (pt_val (pe_call c_law_refused.G (hr.mono (by decide)) (by rfl) c_law_refused.g c_law_refused.kp c_law_refused.b .nil pass0 (pa_cons (pe_ix ix_tup (pv 2) pe_int (fun _ _ => rfl)) (pa_cons pe_str pa_nil)))))))))
          (pss_one (ps_ret pe_bl))
          pss_nil)))))))))))
      (pss_cons (ps_set (i := 10) sc_law.nd rfl (Or.inl rfl) pe_non)
      (pss_cons (WX.ps_try_keep (i := 11) (j := 10) rfl rfl rfl sc_law.nd rfl rfl rfl (Or.inl rfl) (Or.inl rfl) ⟨rfl, by decide, Or.inl e_LoomError.g⟩ rfl (Or.inl rfl) (by decide) (by decide) (fun W pn xe tk _ => 
        (pss_one (ps_expr (WX.pe_methX (WX.pe_makeX w_Word.M w_Word.G (hr.mono (by decide)) (by rfl) w_Word.g w_Word.b1.choose_spec.2 w_Word.b1.choose_spec.1 (fun σ => passAt tk σ) (pa_cons (pe_op op_add_str pe_str (pe_op op_mul_str pe_str pe_int)) pa_nil)) v_Word.C q_Word_on.M q_Word_on.G (hr.mono (by decide)) q_Word_on.b .nil (fun σ => passAt tk σ) (pa_cons (WX.pe_makeX w_Word.M w_Word.G (hr.mono (by decide)) (by rfl) w_Word.g w_Word.b1.choose_spec.2 w_Word.b1.choose_spec.1 (fun σ => passAt tk σ) (pa_cons (pe_op op_add_str (pe_op op_mul_str pe_str pe_int) pe_str) pa_nil)) pa_nil))))))
      (pss_cons (ps_if (PW.pt (pw_or (pt_cmpR (op_neD hr.units) (pe_call c_law_names_of.G (hr.mono (by decide)) (by rfl) c_law_names_of.g c_law_names_of.kp c_law_names_of.b .nil pass0 (pa_cons (pv 10) pa_nil)) (pe_lst (pa_cons pe_str pa_nil)) (nomark _)) (pw_or1 (pt_not (pt_val (pe_callB WX.call_isX (by rfl) m_isinstance (by decide +kernel) (pa_cons (pv 10) (pa_cons (pe_bltn (v := .ty "ValueError") (by rfl) m_ValueError (by decide +kernel) rfl) pa_nil))))))))
        (pss_one (ps_ret pe_bl))
        pss_nil)
      (pss_one (ps_ret (pe_and (pe_cmpR (op_eqD hr.units) (pe_meth0 (pe_make0 w_Word.M w_Word.G (hr.mono (by decide)) (by rfl) w_Word.g w_Word.b0.choose_spec.2 w_Word.b0.choose_spec.1 passL) v_Word.C q_Word_word.M q_Word_word.G (hr.mono (by decide)) q_Word_word.b .nil pass0) (pe_tup (pa_cons pe_str (pa_cons pe_str pa_nil))) (nomark _)) (pe_one (pe_cmpR (WX.op_eqO q_Word___eq__.G (hr.mono (by decide)) q_Word___eq__.b pass0 q_Word___eq__.M) (pe_make0 w_Word.M w_Word.G (hr.mono (by decide)) (by rfl) w_Word.g w_Word.b0.choose_spec.2 w_Word.b0.choose_spec.1 passL) (pe_makeK w_Word.M w_Word.G (hr.mono (by decide)) (by rfl) w_Word.g w_Word.k1 passL (pa_cons pe_str pa_nil) (pk_cons pe_str pk_nil)) (nomark _)))))))))), ?_⟩
    refine ⟨4, rfl, by decide, by decide, ?_⟩
    refine for_range (n := 4) (fun i σ H' => Same H H' ∧ ∃ z1 z2 z3 z4 z5 z6 z7 z8 z9 z10 z11, σ = [some (.ref a), z1, z2, z3, z4, z5, z6, z7, z8, z9, z10, z11]) ⟨Same.refl _, _, _, _, _, _, _, _, _, _, _, _, rfl⟩ (fun i σ H0 hi hP => ?_) (fun σ H' hP => ?_)
    · obtain ⟨s0, z1, z2, z3, z4, z5, z6, z7, z8, z9, z10, z11, rfl⟩ := hP
      refine ⟨_, rfl, _, rfl, _, _, rfl, rfl, .inl ⟨by decide, by decide⟩, a, ns, 2 * i, ?_, s0.seq hS, by omega, by omega, fun b1 x1 y1 H1 s1 nb1 hb1 bx1 by1 lx1 ly1 ly1' => ?_⟩
      · show [V.ref a, V.int (2 * ((0 : Int) + (i : Int)))] = _
        rw [Int.zero_add]
        rfl
      have hS1 : SqL K H1 a (ns.map V.int) := (s0.trans s1).seq hS
      refine ⟨_, rfl, _, rfl, _, _, rfl, rfl, .inl ⟨by decide, by decide⟩, _, _, rfl, rfl, a, ns, 2 * i + 1, ?_, hS1, by omega, by omega, fun b2 x2 y2 H2 s2 nb2 hb2 bx2 by2 lx2 ly2 ly2' => ?_⟩
      · show [V.ref a, V.int (2 * ((0 : Int) + (i : Int)) + 1)] = _
        rw [Int.zero_add]
        rfl
      have w1 : WordAt H2 b1 x1 y1 := ⟨s2 _ _ hb1, bx1, by1, by omega, by omega, by omega⟩
      have w2 : WordAt H2 b2 x2 y2 := ⟨hb2, bx2, by2, by omega, by omega, by omega⟩
      have s02 : Same H H2 := s0.trans (s1.trans s2)
      clear s0 s1 s2 hS1 hb1 hb2 nb1 nb2
      have lt1 := tx_len x1
      have lt2 := tx_len y1
      have rl := rep_len y1 (1 + i)
      refine ⟨_, rfl, b1, _, 0, _, rfl, rfl, SqT.of w1.1, atI_nat (j := 0) rfl, _, rfl, b1, _, 1, _, rfl, rfl, SqT.of w1.1, atI_nat (j := 1) rfl, _, _, rfl, rfl, by omega, _, rfl, b1, _, 1, _, rfl, rfl, SqT.of w1.1, atI_nat (j := 1) rfl, _, rfl, _, _, rfl, rfl, y1, 1 + i, rfl, ?_, ?_, by omega, by show 2 ≤ sizeLine; decide, fun b3 nb3 => ?_⟩
      · show V.int ((1 : Int) + ((0 : Int) + (i : Int))) = _
        rw [Int.zero_add]
        rfl
      · have := Nat.mul_le_mul ly1' (show 1 + i ≤ 4 by omega)
        omega
      have s3 := same_upd (o := .tup [.str (tx x1 ++ tx y1), .str (tx (rep y1 (1 + i)))]) nb3
      have w3 : WordAt (upd H2 b3 (.tup [.str (tx x1 ++ tx y1), .str (tx (rep y1 (1 + i)))])) b3 (x1 ++ y1) (rep y1 (1 + i)) := by
        have l4 := Nat.mul_le_mul (show 1 + i ≤ 4 by omega) ly1'
        have l5 := Nat.mul_le_mul (show 1 ≤ 1 + i by omega) ly1
        refine ⟨?_, bin_app bx1 by1, bin_rep by1 _, by rw [List.length_append]; omega, by omega, by omega⟩
        rw [upd_same, tx_add]
      have l3 : (x1 ++ y1).length ≤ 38 ∧ (rep y1 (1 + i)).length ≤ 104 := by
        have l4 := Nat.mul_le_mul (show 1 + i ≤ 4 by omega) ly1'
        exact ⟨by rw [List.length_append]; omega, by omega⟩
      have w1 := w1.mono s3
      have w2 := w2.mono s3
      have s03 := s02.trans s3
      generalize (upd H2 b3 (.tup [.str (tx x1 ++ tx y1), .str (tx (rep y1 (1 + i)))])) = H3 at *
      clear s02 s3 nb3
      have er := row_same (x := x1) (y := y1) (by omega) (show 1 ≤ 1 + i by omega)
      -- the three objects
      refine ⟨_, rfl, b1, _, 1, _, rfl, rfl, SqT.of w1.1, atI_nat (j := 1) rfl, _, rfl, b1, _, 0, _, rfl, rfl, SqT.of w1.1, atI_nat (j := 0) rfl, rfl, rfl, fun o1 d1 na nd ne => ?_⟩
      refine ⟨o1, C_Word, d1, .str (tx x1), .str (tx y1), rfl, v_Word.a, upd_same, .inl ⟨x1, y1, rfl, rfl, bx1, by1, by omega, ly1, by omega, fun HA u1 v1 kp L1 lu1 lv1 hA => ⟨rfl, ?_⟩⟩⟩
      obtain ⟨t1, ob1⟩ := made_ob v_Word.a na nd ne kp hA L1 lu1 lv1 bx1 by1 (by omega) ly1 (by omega)
      have w1 := w1.mono t1
      have w2 := w2.mono t1
      have w3 := w3.mono t1
      have s04 := s03.trans t1
      clear na nd ne kp hA t1 s03
      refine ⟨_, rfl, b2, _, 1, _, rfl, rfl, SqT.of w2.1, atI_nat (j := 1) rfl, _, rfl, b2, _, 0, _, rfl, rfl, SqT.of w2.1, atI_nat (j := 0) rfl, rfl, rfl, fun o2 d2 na nd ne => ?_⟩
      refine ⟨o2, C_Word, d2, .str (tx x2), .str (tx y2), rfl, v_Word.a, upd_same, .inl ⟨x2, y2, rfl, rfl, bx2, by2, by omega, ly2, by omega, fun HB u2 v2 kp L2 lu2 lv2 hA => ⟨rfl, ?_⟩⟩⟩
      obtain ⟨t1, ob2⟩ := made_ob v_Word.a na nd ne kp hA L2 lu2 lv2 bx2 by2 (by omega) ly2 (by omega)
      have w1 := w1.mono t1
      have w2 := w2.mono t1
      have w3 := w3.mono t1
      have ob1 := ob1.mono t1
      have s05 := s04.trans t1
      clear na nd ne kp hA t1 s04
      refine ⟨_, rfl, b3, _, 1, _, rfl, rfl, SqT.of w3.1, atI_nat (j := 1) rfl, _, rfl, b3, _, 0, _, rfl, rfl, SqT.of w3.1, atI_nat (j := 0) rfl, rfl, rfl, fun o3 d3 na nd ne => ?_⟩
      refine ⟨o3, C_Word, d3, .str (tx (x1 ++ y1)), .str (tx (rep y1 (1 + i))), rfl, v_Word.a, upd_same, .inl ⟨x1 ++ y1, rep y1 (1 + i), rfl, rfl, w3.2.1, w3.2.2.1, w3.2.2.2.1, w3.2.2.2.2.1, w3.2.2.2.2.2, fun HC u3 v3 kp L3 lu3 lv3 hA => ⟨rfl, ?_⟩⟩⟩
      obtain ⟨t1, ob3⟩ := made_ob v_Word.a na nd ne kp hA L3 lu3 lv3 w3.2.1 w3.2.2.1 w3.2.2.2.1 w3.2.2.2.2.1 w3.2.2.2.2.2
      rw [er] at L3
      obtain ⟨rfl, rfl⟩ := L3.uniq L1
      have w1 := w1.mono t1
      have w2 := w2.mono t1
      have ob1 := ob1.mono t1
      have ob2 := ob2.mono t1
      have s06 := s05.trans t1
      clear na nd ne kp hA t1 s05 w3 L3 lu3 lv3
      refine ⟨by show 3 ≤ sizeLine; decide, fun pl npl => ?_⟩
      have hl := upd_same (H := HC) (a := pl) (o := .lst [V.ref o1, V.ref o2, V.ref o3])
      have t1 := same_upd (o := .lst [V.ref o1, V.ref o2, V.ref o3]) npl
      have w1 := w1.mono t1
      have w2 := w2.mono t1
      have ob1 := ob1.mono t1
      have ob2 := ob2.mono t1
      have ob3 := ob3.mono t1
      have s07 := s06.trans t1
      generalize (upd HC pl (.lst [V.ref o1, V.ref o2, V.ref o3])) = HD at *
      clear t1 npl s06
      refine ⟨_, rfl, b1, x1, y1, 200, rfl, w1.1, w1.2.2.2.2.1, w1.2.2.2.2.2, w1.2.2.2.1, by decide, fun t1 T1 => ?_⟩
      refine ⟨_, rfl, b2, x2, y2, 200, rfl, w2.1, w2.2.2.2.2.1, w2.2.2.2.2.2, w2.2.2.2.1, by decide, fun t2 T2 => ⟨rfl, ?_⟩⟩
      have eal := (tx_eq t1 t2).trans (alike ly1 ly2 lx1 ly1' lx2 ly2' T1 T2 L1 L2)
      generalize decide (V.str (tx t1) = V.str (tx t2)) = al at *
      clear T1 T2
      have rr1 : row u3 v3 = row x1 y1 := funext L1.tells.eq
      have rr2 : row u2 v2 = row x2 y2 := funext L2.tells.eq
      obtain ⟨e1, he1⟩ := ob1.at v_Word.a
      obtain ⟨e2, he2⟩ := ob2.at v_Word.a
      obtain ⟨e3, he3⟩ := ob3.at v_Word.a
      have bnd : x2.length * y1.length ≤ 12 * 26 ∧ y2.length * y1.length ≤ 26 * 26 := ⟨Nat.mul_le_mul lx2 ly1', Nat.mul_le_mul ly2' ly1'⟩
      have bnu : u2.length * v3.length ≤ 12 * 26 ∧ v2.length * v3.length ≤ 26 * 26 := ⟨Nat.mul_le_mul (by omega) (by omega), Nat.mul_le_mul (by omega) (by omega)⟩
      have onl : ∀ L A, OnLen u3 v3 u2 v2 L A → L ≤ 20000 ∧ A ≤ 20000 := fun L A ol => by
        have := ol.le ob1.2.2.2.2.1 ob2.2.2.2.2.1
        omega
      refine ⟨2, rfl, by decide, by decide, ?_⟩
      refine for_range (n := 2) (fun k σ H' => Same HD H' ∧ ∃ f7 f8, σ = [some (.ref a), some (.int ((0 : Int) + (i : Int))), some (.ref b1), some (.ref b2), some (.ref b3), some (.ref pl), some (.bl al), f7, f8, z9, z10, z11]) ⟨Same.refl _, _, _, rfl⟩ (fun k σ HJ hk hP => ?_) (fun σ HK hP => ?_)
      · obtain ⟨sJ, f7, f8, rfl⟩ := hP
        -- shown
        refine ⟨_, rfl, _, rfl, pl, _, 0, _, rfl, rfl, SqL.of (sJ _ _ hl), atI_nat (j := 0) rfl, b1, o1, x1, y1, u3, v3, rfl, w1.mono sJ, by omega, by omega, ob1.mono sJ, L1, fun H5 s5 => ⟨true, rfl, iteF ?_⟩⟩
        have sJ := sJ.trans s5
        refine ⟨_, rfl, _, rfl, pl, _, 1, _, rfl, rfl, SqL.of (sJ _ _ hl), atI_nat (j := 1) rfl, b2, o2, x2, y2, u2, v2, rfl, w2.mono sJ, by omega, by omega, ob2.mono sJ, L2, fun H6 s6 => ⟨true, rfl, iteF ?_⟩⟩
        have sJ := sJ.trans s6
        clear s5 s6
        refine ⟨_, rfl, pl, _, 0, _, rfl, rfl, SqL.of (sJ _ _ hl), atI_nat (j := 0) rfl, _, rfl, pl, _, 2, _, rfl, rfl, SqL.of (sJ _ _ hl), atI_nat (j := 2) rfl, o1, e1, _, o3, e3, _, rfl, rfl, sJ _ _ he1, sJ _ _ he3, o1, u3, v3, _, rfl, ob1.mono sJ, .inl ⟨o3, u3, v3, rfl, ob3.mono sJ, _, rfl, false, ?_, iteF ?_⟩⟩
        · rw [decide_eq_true ⟨rfl, rfl⟩]
          rfl
        -- == as the signs
        refine ⟨_, rfl, pl, _, 0, _, rfl, rfl, SqL.of (sJ _ _ hl), atI_nat (j := 0) rfl, _, rfl, pl, _, 1, _, rfl, rfl, SqL.of (sJ _ _ hl), atI_nat (j := 1) rfl, o1, e1, _, _, rfl, sJ _ _ he1, .own (sJ _ _ he2), nf_self, o1, u3, v3, _, rfl, ob1.mono sJ, .inl ⟨o2, u2, v2, rfl, ob2.mono sJ, _, rfl, _, rfl, rfl, false, ?_, iteF ?_⟩⟩
        · show V.bl (!decide (V.bl (decide (u3 = u2 ∧ v3 = v2)) = V.bl al)) = V.bl false
          rw [eal, decide_eq_true rfl]
          rfl
        refine ⟨_, rfl, pl, _, 1, _, rfl, rfl, SqL.of (sJ _ _ hl), atI_nat (j := 1) rfl, _, rfl, pl, _, 2, _, rfl, rfl, SqL.of (sJ _ _ hl), atI_nat (j := 2) rfl, o2, e2, _, _, rfl, sJ _ _ he2, .own (sJ _ _ he3), nf_self, o2, u2, v2, _, rfl, ob2.mono sJ, .inl ⟨o3, u3, v3, rfl, ob3.mono sJ, _, rfl, _, rfl, rfl, false, ?_, iteF ?_⟩⟩
        · show V.bl (!decide (V.bl (decide (u2 = u3 ∧ v2 = v3)) = V.bl al)) = V.bl false
          rw [eal, show decide (u2 = u3 ∧ v2 = v3) = decide (u3 = u2 ∧ v3 = v2) from decide_eq_decide.mpr ⟨fun z => ⟨z.1.symm, z.2.symm⟩, fun z => ⟨z.1.symm, z.2.symm⟩⟩, decide_eq_true rfl]
          rfl
        -- never == to what is no object
        refine ⟨_, rfl, pl, _, 0, _, rfl, rfl, SqL.of (sJ _ _ hl), atI_nat (j := 0) rfl, _, rfl, o1, e1, _, _, rfl, sJ _ _ he1, .tup (sJ _ _ w1.1), nf_of f_st_tuple, o1, u3, v3, _, rfl, ob1.mono sJ, .inr ⟨.tup (sJ _ _ w1.1), false, rfl, false, rfl, iteF ?_⟩⟩
        refine ⟨_, rfl, pl, _, 0, _, rfl, rfl, SqL.of (sJ _ _ hl), atI_nat (j := 0) rfl, _, rfl, pl, _, 0, _, rfl, rfl, SqL.of (sJ _ _ hl), atI_nat (j := 0) rfl, o1, e1, _, rfl, sJ _ _ he1, o1, u3, v3, rfl, ob1.mono sJ, _, rfl, o1, e1, _, _, rfl, sJ _ _ he1, .str _, nf_of f_st_str, o1, u3, v3, _, rfl, ob1.mono sJ, .inr ⟨.str _, false, rfl, false, rfl, iteF ?_⟩⟩
        refine ⟨_, rfl, pl, _, 0, _, rfl, rfl, SqL.of (sJ _ _ hl), atI_nat (j := 0) rfl, o1, e1, _, _, rfl, sJ _ _ he1, .non, nf_of f_st_NoneType, o1, u3, v3, _, rfl, ob1.mono sJ, .inr ⟨.non, false, rfl, false, rfl, iteF ?_⟩⟩
        -- put on
        refine ⟨_, rfl, pl, _, 0, _, rfl, rfl, SqL.of (sJ _ _ hl), atI_nat (j := 0) rfl, o1, e1, _, rfl, sJ _ _ he1, rfl, _, rfl, pl, _, 1, _, rfl, rfl, SqL.of (sJ _ _ hl), atI_nat (j := 1) rfl, o1, o2, u3, v3, u2, v2, rfl, ob1.mono sJ, ob2.mono sJ, .inl ⟨onl, by omega, by omega, fun H5 c cu cv s5 obc Lc => ?_⟩⟩
        have sJ := sJ.trans s5
        clear s5
        obtain ⟨ec, hec⟩ := obc.at v_Word.a
        refine ⟨_, rfl, _, .ref C_Word, .ref C_Word, .ref C_Word, true, rfl, .own C_Word, f_oi_Word.ty v_Word.C hec, ECal.self, true, rfl, iteF ?_⟩
        refine ⟨_, rfl, c, ec, _, rfl, hec, rfl, c, cu, cv, rfl, obc, fun p5 np5 => ?_⟩
        have t5 := same_upd (o := .tup [.str (tx cu), .str (tx cv)]) np5
        have h5 := upd_same (H := H5) (a := p5) (o := .tup [.str (tx cu), .str (tx cv)])
        have obc := obc.mono t5
        have sJ := sJ.trans t5
        have hec := t5 _ _ hec
        generalize (upd H5 p5 (.tup [.str (tx cu), .str (tx cv)])) = H6 at *
        clear t5 np5
        refine ⟨_, rfl, _, rfl, b1, b2, x1, y1, x2, y2, 20000, rfl, w1.mono sJ, w2.mono sJ, fun L0 A0 ol0 g1 g2 => ⟨⟨by omega, by omega⟩, fun H7 p6 pu pv s6 wp Lp => ?_⟩, fun L0 A0 ol0 hc => ?_⟩
        rotate_left
        · have := ol0.le (by omega) (by omega)
          omega
        rw [rr1, rr2] at Lc
        obtain ⟨rfl, rfl⟩ := Lp.uniq Lc
        refine ⟨_, _, dp_word (s6 _ _ h5), dp_word wp.1, shaped_word wp.2.1 wp.2.2.1, shaped_word wp.2.1 wp.2.2.1, ?_⟩
        rw [eqv_word]
        refine ⟨false, rfl, iteF ?_⟩
        have sJ := sJ.trans s6
        have obc := obc.mono s6
        have hec := s6 _ _ hec
        clear h5 s6 wp
        refine ⟨_, rfl, _, rfl, pl, _, 2, _, rfl, rfl, SqL.of (sJ _ _ hl), atI_nat (j := 2) rfl, o3, e3, _, rfl, sJ _ _ he3, rfl, _, rfl, pl, _, 1, _, rfl, rfl, SqL.of (sJ _ _ hl), atI_nat (j := 1) rfl, o3, o2, u3, v3, u2, v2, rfl, ob3.mono sJ, ob2.mono sJ, .inl ⟨onl, by omega, by omega, fun H8 c2 cu2 cv2 s8 obc2 Lc2 => ?_⟩⟩
        rw [rr1, rr2] at Lc2
        obtain ⟨rfl, rfl⟩ := Lp.uniq Lc2
        obtain ⟨ec2, hec2⟩ := obc2.at v_Word.a
        refine ⟨c, ec, _, c2, ec2, _, rfl, rfl, s8 _ _ hec, hec2, c, pu, pv, _, rfl, obc.mono s8, .inl ⟨c2, pu, pv, rfl, obc2, _, rfl, false, ?_, iteF ?_⟩⟩
        · rw [decide_eq_true ⟨rfl, rfl⟩]
          rfl
        have sJ := sJ.trans s8
        clear s8 obc2 hec2 obc hec Lc2 Lp Lc
        -- the other one
        have bR := row_bin bx1 by1 ly1
        refine ⟨_, rfl, pl, _, 0, _, rfl, rfl, SqL.of (sJ _ _ hl), atI_nat (j := 0) rfl, o1, e1, _, rfl, sJ _ _ he1, rfl, o1, u3, v3, rfl, ob1.mono sJ, fun H9 c3 cu cv s9 obc Lc => ?_⟩
        rw [rr1] at Lc
        have sJ := sJ.trans s9
        clear s9
        obtain ⟨ec, hec⟩ := obc.at v_Word.a
        refine ⟨c3, ec, _, rfl, hec, rfl, c3, cu, cv, rfl, obc, fun p5 np5 => ?_⟩
        have t5 := same_upd (o := .tup [.str (tx cu), .str (tx cv)]) np5
        have h5 := upd_same (H := H9) (a := p5) (o := .tup [.str (tx cu), .str (tx cv)])
        have sJ := sJ.trans t5
        generalize (upd H9 p5 (.tup [.str (tx cu), .str (tx cv)])) = H10 at *
        clear t5 np5 hec obc
        refine ⟨_, rfl, b1, x1, y1, rfl, w1.mono sJ, fun H11 p6 pu pv s6 wp _ _ Lp => ?_⟩
        obtain ⟨rfl, rfl⟩ := Lp.uniq Lc
        refine ⟨_, _, dp_word (s6 _ _ h5), dp_word wp.1, shaped_word wp.2.1 wp.2.2.1, shaped_word wp.2.1 wp.2.2.1, ?_⟩
        rw [eqv_word]
        refine ⟨false, rfl, iteF ?_⟩
        have sJ := sJ.trans s6
        clear s6 h5 wp Lc
        refine ⟨_, rfl, pl, _, 0, _, rfl, rfl, SqL.of (sJ _ _ hl), atI_nat (j := 0) rfl, o1, e1, _, rfl, sJ _ _ he1, rfl, o1, u3, v3, rfl, ob1.mono sJ, fun H12 c4 cu cv s9 obc Lc => ?_⟩
        rw [rr1] at Lc
        have sJ := sJ.trans s9
        clear s9
        obtain ⟨ec, hec⟩ := obc.at v_Word.a
        refine ⟨c4, ec, _, rfl, hec, rfl, c4, cu, cv, rfl, obc, fun H13 c5 du dv s10 obd Ld => ?_⟩
        rw [funext Lc.tells.eq, flr_flr bR] at Ld
        obtain ⟨rfl, rfl⟩ := Ld.uniq L1
        have sJ := sJ.trans s10
        clear s10
        obtain ⟨ed, hed⟩ := obd.at v_Word.a
        refine ⟨_, rfl, pl, _, 2, _, rfl, rfl, SqL.of (sJ _ _ hl), atI_nat (j := 2) rfl, c5, ed, _, o3, e3, _, rfl, rfl, hed, sJ _ _ he3, c5, du, dv, _, rfl, obd, .inl ⟨o3, du, dv, rfl, ob3.mono sJ, _, rfl, false, ?_, iteF ?_⟩⟩
        · rw [decide_eq_true ⟨rfl, rfl⟩]
          rfl
        exact ⟨sJ, _, _, rfl⟩
      · obtain ⟨sJ, f7, f8, rfl⟩ := hP
        have w1 := w1.mono sJ
        have sH := s07.trans sJ
        clear ob1 ob2 ob3 he1 he2 he3 hl sJ s07 w2 onl bnd bnu
        -- a part left out
        refine ⟨_, rfl, b1, _, 1, _, rfl, rfl, SqT.of w1.1, atI_nat (j := 1) rfl, fun oa da na nd ne => ?_⟩
        refine ⟨oa, C_Word, da, .str (tx []), .str (tx y1), rfl, v_Word.a, upd_same, .inl ⟨[], y1, rfl, rfl, bin_nil, by1, by decide, ly1, by omega, fun HE ua va kp La lua lva hA => ⟨rfl, ?_⟩⟩⟩
        obtain ⟨t1, oba⟩ := made_ob v_Word.a na nd ne kp hA La lua lva bin_nil by1 (by decide) ly1 (by omega)
        obtain ⟨ea, hea⟩ := oba.at v_Word.a
        have w1 := w1.mono t1
        have sH := sH.trans t1
        clear t1 na nd ne kp hA
        refine ⟨oa, ea, _, rfl, hea, rfl, oa, ua, va, rfl, oba, fun p5 np5 => ?_⟩
        have t5 := same_upd (o := .tup [.str (tx ua), .str (tx va)]) np5
        have h5 := upd_same (H := HE) (a := p5) (o := .tup [.str (tx ua), .str (tx va)])
        have w1 := w1.mono t5
        have sH := sH.trans t5
        generalize (upd HE p5 (.tup [.str (tx ua), .str (tx va)])) = HF at *
        clear t5 np5 hea
        refine ⟨_, rfl, b1, _, 1, _, rfl, rfl, SqT.of w1.1, atI_nat (j := 1) rfl, by show 2 ≤ sizeLine; decide, fun p6 np6 => ?_⟩
        have t6 := same_upd (o := .tup [.str "", .str (tx y1)]) np6
        have w6 : WordAt (upd HF p6 (.tup [.str "", .str (tx y1)])) p6 [] y1 := ⟨upd_same, bin_nil, by1, by decide, ly1, by omega⟩
        refine ⟨.ref p6, rfl, .inl ⟨p6, [], y1, rfl, w6, fun p7 u7 v7 np7 L7 _ _ => ?_⟩⟩
        obtain ⟨rfl, rfl⟩ := L7.uniq La
        have t7 := same_upd (o := .tup [.str (tx u7), .str (tx v7)]) np7
        refine ⟨_, _, dp_word (t7 _ _ (t6 _ _ h5)), dp_word upd_same, shaped_word oba.2.1 oba.2.2.1, shaped_word oba.2.1 oba.2.2.1, ?_⟩
        rw [eqv_word]
        refine ⟨false, rfl, iteF ?_⟩
        have t67 := t6.trans t7
        have w1 := w1.mono t67
        have sH := sH.trans t67
        generalize (upd (upd HF p6 (.tup [.str "", .str (tx y1)])) p7 (.tup [.str (tx u7), .str (tx v7)])) = HG at *
        clear t6 t7 t67 w6 np6 np7 h5 La L7 oba lua lva
        refine ⟨_, rfl, b1, _, 0, _, rfl, rfl, SqT.of w1.1, atI_nat (j := 0) rfl, rfl, rfl, fun oa da na nd ne => ?_⟩
        have t49 : ("1" : Str) = tx [49] := rfl
        refine ⟨oa, C_Word, da, .str (tx x1), .str (tx [49]), rfl, v_Word.a, upd_same, .inl ⟨x1, [49], rfl, rfl, bx1, bin1, by omega, by decide, by decide, fun HH ua va kp La lua lva hA => ⟨rfl, ?_⟩⟩⟩
        obtain ⟨t1, oba⟩ := made_ob v_Word.a na nd ne kp hA La lua lva bx1 bin1 (by omega) (by decide) (by decide)
        obtain ⟨ea, hea⟩ := oba.at v_Word.a
        have w1 := w1.mono t1
        have sH := sH.trans t1
        clear t1 na nd ne kp hA
        refine ⟨oa, ea, _, rfl, hea, rfl, oa, ua, va, rfl, oba, fun p5 np5 => ?_⟩
        have t5 := same_upd (o := .tup [.str (tx ua), .str (tx va)]) np5
        have h5 := upd_same (H := HH) (a := p5) (o := .tup [.str (tx ua), .str (tx va)])
        have w1 := w1.mono t5
        have sH := sH.trans t5
        generalize (upd HH p5 (.tup [.str (tx ua), .str (tx va)])) = HI at *
        clear t5 np5 hea
        refine ⟨_, rfl, b1, _, 0, _, rfl, rfl, SqT.of w1.1, atI_nat (j := 0) rfl, by show 2 ≤ sizeLine; decide, fun p6 np6 => ?_⟩
        have t6 := same_upd (o := .tup [.str (tx x1), .str "1"]) np6
        have w6 : WordAt (upd HI p6 (.tup [.str (tx x1), .str "1"])) p6 x1 [49] := ⟨upd_same, bx1, bin1, by omega, by decide, by decide⟩
        refine ⟨.ref p6, rfl, .inl ⟨p6, x1, [49], rfl, w6, fun p7 u7 v7 np7 L7 _ _ => ?_⟩⟩
        obtain ⟨rfl, rfl⟩ := L7.uniq La
        have t7 := same_upd (o := .tup [.str (tx u7), .str (tx v7)]) np7
        refine ⟨_, _, dp_word (t7 _ _ (t6 _ _ h5)), dp_word upd_same, shaped_word oba.2.1 oba.2.2.1, shaped_word oba.2.1 oba.2.2.1, ?_⟩
        rw [eqv_word]
        refine ⟨false, rfl, iteF ?_⟩
        have t67 := t6.trans t7
        have w1 := w1.mono t67
        have sH := sH.trans t67
        generalize (upd (upd HI p6 (.tup [.str (tx x1), .str "1"])) p7 (.tup [.str (tx u7), .str (tx v7)])) = HL at *
        clear t6 t7 t67 w6 np6 np7 h5 La L7 oba lua lva
        -- what is none
        refine ⟨by show 1 ≤ sizeLine; decide, fun pa npa => ?_⟩
        refine ⟨by show 1 ≤ sizeLine; decide, fun pb npb => ?_⟩
        refine ⟨by show 7 ≤ sizeLine; decide, fun pc npc => ?_⟩
        have ta := same_upd (o := .lst [V.str "1"]) npa
        have tb := same_upd (o := .tup [V.str "1"]) npb
        have tc := same_upd (o := .lst [V.non, V.int 7, V.bl true, V.str "2", V.str "1 ", V.ref pa, V.ref pb]) npc
        have hpa := tc _ _ (tb _ _ (upd_same (H := HL) (a := pa) (o := .lst [V.str "1"])))
        have hpb := tc _ _ (upd_same (H := upd HL pa (.lst [V.str "1"])) (a := pb) (o := .tup [V.str "1"]))
        have hpc := upd_same (H := upd (upd HL pa (.lst [V.str "1"])) pb (.tup [V.str "1"])) (a := pc) (o := .lst [V.non, V.int 7, V.bl true, V.str "2", V.str "1 ", V.ref pa, V.ref pb])
        have tt := ta.trans (tb.trans tc)
        have w1 := w1.mono tt
        have sH := sH.trans tt
        generalize (upd (upd (upd HL pa (.lst [V.str "1"])) pb (.tup [V.str "1"])) pc (.lst [V.non, V.int 7, V.bl true, V.str "2", V.str "1 ", V.ref pa, V.ref pb])) = HM at *
        clear ta tb tc tt npa npb npc
        refine ⟨_, rfl, _, rfl, _, _, rfl, rfl, a, ns, 20 + i, 1, ?_, sH.seq hS, by omega, by omega, by decide, fun pd ds npd hld hd' => ?_⟩
        · show [V.ref a, V.int ((20 : Int) + ((0 : Int) + (i : Int))), V.int 1] = _
          rw [Int.zero_add]
          rfl
        have td := same_upd (o := .lst (ds.map nV)) npd
        have m7 := Nat.mod_lt (ds.getD 0 0) (show 0 < 7 by decide)
        obtain ⟨odd, hodd, ho⟩ : ∃ v, ([V.non, V.int 7, V.bl true, V.str "2", V.str "1 ", V.ref pa, V.ref pb])[ds.getD 0 0 % 7]? = some v ∧ Odd HM v := by
          rcases (show ds.getD 0 0 % 7 = 0 ∨ ds.getD 0 0 % 7 = 1 ∨ ds.getD 0 0 % 7 = 2 ∨ ds.getD 0 0 % 7 = 3 ∨ ds.getD 0 0 % 7 = 4 ∨ ds.getD 0 0 % 7 = 5 ∨ ds.getD 0 0 % 7 = 6 by omega) with e | e | e | e | e | e | e
          · rw [e]; exact ⟨_, rfl, .inl rfl⟩
          · rw [e]; exact ⟨_, rfl, .inr (.inl ⟨_, rfl⟩)⟩
          · rw [e]; exact ⟨_, rfl, .inr (.inr (.inl ⟨_, rfl⟩))⟩
          · rw [e]; exact ⟨_, rfl, .inr (.inr (.inr (.inl ⟨[50], rfl, by decide, fun h => (by rcases h 50 (by simp) with e | e <;> cases e)⟩)))⟩
          · rw [e]; exact ⟨_, rfl, .inr (.inr (.inr (.inl ⟨[49, 32], rfl, by decide, fun h => (by rcases h 32 (by simp) with e | e <;> cases e)⟩)))⟩
          · rw [e]; exact ⟨_, rfl, .inr (.inr (.inr (.inr ⟨pa, _, rfl, .inl hpa⟩)))⟩
          · rw [e]; exact ⟨_, rfl, .inr (.inr (.inr (.inr ⟨pb, _, rfl, .inr hpb⟩)))⟩
        refine ⟨pd, _, 0, _, rfl, rfl, SqL.of upd_same, atI_nat (j := 0) (nV_at (by omega)), _, _, rfl, rfl, (by show (0 : Int) < _; decide), pc, _, ((ds.getD 0 0 % 7 : Nat) : Int), _, rfl, rfl, SqL.of (td _ _ hpc), atI_nat hodd, ?_⟩
        have w1 := w1.mono td
        have sH := sH.trans td
        have ho := ho.mono td
        generalize (upd HM pd (.lst (ds.map nV))) = HN at *
        clear td hpa hpb hpc npd
        refine ⟨_, rfl, b1, _, 0, _, rfl, rfl, SqT.of w1.1, atI_nat (j := 0) rfl, _, rfl, .str (tx x1), odd, rfl, NoPair.back (by omega) ho, fun HO sO => ⟨true, rfl, iteF ?_⟩⟩
        have w1 := w1.mono sO
        have sH := sH.trans sO
        have ho := ho.mono sO
        clear sO
        refine ⟨_, rfl, _, rfl, b1, _, 1, _, rfl, rfl, SqT.of w1.1, atI_nat (j := 1) rfl, odd, .str (tx y1), rfl, NoPair.front (by omega) ho, fun HP sP => ⟨true, rfl, iteF ?_⟩⟩
        have w1 := w1.mono sP
        have sH := sH.trans sP
        clear sP
        refine ⟨_, rfl, b1, _, 0, _, rfl, rfl, SqT.of w1.1, atI_nat (j := 0) rfl, .str (tx x1), .str (tx []), rfl, NoPair.none (by omega), fun HR sR => ⟨true, rfl, iteF ?_⟩⟩
        exact ⟨sH.trans sR, _, _, _, _, _, _, _, _, _, _, _, rfl⟩
    · obtain ⟨s0, z1, z2, z3, z4, z5, z6, z7, z8, z9, z10, z11, rfl⟩ := hP
      have lA := len_lead 149
      have lB := len_tail 138
      have bA : Bin ([49] ++ rep [48] 149) := bin_app bin1 (bin_rep bin0 _)
      have bB : Bin (rep [49] 138 ++ [48]) := bin_app (bin_rep bin1 _) bin0
      have vA : V.str ("1" ++ tx (rep [48] 149)) = V.str (tx ([49] ++ rep [48] 149)) := by
        rw [← tx_add]
        rfl
      have vB : V.str (tx (rep [49] 138) ++ "0") = V.str (tx (rep [49] 138 ++ [48])) := by
        rw [← tx_add]
        rfl
      refine ⟨[48], 149, rfl, rfl, by decide, by decide, _, _, rfl, rfl, ?_, fun oa da na nd ne => ?_⟩
      · show 1 + (tx (rep [48] 149)).length ≤ sizeLine
        rw [tx_len, rep_len]
        decide
      refine ⟨oa, C_Word, da, .str (tx []), .str ("1" ++ tx (rep [48] 149)), rfl, v_Word.a, upd_same, .inl ⟨[], [49] ++ rep [48] 149, rfl, vA, bin_nil, bA, by decide, by omega, by omega, fun HA ua va kp La lua lva hA => ⟨rfl, ?_⟩⟩⟩
      obtain ⟨t1, oba⟩ := made_ob v_Word.a na nd ne kp hA La lua lva bin_nil bA (by decide) (by omega) (by omega)
      obtain ⟨rfl, rfl⟩ := La.uniq (lst_lead 149)
      obtain ⟨ea, hea⟩ := oba.at v_Word.a
      clear na nd ne kp hA t1 La lua lva
      refine ⟨oa, ea, _, rfl, hea, rfl, [49], 138, rfl, rfl, by decide, by decide, _, _, rfl, rfl, ?_, fun ob db na nd ne => ?_⟩
      · show (tx (rep [49] 138)).length + 1 ≤ sizeLine
        rw [tx_len, rep_len]
        decide
      refine ⟨ob, C_Word, db, .str (tx []), .str (tx (rep [49] 138) ++ "0"), rfl, v_Word.a, upd_same, .inl ⟨[], rep [49] 138 ++ [48], rfl, vB, bin_nil, bB, by decide, by omega, by omega, fun HB ub vb kp Lb lub lvb hB => ⟨rfl, ?_⟩⟩⟩
      obtain ⟨t1, obb⟩ := made_ob v_Word.a na nd ne kp hB Lb lub lvb bin_nil bB (by decide) (by omega) (by omega)
      obtain ⟨rfl, rfl⟩ := Lb.uniq (lst_tail 138)
      have oba := oba.mono t1
      clear na nd ne kp hB t1 Lb lub lvb hea
      refine ⟨oa, ob, [], [49] ++ rep [48] 149, [], rep [49] 138 ++ [48], rfl, oba, obb, .inr ⟨fun L A ol => .inr ?_, fun C HC sC hC => ?_⟩⟩
      · rw [great_long ol]
        decide
      have eC := (ns_inj hC e_TooLong.a).symm
      subst eC
      refine ⟨e_LoomError.exm u_TooLong_LoomError, fun ee nee => ?_⟩
      have hee := at_upd (H := HC) (o := WX.ExT ee (.ref C_TooLong) none) nee
      refine ⟨_, rfl, ee, C_TooLong, none, rfl, hee, .inl rfl, .inr ⟨hC, fun HD pn s8 _ hpn => ?_⟩⟩
      refine ⟨by show 1 ≤ sizeLine; decide, fun l3 n3 => ?_⟩
      have t3 := same_upd (o := .lst [V.str "TooLong"]) n3
      refine ⟨.list [.str "TooLong"], .list [.str "TooLong"], .lst (SqL.of (t3 _ _ hpn)) (.cons (.str _) .nil), .lst (SqL.of (at_upd n3)) (.cons (.str _) .nil), by decide +kernel, by decide +kernel, false, rfl, iteF ?_⟩
      refine ⟨_, rfl, ee, C_TooLong, none, _, .type "ValueError", true, rfl, t3 _ _ (s8 _ _ hee), .inl rfl, e_TooLong.E, .ty _, e_TooLong.ve, true, rfl, iteF ?_⟩
      clear hee hpn nee n3 s8 t3 oba obb sC
      generalize (upd HD l3 (.lst [V.str "TooLong"])) = HE at *
      intro oa da na nd ne
      refine ⟨oa, C_Word, da, .str (tx []), .str (tx [49]), rfl, v_Word.a, upd_same, .inl ⟨[], [49], rfl, rfl, bin_nil, bin1, by decide, by decide, by decide, fun HF ua va kp La lua lva hA => ⟨rfl, ?_⟩⟩⟩
      obtain ⟨t1, oba⟩ := made_ob v_Word.a na nd ne kp hA La lua lva bin_nil bin1 (by decide) (by decide) (by decide)
      obtain ⟨rfl, rfl⟩ := La.uniq lst_one
      obtain ⟨ea, hea⟩ := oba.at v_Word.a
      clear na nd ne kp hA t1 La lua lva
      refine ⟨oa, ea, _, rfl, hea, rfl, oa, [], [49], rfl, oba, fun p5 np5 => ?_⟩
      refine ⟨by show 2 ≤ sizeLine; decide, fun p6 np6 => ?_⟩
      have t6 := same_upd (o := .tup [.str (tx []), .str (tx [49])]) np6
      refine ⟨.tuple [.str (tx []), .str (tx [49])], .tuple [.str (tx []), .str (tx [49])], dp_word (t6 _ _ upd_same), dp_word upd_same, shaped_word bin_nil bin1, shaped_word bin_nil bin1, ?_⟩
      rw [eqv_word]
      refine ⟨true, rfl, iteT ?_⟩
      intro oa da na nd ne
      refine ⟨oa, C_Word, da, .str (tx []), .str (tx [49]), rfl, v_Word.a, upd_same, .inl ⟨[], [49], rfl, rfl, bin_nil, bin1, by decide, by decide, by decide, fun HG ua va kp La lua lva hA => ⟨rfl, ?_⟩⟩⟩
      obtain ⟨t1, oba⟩ := made_ob v_Word.a na nd ne kp hA La lua lva bin_nil bin1 (by decide) (by decide) (by decide)
      obtain ⟨rfl, rfl⟩ := La.uniq lst_one
      clear na nd ne kp hA t1 La lua lva
      refine ⟨rfl, rfl, fun ob db na nd ne => ?_⟩
      have b2 : Bin [49, 49] := bin_app bin1 bin1
      refine ⟨ob, C_Word, db, .str (tx [49]), .str (tx [49, 49]), rfl, v_Word.a, upd_same, .inl ⟨[49], [49, 49], rfl, rfl, bin1, b2, by decide, by decide, by decide, fun HI ub vb kp Lb lub lvb hB => ⟨rfl, ?_⟩⟩⟩
      obtain ⟨t1, obb⟩ := made_ob v_Word.a na nd ne kp hB Lb lub lvb bin1 b2 (by decide) (by decide) (by decide)
      rw [row_ones] at Lb
      obtain ⟨rfl, rfl⟩ := Lb.uniq lst_one
      have oba := oba.mono t1
      obtain ⟨ea, hea⟩ := oba.at v_Word.a
      obtain ⟨eb, heb⟩ := obb.at v_Word.a
      refine ⟨oa, ea, _, _, rfl, hea, .own heb, nf_self, oa, [], [49], _, rfl, oba, .inl ⟨ob, [], [49], rfl, obb, _, rfl, ?_⟩⟩
      rw [decide_eq_true ⟨rfl, rfl⟩]
      exact q _
end
end WK
namespace WK
open PySem PySem.Spec PyProof.Rows L2
theorem all_mk {l : PySem.W.OpenLaw} {w : World} {K : PySem.W.Frag} {h : Heap} {mg : Str → Option Value} {fa : Addr} (X : K.In h) (G : h.Ns mainGlobals mg) (hfa : mg "law" = some (.ref fa))
    {C_Word : Addr} (aC_Word : PySem.W.nsIn K mainGlobals "Word" = some (some (.ref C_Word))) (mk_Word : PySem.W.makesIn K C_Word = true) (kC_Word : PySem.W.keepIn K (.ref C_Word) = true) (pg_Word : PySem.W.plainGet K C_Word Str.empty = true) (hdw_Word : PySem.W.hasDictIn K C_Word = true) (po_Word : PySem.W.plainOver K C_Word = true) (sa_Word : PySem.W.findIn K (.ref C_Word) "__setattr__" = some (some (.builtin "object.__setattr__"))) (n_Word__head : PySem.W.findIn K (.ref C_Word) "_head" = some none) (n_Word__again : PySem.W.findIn K (.ref C_Word) "_again" = some none)
    {C_Dry : Addr} (aC_Dry : PySem.W.nsIn K mainGlobals "Dry" = some (some (.ref C_Dry))) (hd_Dry : PySem.W.hasDictIn K C_Dry = true) (ty_Dry : PySem.W.typeIn K (.ref C_Dry) = some (.type "type"))
    {C_LoomError : Addr} (aC_LoomError : PySem.W.nsIn K mainGlobals "LoomError" = some (some (.ref C_LoomError))) (hg_LoomError : PySem.W.findIn K (.ref C_LoomError) "__getattribute__" = some (some (.builtin "BaseException.__getattribute__"))) (hk_LoomError : PySem.W.findIn K (.ref C_LoomError) "__getattr__" = some none) (hd_LoomError : PySem.W.hasDictIn K C_LoomError = true) (ha_LoomError : PySem.W.findIn K (.ref C_LoomError) "__class__" = some (some (.builtin "object.__class__"))) (hm_LoomError : PySem.W.mroIn K C_LoomError (.type "object") = some true) (ve_LoomError : PySem.W.subIn K (.ref C_LoomError) (.type "ValueError") = some true) (hs_LoomError : PySem.W.subIn K (.ref C_LoomError) (.type "BaseException") = some true) (ty_LoomError : PySem.W.typeIn K (.ref C_LoomError) = some (.type "type"))
    {C_NoBack : Addr} (aC_NoBack : PySem.W.nsIn K mainGlobals "NoBack" = some (some (.ref C_NoBack))) (hd_NoBack : PySem.W.hasDictIn K C_NoBack = true) (ty_NoBack : PySem.W.typeIn K (.ref C_NoBack) = some (.type "type"))
    {C_NoBeat : Addr} (aC_NoBeat : PySem.W.nsIn K mainGlobals "NoBeat" = some (some (.ref C_NoBeat))) (hd_NoBeat : PySem.W.hasDictIn K C_NoBeat = true) (ty_NoBeat : PySem.W.typeIn K (.ref C_NoBeat) = some (.type "type"))
    {C_NoBook : Addr} (aC_NoBook : PySem.W.nsIn K mainGlobals "NoBook" = some (some (.ref C_NoBook))) (hd_NoBook : PySem.W.hasDictIn K C_NoBook = true) (ty_NoBook : PySem.W.typeIn K (.ref C_NoBook) = some (.type "type"))
    {C_NoDeed : Addr} (aC_NoDeed : PySem.W.nsIn K mainGlobals "NoDeed" = some (some (.ref C_NoDeed))) (hd_NoDeed : PySem.W.hasDictIn K C_NoDeed = true) (ty_NoDeed : PySem.W.typeIn K (.ref C_NoDeed) = some (.type "type"))
    {C_NoDrive : Addr} (aC_NoDrive : PySem.W.nsIn K mainGlobals "NoDrive" = some (some (.ref C_NoDrive))) (hd_NoDrive : PySem.W.hasDictIn K C_NoDrive = true) (ty_NoDrive : PySem.W.typeIn K (.ref C_NoDrive) = some (.type "type"))
    {C_NoFace : Addr} (aC_NoFace : PySem.W.nsIn K mainGlobals "NoFace" = some (some (.ref C_NoFace))) (hd_NoFace : PySem.W.hasDictIn K C_NoFace = true) (ty_NoFace : PySem.W.typeIn K (.ref C_NoFace) = some (.type "type"))
    {C_NoFlow : Addr} (aC_NoFlow : PySem.W.nsIn K mainGlobals "NoFlow" = some (some (.ref C_NoFlow))) (hd_NoFlow : PySem.W.hasDictIn K C_NoFlow = true) (ty_NoFlow : PySem.W.typeIn K (.ref C_NoFlow) = some (.type "type"))
    {C_NoLane : Addr} (aC_NoLane : PySem.W.nsIn K mainGlobals "NoLane" = some (some (.ref C_NoLane))) (hd_NoLane : PySem.W.hasDictIn K C_NoLane = true) (ty_NoLane : PySem.W.typeIn K (.ref C_NoLane) = some (.type "type"))
    {C_NoLine : Addr} (aC_NoLine : PySem.W.nsIn K mainGlobals "NoLine" = some (some (.ref C_NoLine))) (hd_NoLine : PySem.W.hasDictIn K C_NoLine = true) (ty_NoLine : PySem.W.typeIn K (.ref C_NoLine) = some (.type "type"))
    {C_NoLoop : Addr} (aC_NoLoop : PySem.W.nsIn K mainGlobals "NoLoop" = some (some (.ref C_NoLoop))) (hd_NoLoop : PySem.W.hasDictIn K C_NoLoop = true) (ty_NoLoop : PySem.W.typeIn K (.ref C_NoLoop) = some (.type "type"))
    {C_NoMeasure : Addr} (aC_NoMeasure : PySem.W.nsIn K mainGlobals "NoMeasure" = some (some (.ref C_NoMeasure))) (hd_NoMeasure : PySem.W.hasDictIn K C_NoMeasure = true) (ty_NoMeasure : PySem.W.typeIn K (.ref C_NoMeasure) = some (.type "type"))
    {C_NoModule : Addr} (aC_NoModule : PySem.W.nsIn K mainGlobals "NoModule" = some (some (.ref C_NoModule))) (hd_NoModule : PySem.W.hasDictIn K C_NoModule = true) (ty_NoModule : PySem.W.typeIn K (.ref C_NoModule) = some (.type "type"))
    {C_NoName : Addr} (aC_NoName : PySem.W.nsIn K mainGlobals "NoName" = some (some (.ref C_NoName))) (hd_NoName : PySem.W.hasDictIn K C_NoName = true) (ty_NoName : PySem.W.typeIn K (.ref C_NoName) = some (.type "type"))
    {C_NoNet : Addr} (aC_NoNet : PySem.W.nsIn K mainGlobals "NoNet" = some (some (.ref C_NoNet))) (hd_NoNet : PySem.W.hasDictIn K C_NoNet = true) (ty_NoNet : PySem.W.typeIn K (.ref C_NoNet) = some (.type "type"))
    {C_NoPart : Addr} (aC_NoPart : PySem.W.nsIn K mainGlobals "NoPart" = some (some (.ref C_NoPart))) (hd_NoPart : PySem.W.hasDictIn K C_NoPart = true) (ty_NoPart : PySem.W.typeIn K (.ref C_NoPart) = some (.type "type"))
    {C_NoPlace : Addr} (aC_NoPlace : PySem.W.nsIn K mainGlobals "NoPlace" = some (some (.ref C_NoPlace))) (hd_NoPlace : PySem.W.hasDictIn K C_NoPlace = true) (ty_NoPlace : PySem.W.typeIn K (.ref C_NoPlace) = some (.type "type"))
    {C_NoRoom : Addr} (aC_NoRoom : PySem.W.nsIn K mainGlobals "NoRoom" = some (some (.ref C_NoRoom))) (hd_NoRoom : PySem.W.hasDictIn K C_NoRoom = true) (ty_NoRoom : PySem.W.typeIn K (.ref C_NoRoom) = some (.type "type"))
    {C_NoState : Addr} (aC_NoState : PySem.W.nsIn K mainGlobals "NoState" = some (some (.ref C_NoState))) (hd_NoState : PySem.W.hasDictIn K C_NoState = true) (ty_NoState : PySem.W.typeIn K (.ref C_NoState) = some (.type "type"))
    {C_NoText : Addr} (aC_NoText : PySem.W.nsIn K mainGlobals "NoText" = some (some (.ref C_NoText))) (hd_NoText : PySem.W.hasDictIn K C_NoText = true) (ty_NoText : PySem.W.typeIn K (.ref C_NoText) = some (.type "type"))
    {C_NoTitle : Addr} (aC_NoTitle : PySem.W.nsIn K mainGlobals "NoTitle" = some (some (.ref C_NoTitle))) (hd_NoTitle : PySem.W.hasDictIn K C_NoTitle = true) (ty_NoTitle : PySem.W.typeIn K (.ref C_NoTitle) = some (.type "type"))
    {C_NoWait : Addr} (aC_NoWait : PySem.W.nsIn K mainGlobals "NoWait" = some (some (.ref C_NoWait))) (hd_NoWait : PySem.W.hasDictIn K C_NoWait = true) (ty_NoWait : PySem.W.typeIn K (.ref C_NoWait) = some (.type "type"))
    {C_NoWay : Addr} (aC_NoWay : PySem.W.nsIn K mainGlobals "NoWay" = some (some (.ref C_NoWay))) (hd_NoWay : PySem.W.hasDictIn K C_NoWay = true) (ty_NoWay : PySem.W.typeIn K (.ref C_NoWay) = some (.type "type"))
    {C_NoWord : Addr} (aC_NoWord : PySem.W.nsIn K mainGlobals "NoWord" = some (some (.ref C_NoWord))) (hg_NoWord : PySem.W.findIn K (.ref C_NoWord) "__getattribute__" = some (some (.builtin "BaseException.__getattribute__"))) (hk_NoWord : PySem.W.findIn K (.ref C_NoWord) "__getattr__" = some none) (hd_NoWord : PySem.W.hasDictIn K C_NoWord = true) (ha_NoWord : PySem.W.findIn K (.ref C_NoWord) "__class__" = some (some (.builtin "object.__class__"))) (hm_NoWord : PySem.W.mroIn K C_NoWord (.type "object") = some true) (ve_NoWord : PySem.W.subIn K (.ref C_NoWord) (.type "ValueError") = some true) (hs_NoWord : PySem.W.subIn K (.ref C_NoWord) (.type "BaseException") = some true) (ty_NoWord : PySem.W.typeIn K (.ref C_NoWord) = some (.type "type")) (kC_NoWord : PySem.W.keepIn K (.ref C_NoWord) = true) (ex_NoWord : PySem.W.excIn K C_NoWord [.type "ValueError", .type "Exception", .type "BaseException", .type "object"] "ValueError.__new__" = true)
    {C_Over : Addr} (aC_Over : PySem.W.nsIn K mainGlobals "Over" = some (some (.ref C_Over))) (hd_Over : PySem.W.hasDictIn K C_Over = true) (ty_Over : PySem.W.typeIn K (.ref C_Over) = some (.type "type"))
    {C_TooDeep : Addr} (aC_TooDeep : PySem.W.nsIn K mainGlobals "TooDeep" = some (some (.ref C_TooDeep))) (hd_TooDeep : PySem.W.hasDictIn K C_TooDeep = true) (ty_TooDeep : PySem.W.typeIn K (.ref C_TooDeep) = some (.type "type"))
    {C_TooLong : Addr} (aC_TooLong : PySem.W.nsIn K mainGlobals "TooLong" = some (some (.ref C_TooLong))) (hg_TooLong : PySem.W.findIn K (.ref C_TooLong) "__getattribute__" = some (some (.builtin "BaseException.__getattribute__"))) (hk_TooLong : PySem.W.findIn K (.ref C_TooLong) "__getattr__" = some none) (hd_TooLong : PySem.W.hasDictIn K C_TooLong = true) (ha_TooLong : PySem.W.findIn K (.ref C_TooLong) "__class__" = some (some (.builtin "object.__class__"))) (hm_TooLong : PySem.W.mroIn K C_TooLong (.type "object") = some true) (ve_TooLong : PySem.W.subIn K (.ref C_TooLong) (.type "ValueError") = some true) (hs_TooLong : PySem.W.subIn K (.ref C_TooLong) (.type "BaseException") = some true) (ty_TooLong : PySem.W.typeIn K (.ref C_TooLong) = some (.type "type")) (kC_TooLong : PySem.W.keepIn K (.ref C_TooLong) = true) (ex_TooLong : PySem.W.excIn K C_TooLong [.type "ValueError", .type "Exception", .type "BaseException", .type "object"] "ValueError.__new__" = true)
    {C_Twice : Addr} (aC_Twice : PySem.W.nsIn K mainGlobals "Twice" = some (some (.ref C_Twice))) (hd_Twice : PySem.W.hasDictIn K C_Twice = true) (ty_Twice : PySem.W.typeIn K (.ref C_Twice) = some (.type "type"))
    (oc_n : PySem.W.specialIn K (.builtin "object.__class__") "__get__" = some (some (.builtin "getset_descriptor.__get__"))) (oc_t : PySem.W.takesIn K (.builtin "object.__class__") = some true)
    (ty_Word : PySem.W.typeIn K (.ref C_Word) = some (.type "type"))
    {f0 : Addr} {od0 an0 : Option Addr} {sl0 : Array (Option Value)} {oc0 kV0 dc0 pm0 cd0 ct0 : Value}
    (a0 : PySem.W.nsIn K mainGlobals "is_whole" = some (some (.ref f0))) (l0 : K.lookup f0 = some ⟨oc0, od0, .func (PySem.W.fnOf "is_whole" "is_whole" (defArgs s_is_whole) (defBody s_is_whole) (defScope s_is_whole) .none kV0 dc0 pm0 an0 cd0 ct0), sl0⟩) (e0 : PySem.W.codeIn K cd0 "is_whole" = true) (k0 : PySem.W.keepIn K (.ref f0) = true)
    {f1 : Addr} {od1 an1 : Option Addr} {sl1 : Array (Option Value)} {oc1 kV1 dc1 pm1 cd1 ct1 : Value}
    (a1 : PySem.W.nsIn K mainGlobals "is_signs" = some (some (.ref f1))) (l1 : K.lookup f1 = some ⟨oc1, od1, .func (PySem.W.fnOf "is_signs" "is_signs" (defArgs s_is_signs) (defBody s_is_signs) (defScope s_is_signs) .none kV1 dc1 pm1 an1 cd1 ct1), sl1⟩) (e1 : PySem.W.codeIn K cd1 "is_signs" = true) (k1 : PySem.W.keepIn K (.ref f1) = true)
    {f2 : Addr} {od2 an2 : Option Addr} {sl2 : Array (Option Value)} {oc2 kV2 dc2 pm2 cd2 ct2 : Value}
    (a2 : PySem.W.nsIn K mainGlobals "is_word" = some (some (.ref f2))) (l2 : K.lookup f2 = some ⟨oc2, od2, .func (PySem.W.fnOf "is_word" "is_word" (defArgs s_is_word) (defBody s_is_word) (defScope s_is_word) .none kV2 dc2 pm2 an2 cd2 ct2), sl2⟩) (e2 : PySem.W.codeIn K cd2 "is_word" = true) (k2 : PySem.W.keepIn K (.ref f2) = true)
    {f3 : Addr} {od3 an3 : Option Addr} {sl3 : Array (Option Value)} {oc3 kV3 dc3 pm3 cd3 ct3 : Value}
    (a3 : PySem.W.nsIn K mainGlobals "_check_word" = some (some (.ref f3))) (l3 : K.lookup f3 = some ⟨oc3, od3, .func (PySem.W.fnOf "_check_word" "_check_word" (defArgs s_check_word) (defBody s_check_word) (defScope s_check_word) .none kV3 dc3 pm3 an3 cd3 ct3), sl3⟩) (e3 : PySem.W.codeIn K cd3 "_check_word" = true) (k3 : PySem.W.keepIn K (.ref f3) = true)
    {f4 : Addr} {od4 an4 : Option Addr} {sl4 : Array (Option Value)} {oc4 kV4 dc4 pm4 cd4 ct4 : Value}
    (a4 : PySem.W.nsIn K mainGlobals "_check_place" = some (some (.ref f4))) (l4 : K.lookup f4 = some ⟨oc4, od4, .func (PySem.W.fnOf "_check_place" "_check_place" (defArgs s_check_place) (defBody s_check_place) (defScope s_check_place) .none kV4 dc4 pm4 an4 cd4 ct4), sl4⟩) (e4 : PySem.W.codeIn K cd4 "_check_place" = true) (k4 : PySem.W.keepIn K (.ref f4) = true)
    {f5 : Addr} {od5 an5 : Option Addr} {sl5 : Array (Option Value)} {oc5 kV5 dc5 pm5 cd5 ct5 : Value}
    (a5 : PySem.W.nsIn K mainGlobals "_shortest_again" = some (some (.ref f5))) (l5 : K.lookup f5 = some ⟨oc5, od5, .func (PySem.W.fnOf "_shortest_again" "_shortest_again" (defArgs s_shortest_again) (defBody s_shortest_again) (defScope s_shortest_again) .none kV5 dc5 pm5 an5 cd5 ct5), sl5⟩) (e5 : PySem.W.codeIn K cd5 "_shortest_again" = true) (k5 : PySem.W.keepIn K (.ref f5) = true)
    {f6 : Addr} {od6 an6 : Option Addr} {sl6 : Array (Option Value)} {oc6 kV6 dc6 pm6 cd6 ct6 : Value}
    (a6 : PySem.W.nsIn K mainGlobals "_taken_in" = some (some (.ref f6))) (l6 : K.lookup f6 = some ⟨oc6, od6, .func (PySem.W.fnOf "_taken_in" "_taken_in" (defArgs s_taken_in) (defBody s_taken_in) (defScope s_taken_in) .none kV6 dc6 pm6 an6 cd6 ct6), sl6⟩) (e6 : PySem.W.codeIn K cd6 "_taken_in" = true) (k6 : PySem.W.keepIn K (.ref f6) = true)
    {f7 : Addr} {od7 an7 : Option Addr} {sl7 : Array (Option Value)} {oc7 kV7 dc7 pm7 cd7 ct7 : Value}
    (a7 : PySem.W.nsIn K mainGlobals "_least" = some (some (.ref f7))) (l7 : K.lookup f7 = some ⟨oc7, od7, .func (PySem.W.fnOf "_least" "_least" (defArgs s_least) (defBody s_least) (defScope s_least) .none kV7 dc7 pm7 an7 cd7 ct7), sl7⟩) (e7 : PySem.W.codeIn K cd7 "_least" = true) (k7 : PySem.W.keepIn K (.ref f7) = true)
    {f8 : Addr} {od8 an8 : Option Addr} {sl8 : Array (Option Value)} {oc8 kV8 dc8 pm8 cd8 ct8 : Value}
    (a8 : PySem.W.nsIn K mainGlobals "least_word" = some (some (.ref f8))) (l8 : K.lookup f8 = some ⟨oc8, od8, .func (PySem.W.fnOf "least_word" "least_word" (defArgs s_least_word) (defBody s_least_word) (defScope s_least_word) .none kV8 dc8 pm8 an8 cd8 ct8), sl8⟩) (e8 : PySem.W.codeIn K cd8 "least_word" = true) (k8 : PySem.W.keepIn K (.ref f8) = true)
    {f9 : Addr} {od9 an9 : Option Addr} {sl9 : Array (Option Value)} {oc9 kV9 dc9 pm9 cd9 ct9 : Value}
    (a9 : PySem.W.nsIn K mainGlobals "letter" = some (some (.ref f9))) (l9 : K.lookup f9 = some ⟨oc9, od9, .func (PySem.W.fnOf "letter" "letter" (defArgs s_letter) (defBody s_letter) (defScope s_letter) .none kV9 dc9 pm9 an9 cd9 ct9), sl9⟩) (e9 : PySem.W.codeIn K cd9 "letter" = true) (k9 : PySem.W.keepIn K (.ref f9) = true)
    {f10 : Addr} {od10 an10 : Option Addr} {sl10 : Array (Option Value)} {oc10 kV10 dc10 pm10 cd10 ct10 : Value}
    (a10 : PySem.W.nsIn K mainGlobals "_place_in" = some (some (.ref f10))) (l10 : K.lookup f10 = some ⟨oc10, od10, .func (PySem.W.fnOf "_place_in" "_place_in" (defArgs s_place_in) (defBody s_place_in) (defScope s_place_in) .none kV10 dc10 pm10 an10 cd10 ct10), sl10⟩) (e10 : PySem.W.codeIn K cd10 "_place_in" = true) (k10 : PySem.W.keepIn K (.ref f10) = true)
    {f11 : Addr} {od11 an11 : Option Addr} {sl11 : Array (Option Value)} {oc11 kV11 dc11 pm11 cd11 ct11 : Value}
    (a11 : PySem.W.nsIn K mainGlobals "place_of" = some (some (.ref f11))) (l11 : K.lookup f11 = some ⟨oc11, od11, .func (PySem.W.fnOf "place_of" "place_of" (defArgs s_place_of) (defBody s_place_of) (defScope s_place_of) .none kV11 dc11 pm11 an11 cd11 ct11), sl11⟩) (e11 : PySem.W.codeIn K cd11 "place_of" = true) (k11 : PySem.W.keepIn K (.ref f11) = true)
    {f12 : Addr} {od12 an12 : Option Addr} {sl12 : Array (Option Value)} {oc12 kV12 dc12 pm12 cd12 ct12 : Value}
    (a12 : PySem.W.nsIn K mainGlobals "first_signs" = some (some (.ref f12))) (l12 : K.lookup f12 = some ⟨oc12, od12, .func (PySem.W.fnOf "first_signs" "first_signs" (defArgs s_first_signs) (defBody s_first_signs) (defScope s_first_signs) .none kV12 dc12 pm12 an12 cd12 ct12), sl12⟩) (e12 : PySem.W.codeIn K cd12 "first_signs" = true) (k12 : PySem.W.keepIn K (.ref f12) = true)
    {f13 : Addr} {od13 an13 : Option Addr} {sl13 : Array (Option Value)} {oc13 kV13 dc13 pm13 cd13 ct13 : Value}
    (a13 : PySem.W.nsIn K mainGlobals "_on_lengths" = some (some (.ref f13))) (l13 : K.lookup f13 = some ⟨oc13, od13, .func (PySem.W.fnOf "_on_lengths" "_on_lengths" (defArgs s_on_lengths) (defBody s_on_lengths) (defScope s_on_lengths) .none kV13 dc13 pm13 an13 cd13 ct13), sl13⟩) (e13 : PySem.W.codeIn K cd13 "_on_lengths" = true) (k13 : PySem.W.keepIn K (.ref f13) = true)
    {f14 : Addr} {od14 an14 : Option Addr} {sl14 : Array (Option Value)} {oc14 kV14 dc14 pm14 cd14 ct14 : Value}
    (a14 : PySem.W.nsIn K mainGlobals "_laid_on" = some (some (.ref f14))) (l14 : K.lookup f14 = some ⟨oc14, od14, .func (PySem.W.fnOf "_laid_on" "_laid_on" (defArgs s_laid_on) (defBody s_laid_on) (defScope s_laid_on) .none kV14 dc14 pm14 an14 cd14 ct14), sl14⟩) (e14 : PySem.W.codeIn K cd14 "_laid_on" = true) (k14 : PySem.W.keepIn K (.ref f14) = true)
    {f15 D15 : Addr} {od15 an15 : Option Addr} {sl15 : Array (Option Value)} {oc15 dc15 pm15 cd15 ct15 : Value}
    (a15 : PySem.W.nsIn K mainGlobals "on" = some (some (.ref f15))) (l15 : K.lookup f15 = some ⟨oc15, od15, .func (PySem.W.fnOf "on" "on" (defArgs s_on) (defBody s_on) (defScope s_on) .none (.ref D15) dc15 pm15 an15 cd15 ct15), sl15⟩) (e15 : PySem.W.codeIn K cd15 "on" = true) (k15 : PySem.W.keepIn K (.ref f15) = true) {tk15_0 : Tok} (dn15_0 : PySem.W.nsIn K D15 "most" = some (some (.int 20000 tk15_0)))
    {f16 : Addr} {od16 an16 : Option Addr} {sl16 : Array (Option Value)} {oc16 kV16 dc16 pm16 cd16 ct16 : Value}
    (a16 : PySem.W.nsIn K mainGlobals "_turned" = some (some (.ref f16))) (l16 : K.lookup f16 = some ⟨oc16, od16, .func (PySem.W.fnOf "_turned" "_turned" (defArgs s_turned) (defBody s_turned) (defScope s_turned) .none kV16 dc16 pm16 an16 cd16 ct16), sl16⟩) (e16 : PySem.W.codeIn K cd16 "_turned" = true) (k16 : PySem.W.keepIn K (.ref f16) = true)
    {f17 : Addr} {od17 an17 : Option Addr} {sl17 : Array (Option Value)} {oc17 kV17 dc17 pm17 cd17 ct17 : Value}
    (a17 : PySem.W.nsIn K mainGlobals "other_of" = some (some (.ref f17))) (l17 : K.lookup f17 = some ⟨oc17, od17, .func (PySem.W.fnOf "other_of" "other_of" (defArgs s_other_of) (defBody s_other_of) (defScope s_other_of) .none kV17 dc17 pm17 an17 cd17 ct17), sl17⟩) (e17 : PySem.W.codeIn K cd17 "other_of" = true) (k17 : PySem.W.keepIn K (.ref f17) = true)
    {f27 : Addr} {od27 an27 : Option Addr} {sl27 : Array (Option Value)} {oc27 kV27 dc27 pm27 cd27 ct27 : Value}
    (a27 : PySem.W.nsIn K mainGlobals "_law_draws" = some (some (.ref f27))) (l27 : K.lookup f27 = some ⟨oc27, od27, .func (PySem.W.fnOf "_law_draws" "_law_draws" (defArgs s_law_draws) (defBody s_law_draws) (defScope s_law_draws) .none kV27 dc27 pm27 an27 cd27 ct27), sl27⟩) (e27 : PySem.W.codeIn K cd27 "_law_draws" = true) (k27 : PySem.W.keepIn K (.ref f27) = true)
    {f28 : Addr} {od28 an28 : Option Addr} {sl28 : Array (Option Value)} {oc28 kV28 dc28 pm28 cd28 ct28 : Value}
    (a28 : PySem.W.nsIn K mainGlobals "_law_signs" = some (some (.ref f28))) (l28 : K.lookup f28 = some ⟨oc28, od28, .func (PySem.W.fnOf "_law_signs" "_law_signs" (defArgs s_law_signs) (defBody s_law_signs) (defScope s_law_signs) .none kV28 dc28 pm28 an28 cd28 ct28), sl28⟩) (e28 : PySem.W.codeIn K cd28 "_law_signs" = true) (k28 : PySem.W.keepIn K (.ref f28) = true)
    {f29 : Addr} {od29 an29 : Option Addr} {sl29 : Array (Option Value)} {oc29 kV29 dc29 pm29 cd29 ct29 : Value}
    (a29 : PySem.W.nsIn K mainGlobals "_law_word" = some (some (.ref f29))) (l29 : K.lookup f29 = some ⟨oc29, od29, .func (PySem.W.fnOf "_law_word" "_law_word" (defArgs s_law_word) (defBody s_law_word) (defScope s_law_word) .none kV29 dc29 pm29 an29 cd29 ct29), sl29⟩) (e29 : PySem.W.codeIn K cd29 "_law_word" = true) (k29 : PySem.W.keepIn K (.ref f29) = true)
    {f30 : Addr} {od30 an30 : Option Addr} {sl30 : Array (Option Value)} {oc30 kV30 dc30 pm30 cd30 ct30 : Value}
    (a30 : PySem.W.nsIn K mainGlobals "_law_text" = some (some (.ref f30))) (l30 : K.lookup f30 = some ⟨oc30, od30, .func (PySem.W.fnOf "_law_text" "_law_text" (defArgs s_law_text) (defBody s_law_text) (defScope s_law_text) .none kV30 dc30 pm30 an30 cd30 ct30), sl30⟩) (e30 : PySem.W.codeIn K cd30 "_law_text" = true) (k30 : PySem.W.keepIn K (.ref f30) = true)
    {f31 : Addr} {od31 an31 : Option Addr} {sl31 : Array (Option Value)} {oc31 kV31 dc31 pm31 cd31 ct31 : Value}
    (a31 : PySem.W.nsIn K mainGlobals "_law_names_of" = some (some (.ref f31))) (l31 : K.lookup f31 = some ⟨oc31, od31, .func (PySem.W.fnOf "_law_names_of" "_law_names_of" (defArgs s_law_names_of) (defBody s_law_names_of) (defScope s_law_names_of) .none kV31 dc31 pm31 an31 cd31 ct31), sl31⟩) (e31 : PySem.W.codeIn K cd31 "_law_names_of" = true) (k31 : PySem.W.keepIn K (.ref f31) = true)
    {f32 : Addr} {od32 an32 : Option Addr} {sl32 : Array (Option Value)} {oc32 kV32 dc32 pm32 cd32 ct32 : Value}
    (a32 : PySem.W.nsIn K mainGlobals "_law_refused" = some (some (.ref f32))) (l32 : K.lookup f32 = some ⟨oc32, od32, .func (PySem.W.fnOf "_law_refused" "_law_refused" (defArgs s_law_refused) (defBody s_law_refused) (defScope s_law_refused) .none kV32 dc32 pm32 an32 cd32 ct32), sl32⟩) (e32 : PySem.W.codeIn K cd32 "_law_refused" = true) (k32 : PySem.W.keepIn K (.ref f32) = true)
    {f33 : Addr} {od33 an33 : Option Addr} {sl33 : Array (Option Value)} {oc33 kV33 dc33 pm33 cd33 ct33 : Value}
    (a33 : PySem.W.nsIn K mainGlobals "_law_shown" = some (some (.ref f33))) (l33 : K.lookup f33 = some ⟨oc33, od33, .func (PySem.W.fnOf "_law_shown" "_law_shown" (defArgs s_law_shown) (defBody s_law_shown) (defScope s_law_shown) .none kV33 dc33 pm33 an33 cd33 ct33), sl33⟩) (e33 : PySem.W.codeIn K cd33 "_law_shown" = true) (k33 : PySem.W.keepIn K (.ref f33) = true)
    {f34 : Addr} {od34 an34 : Option Addr} {sl34 : Array (Option Value)} {oc34 kV34 dc34 pm34 cd34 ct34 : Value}
    (a34 : PySem.W.nsIn K mainGlobals "law" = some (some (.ref f34))) (l34 : K.lookup f34 = some ⟨oc34, od34, .func (PySem.W.fnOf "law" "law" (defArgs s_law) (defBody s_law) (defScope s_law) .none kV34 dc34 pm34 an34 cd34 ct34), sl34⟩) (e34 : PySem.W.codeIn K cd34 "law" = true) (k34 : PySem.W.keepIn K (.ref f34) = true)
    (al_on_words : PySem.W.nsIn K mainGlobals "on_words" = some (some (.ref f15)))
    {f18 : Addr} {od18 an18 : Option Addr} {sl18 : Array (Option Value)} {oc18 dc18 pm18 cd18 ct18 : Value} {T18 D18 : Addr} {tkp18_0 tk18_0 : Tok} {ocT18 : Value} {odT18 : Option Addr} {nT18 : Nat} {slT18 : Array (Option Value)}
    (a18 : PySem.W.findIn K (.ref C_Word) "__init__" = some (some (.ref f18))) (l18 : K.lookup f18 = some ⟨oc18, od18, .func (PySem.W.fnOf "__init__" "Word.__init__" (defArgs s_Word_init) (defBody s_Word_init) (defScope s_Word_init) (.ref T18) (.ref D18) dc18 pm18 an18 cd18 ct18), sl18⟩) (e18 : PySem.W.codeIn K cd18 "Word.__init__" = true) (k18 : PySem.W.keepIn K (.ref f18) = true) (fn18 : PySem.W.isFn K (.ref f18) = true) (lT18 : K.lookup T18 = some ⟨ocT18, odT18, .seq #[.str "1" tkp18_0] nT18, slT18⟩) (dn18_0 : PySem.W.nsIn K D18 "head" = some (some (.str "" tk18_0)))
    {f19 : Addr} {od19 an19 : Option Addr} {sl19 : Array (Option Value)} {oc19 kV19 dc19 pm19 cd19 ct19 : Value}
    (a19 : PySem.W.findIn K (.ref C_Word) "word" = some (some (.ref f19))) (l19 : K.lookup f19 = some ⟨oc19, od19, .func (PySem.W.fnOf "word" "Word.word" (defArgs s_Word_word) (defBody s_Word_word) (defScope s_Word_word) .none kV19 dc19 pm19 an19 cd19 ct19), sl19⟩) (e19 : PySem.W.codeIn K cd19 "Word.word" = true) (k19 : PySem.W.keepIn K (.ref f19) = true) (fn19 : PySem.W.isFn K (.ref f19) = true)
    {f20 : Addr} {od20 an20 : Option Addr} {sl20 : Array (Option Value)} {oc20 kV20 dc20 pm20 cd20 ct20 : Value}
    (a20 : PySem.W.findIn K (.ref C_Word) "has_one" = some (some (.ref f20))) (l20 : K.lookup f20 = some ⟨oc20, od20, .func (PySem.W.fnOf "has_one" "Word.has_one" (defArgs s_Word_has_one) (defBody s_Word_has_one) (defScope s_Word_has_one) .none kV20 dc20 pm20 an20 cd20 ct20), sl20⟩) (e20 : PySem.W.codeIn K cd20 "Word.has_one" = true) (k20 : PySem.W.keepIn K (.ref f20) = true) (fn20 : PySem.W.isFn K (.ref f20) = true)
    {f21 : Addr} {od21 an21 : Option Addr} {sl21 : Array (Option Value)} {oc21 kV21 dc21 pm21 cd21 ct21 : Value}
    (a21 : PySem.W.findIn K (.ref C_Word) "on" = some (some (.ref f21))) (l21 : K.lookup f21 = some ⟨oc21, od21, .func (PySem.W.fnOf "on" "Word.on" (defArgs s_Word_on) (defBody s_Word_on) (defScope s_Word_on) .none kV21 dc21 pm21 an21 cd21 ct21), sl21⟩) (e21 : PySem.W.codeIn K cd21 "Word.on" = true) (k21 : PySem.W.keepIn K (.ref f21) = true) (fn21 : PySem.W.isFn K (.ref f21) = true)
    {f22 : Addr} {od22 an22 : Option Addr} {sl22 : Array (Option Value)} {oc22 kV22 dc22 pm22 cd22 ct22 : Value}
    (a22 : PySem.W.findIn K (.ref C_Word) "other" = some (some (.ref f22))) (l22 : K.lookup f22 = some ⟨oc22, od22, .func (PySem.W.fnOf "other" "Word.other" (defArgs s_Word_other) (defBody s_Word_other) (defScope s_Word_other) .none kV22 dc22 pm22 an22 cd22 ct22), sl22⟩) (e22 : PySem.W.codeIn K cd22 "Word.other" = true) (k22 : PySem.W.keepIn K (.ref f22) = true) (fn22 : PySem.W.isFn K (.ref f22) = true)
    {f23 : Addr} {od23 an23 : Option Addr} {sl23 : Array (Option Value)} {oc23 kV23 dc23 pm23 cd23 ct23 : Value}
    (a23 : PySem.W.findIn K (.ref C_Word) "__eq__" = some (some (.ref f23))) (l23 : K.lookup f23 = some ⟨oc23, od23, .func (PySem.W.fnOf "__eq__" "Word.__eq__" (defArgs s_Word_eq) (defBody s_Word_eq) (defScope s_Word_eq) .none kV23 dc23 pm23 an23 cd23 ct23), sl23⟩) (e23 : PySem.W.codeIn K cd23 "Word.__eq__" = true) (k23 : PySem.W.keepIn K (.ref f23) = true) (fn23 : PySem.W.isFn K (.ref f23) = true)
    {f24 : Addr} {od24 an24 : Option Addr} {sl24 : Array (Option Value)} {oc24 kV24 dc24 pm24 cd24 ct24 : Value}
    (a24 : PySem.W.findIn K (.ref C_Word) "__len__" = some (some (.ref f24))) (l24 : K.lookup f24 = some ⟨oc24, od24, .func (PySem.W.fnOf "__len__" "Word.__len__" (defArgs s_Word_len) (defBody s_Word_len) (defScope s_Word_len) .none kV24 dc24 pm24 an24 cd24 ct24), sl24⟩) (e24 : PySem.W.codeIn K cd24 "Word.__len__" = true) (k24 : PySem.W.keepIn K (.ref f24) = true) (fn24 : PySem.W.isFn K (.ref f24) = true)
    {f25 : Addr} {od25 an25 : Option Addr} {sl25 : Array (Option Value)} {oc25 kV25 dc25 pm25 cd25 ct25 : Value}
    (a25 : PySem.W.findIn K (.ref C_Word) "__str__" = some (some (.ref f25))) (l25 : K.lookup f25 = some ⟨oc25, od25, .func (PySem.W.fnOf "__str__" "Word.__str__" (defArgs s_Word_str) (defBody s_Word_str) (defScope s_Word_str) .none kV25 dc25 pm25 an25 cd25 ct25), sl25⟩) (e25 : PySem.W.codeIn K cd25 "Word.__str__" = true) (k25 : PySem.W.keepIn K (.ref f25) = true) (fn25 : PySem.W.isFn K (.ref f25) = true)
    {f26 : Addr} {od26 an26 : Option Addr} {sl26 : Array (Option Value)} {oc26 kV26 dc26 pm26 cd26 ct26 : Value}
    (a26 : PySem.W.findIn K (.ref C_Word) "__repr__" = some (some (.ref f26))) (l26 : K.lookup f26 = some ⟨oc26, od26, .func (PySem.W.fnOf "__repr__" "Word.__repr__" (defArgs s_Word_repr) (defBody s_Word_repr) (defScope s_Word_repr) .none kV26 dc26 pm26 an26 cd26 ct26), sl26⟩) (e26 : PySem.W.codeIn K cd26 "Word.__repr__" = true) (k26 : PySem.W.keepIn K (.ref f26) = true) (fn26 : PySem.W.isFn K (.ref f26) = true)
    (u_NoWord_Dry : PySem.W.subIn K (.ref C_NoWord) (.ref C_Dry) = some false)
    (u_NoWord_LoomError : PySem.W.subIn K (.ref C_NoWord) (.ref C_LoomError) = some true)
    (u_NoWord_NoBack : PySem.W.subIn K (.ref C_NoWord) (.ref C_NoBack) = some false)
    (u_NoWord_NoBeat : PySem.W.subIn K (.ref C_NoWord) (.ref C_NoBeat) = some false)
    (u_NoWord_NoBook : PySem.W.subIn K (.ref C_NoWord) (.ref C_NoBook) = some false)
    (u_NoWord_NoDeed : PySem.W.subIn K (.ref C_NoWord) (.ref C_NoDeed) = some false)
    (u_NoWord_NoDrive : PySem.W.subIn K (.ref C_NoWord) (.ref C_NoDrive) = some false)
    (u_NoWord_NoFace : PySem.W.subIn K (.ref C_NoWord) (.ref C_NoFace) = some false)
    (u_NoWord_NoFlow : PySem.W.subIn K (.ref C_NoWord) (.ref C_NoFlow) = some false)
    (u_NoWord_NoLane : PySem.W.subIn K (.ref C_NoWord) (.ref C_NoLane) = some false)
    (u_NoWord_NoLine : PySem.W.subIn K (.ref C_NoWord) (.ref C_NoLine) = some false)
    (u_NoWord_NoLoop : PySem.W.subIn K (.ref C_NoWord) (.ref C_NoLoop) = some false)
    (u_NoWord_NoMeasure : PySem.W.subIn K (.ref C_NoWord) (.ref C_NoMeasure) = some false)
    (u_NoWord_NoModule : PySem.W.subIn K (.ref C_NoWord) (.ref C_NoModule) = some false)
    (u_NoWord_NoName : PySem.W.subIn K (.ref C_NoWord) (.ref C_NoName) = some false)
    (u_NoWord_NoNet : PySem.W.subIn K (.ref C_NoWord) (.ref C_NoNet) = some false)
    (u_NoWord_NoPart : PySem.W.subIn K (.ref C_NoWord) (.ref C_NoPart) = some false)
    (u_NoWord_NoPlace : PySem.W.subIn K (.ref C_NoWord) (.ref C_NoPlace) = some false)
    (u_NoWord_NoRoom : PySem.W.subIn K (.ref C_NoWord) (.ref C_NoRoom) = some false)
    (u_NoWord_NoState : PySem.W.subIn K (.ref C_NoWord) (.ref C_NoState) = some false)
    (u_NoWord_NoText : PySem.W.subIn K (.ref C_NoWord) (.ref C_NoText) = some false)
    (u_NoWord_NoTitle : PySem.W.subIn K (.ref C_NoWord) (.ref C_NoTitle) = some false)
    (u_NoWord_NoWait : PySem.W.subIn K (.ref C_NoWord) (.ref C_NoWait) = some false)
    (u_NoWord_NoWay : PySem.W.subIn K (.ref C_NoWord) (.ref C_NoWay) = some false)
    (u_NoWord_NoWord : PySem.W.subIn K (.ref C_NoWord) (.ref C_NoWord) = some true)
    (u_NoWord_Over : PySem.W.subIn K (.ref C_NoWord) (.ref C_Over) = some false)
    (u_NoWord_TooDeep : PySem.W.subIn K (.ref C_NoWord) (.ref C_TooDeep) = some false)
    (u_NoWord_TooLong : PySem.W.subIn K (.ref C_NoWord) (.ref C_TooLong) = some false)
    (u_NoWord_Twice : PySem.W.subIn K (.ref C_NoWord) (.ref C_Twice) = some false)
    (u_TooLong_Dry : PySem.W.subIn K (.ref C_TooLong) (.ref C_Dry) = some false)
    (u_TooLong_LoomError : PySem.W.subIn K (.ref C_TooLong) (.ref C_LoomError) = some true)
    (u_TooLong_NoBack : PySem.W.subIn K (.ref C_TooLong) (.ref C_NoBack) = some false)
    (u_TooLong_NoBeat : PySem.W.subIn K (.ref C_TooLong) (.ref C_NoBeat) = some false)
    (u_TooLong_NoBook : PySem.W.subIn K (.ref C_TooLong) (.ref C_NoBook) = some false)
    (u_TooLong_NoDeed : PySem.W.subIn K (.ref C_TooLong) (.ref C_NoDeed) = some false)
    (u_TooLong_NoDrive : PySem.W.subIn K (.ref C_TooLong) (.ref C_NoDrive) = some false)
    (u_TooLong_NoFace : PySem.W.subIn K (.ref C_TooLong) (.ref C_NoFace) = some false)
    (u_TooLong_NoFlow : PySem.W.subIn K (.ref C_TooLong) (.ref C_NoFlow) = some false)
    (u_TooLong_NoLane : PySem.W.subIn K (.ref C_TooLong) (.ref C_NoLane) = some false)
    (u_TooLong_NoLine : PySem.W.subIn K (.ref C_TooLong) (.ref C_NoLine) = some false)
    (u_TooLong_NoLoop : PySem.W.subIn K (.ref C_TooLong) (.ref C_NoLoop) = some false)
    (u_TooLong_NoMeasure : PySem.W.subIn K (.ref C_TooLong) (.ref C_NoMeasure) = some false)
    (u_TooLong_NoModule : PySem.W.subIn K (.ref C_TooLong) (.ref C_NoModule) = some false)
    (u_TooLong_NoName : PySem.W.subIn K (.ref C_TooLong) (.ref C_NoName) = some false)
    (u_TooLong_NoNet : PySem.W.subIn K (.ref C_TooLong) (.ref C_NoNet) = some false)
    (u_TooLong_NoPart : PySem.W.subIn K (.ref C_TooLong) (.ref C_NoPart) = some false)
    (u_TooLong_NoPlace : PySem.W.subIn K (.ref C_TooLong) (.ref C_NoPlace) = some false)
    (u_TooLong_NoRoom : PySem.W.subIn K (.ref C_TooLong) (.ref C_NoRoom) = some false)
    (u_TooLong_NoState : PySem.W.subIn K (.ref C_TooLong) (.ref C_NoState) = some false)
    (u_TooLong_NoText : PySem.W.subIn K (.ref C_TooLong) (.ref C_NoText) = some false)
    (u_TooLong_NoTitle : PySem.W.subIn K (.ref C_TooLong) (.ref C_NoTitle) = some false)
    (u_TooLong_NoWait : PySem.W.subIn K (.ref C_TooLong) (.ref C_NoWait) = some false)
    (u_TooLong_NoWay : PySem.W.subIn K (.ref C_TooLong) (.ref C_NoWay) = some false)
    (u_TooLong_NoWord : PySem.W.subIn K (.ref C_TooLong) (.ref C_NoWord) = some false)
    (u_TooLong_Over : PySem.W.subIn K (.ref C_TooLong) (.ref C_Over) = some false)
    (u_TooLong_TooDeep : PySem.W.subIn K (.ref C_TooLong) (.ref C_TooDeep) = some false)
    (u_TooLong_TooLong : PySem.W.subIn K (.ref C_TooLong) (.ref C_TooLong) = some true)
    (u_TooLong_Twice : PySem.W.subIn K (.ref C_TooLong) (.ref C_Twice) = some false)
    (z_m_ValueError : PySem.W.nsIn K mainGlobals "ValueError" = some none)
    (z_m_bool : PySem.W.nsIn K mainGlobals "bool" = some none)
    (z_m_divmod : PySem.W.nsIn K mainGlobals "divmod" = some none)
    (z_m_int : PySem.W.nsIn K mainGlobals "int" = some none)
    (z_m_isinstance : PySem.W.nsIn K mainGlobals "isinstance" = some none)
    (z_m_len : PySem.W.nsIn K mainGlobals "len" = some none)
    (z_m_max : PySem.W.nsIn K mainGlobals "max" = some none)
    (z_m_min : PySem.W.nsIn K mainGlobals "min" = some none)
    (z_m_range : PySem.W.nsIn K mainGlobals "range" = some none)
    (z_m_repr : PySem.W.nsIn K mainGlobals "repr" = some none)
    (z_m_str : PySem.W.nsIn K mainGlobals "str" = some none)
    (z_m_tuple : PySem.W.nsIn K mainGlobals "tuple" = some none)
    (z_m_zip : PySem.W.nsIn K mainGlobals "zip" = some none)
    {t_MOST_SIGNS : Tok} (v_MOST_SIGNS : PySem.W.nsIn K mainGlobals "MOST_SIGNS" = some (some (.int 20000 t_MOST_SIGNS)))
    (v_b_gcd : PySem.W.nsIn K mainGlobals "gcd" = some (some (.builtin "math.gcd")))
    (f_st_tuple : PySem.W.subIn K (.type "tuple") (.ref C_Word) = some false)
    (f_st_str : PySem.W.subIn K (.type "str") (.ref C_Word) = some false)
    (f_st_NoneType : PySem.W.subIn K (.type "NoneType") (.ref C_Word) = some false)
    (f_oi_Word : WX.OIs K C_Word)
    (f_ne_Word : WX.NeCls K C_Word f23) :
    ∃ fd : FuncData, (∀ (s : Shared) (v : Value), BindsTo s fd ⟨[v], []⟩ [("_law_script", v)]) ∧ ∀ base : Heap, K.In base → base.Ns mainGlobals mg → FnOk l.prog w K mg base CX0 8 fa fd ["_law_script"] (sp_law K) := by
  have e := hfa.symm.trans (PySem.W.mg_of X G a34)
  cases e
  refine ⟨PySem.W.fnOf "law" "law" (defArgs s_law) (defBody s_law) (defScope s_law) .none kV34 dc34 pm34 an34 cd34 ct34, fun s v => .of_eq rfl, fun base _ _ => ?_⟩
  have m_ValueError := PySem.W.mg_none_of X G z_m_ValueError
  have m_bool := PySem.W.mg_none_of X G z_m_bool
  have m_divmod := PySem.W.mg_none_of X G z_m_divmod
  have m_int := PySem.W.mg_none_of X G z_m_int
  have m_isinstance := PySem.W.mg_none_of X G z_m_isinstance
  have m_len := PySem.W.mg_none_of X G z_m_len
  have m_max := PySem.W.mg_none_of X G z_m_max
  have m_min := PySem.W.mg_none_of X G z_m_min
  have m_range := PySem.W.mg_none_of X G z_m_range
  have m_repr := PySem.W.mg_none_of X G z_m_repr
  have m_str := PySem.W.mg_none_of X G z_m_str
  have m_tuple := PySem.W.mg_none_of X G z_m_tuple
  have m_zip := PySem.W.mg_none_of X G z_m_zip
  have g_MOST_SIGNS : ∃ t, mg "MOST_SIGNS" = some (.int 20000 t) := ⟨_, PySem.W.mg_of X G v_MOST_SIGNS⟩
  have e_Dry : DCal K mg "Dry" C_Dry := ⟨PySem.W.mg_of X G aC_Dry, hd_Dry, ty_Dry⟩
  have e_LoomError : ECal K mg "LoomError" C_LoomError := ⟨PySem.W.mg_of X G aC_LoomError, aC_LoomError, ⟨hg_LoomError, hk_LoomError, hs_LoomError, hd_LoomError, ha_LoomError, oc_n, oc_t, hm_LoomError⟩, ty_LoomError, ve_LoomError⟩
  have e_NoBack : DCal K mg "NoBack" C_NoBack := ⟨PySem.W.mg_of X G aC_NoBack, hd_NoBack, ty_NoBack⟩
  have e_NoBeat : DCal K mg "NoBeat" C_NoBeat := ⟨PySem.W.mg_of X G aC_NoBeat, hd_NoBeat, ty_NoBeat⟩
  have e_NoBook : DCal K mg "NoBook" C_NoBook := ⟨PySem.W.mg_of X G aC_NoBook, hd_NoBook, ty_NoBook⟩
  have e_NoDeed : DCal K mg "NoDeed" C_NoDeed := ⟨PySem.W.mg_of X G aC_NoDeed, hd_NoDeed, ty_NoDeed⟩
  have e_NoDrive : DCal K mg "NoDrive" C_NoDrive := ⟨PySem.W.mg_of X G aC_NoDrive, hd_NoDrive, ty_NoDrive⟩
  have e_NoFace : DCal K mg "NoFace" C_NoFace := ⟨PySem.W.mg_of X G aC_NoFace, hd_NoFace, ty_NoFace⟩
  have e_NoFlow : DCal K mg "NoFlow" C_NoFlow := ⟨PySem.W.mg_of X G aC_NoFlow, hd_NoFlow, ty_NoFlow⟩
  have e_NoLane : DCal K mg "NoLane" C_NoLane := ⟨PySem.W.mg_of X G aC_NoLane, hd_NoLane, ty_NoLane⟩
  have e_NoLine : DCal K mg "NoLine" C_NoLine := ⟨PySem.W.mg_of X G aC_NoLine, hd_NoLine, ty_NoLine⟩
  have e_NoLoop : DCal K mg "NoLoop" C_NoLoop := ⟨PySem.W.mg_of X G aC_NoLoop, hd_NoLoop, ty_NoLoop⟩
  have e_NoMeasure : DCal K mg "NoMeasure" C_NoMeasure := ⟨PySem.W.mg_of X G aC_NoMeasure, hd_NoMeasure, ty_NoMeasure⟩
  have e_NoModule : DCal K mg "NoModule" C_NoModule := ⟨PySem.W.mg_of X G aC_NoModule, hd_NoModule, ty_NoModule⟩
  have e_NoName : DCal K mg "NoName" C_NoName := ⟨PySem.W.mg_of X G aC_NoName, hd_NoName, ty_NoName⟩
  have e_NoNet : DCal K mg "NoNet" C_NoNet := ⟨PySem.W.mg_of X G aC_NoNet, hd_NoNet, ty_NoNet⟩
  have e_NoPart : DCal K mg "NoPart" C_NoPart := ⟨PySem.W.mg_of X G aC_NoPart, hd_NoPart, ty_NoPart⟩
  have e_NoPlace : DCal K mg "NoPlace" C_NoPlace := ⟨PySem.W.mg_of X G aC_NoPlace, hd_NoPlace, ty_NoPlace⟩
  have e_NoRoom : DCal K mg "NoRoom" C_NoRoom := ⟨PySem.W.mg_of X G aC_NoRoom, hd_NoRoom, ty_NoRoom⟩
  have e_NoState : DCal K mg "NoState" C_NoState := ⟨PySem.W.mg_of X G aC_NoState, hd_NoState, ty_NoState⟩
  have e_NoText : DCal K mg "NoText" C_NoText := ⟨PySem.W.mg_of X G aC_NoText, hd_NoText, ty_NoText⟩
  have e_NoTitle : DCal K mg "NoTitle" C_NoTitle := ⟨PySem.W.mg_of X G aC_NoTitle, hd_NoTitle, ty_NoTitle⟩
  have e_NoWait : DCal K mg "NoWait" C_NoWait := ⟨PySem.W.mg_of X G aC_NoWait, hd_NoWait, ty_NoWait⟩
  have e_NoWay : DCal K mg "NoWay" C_NoWay := ⟨PySem.W.mg_of X G aC_NoWay, hd_NoWay, ty_NoWay⟩
  have e_NoWord : ECal K mg "NoWord" C_NoWord := ⟨PySem.W.mg_of X G aC_NoWord, aC_NoWord, ⟨hg_NoWord, hk_NoWord, hs_NoWord, hd_NoWord, ha_NoWord, oc_n, oc_t, hm_NoWord⟩, ty_NoWord, ve_NoWord⟩
  have e_Over : DCal K mg "Over" C_Over := ⟨PySem.W.mg_of X G aC_Over, hd_Over, ty_Over⟩
  have e_TooDeep : DCal K mg "TooDeep" C_TooDeep := ⟨PySem.W.mg_of X G aC_TooDeep, hd_TooDeep, ty_TooDeep⟩
  have e_TooLong : ECal K mg "TooLong" C_TooLong := ⟨PySem.W.mg_of X G aC_TooLong, aC_TooLong, ⟨hg_TooLong, hk_TooLong, hs_TooLong, hd_TooLong, ha_TooLong, oc_n, oc_t, hm_TooLong⟩, ty_TooLong, ve_TooLong⟩
  have e_Twice : DCal K mg "Twice" C_Twice := ⟨PySem.W.mg_of X G aC_Twice, hd_Twice, ty_Twice⟩
  have e_Word : DCal K mg "Word" C_Word := ⟨PySem.W.mg_of X G aC_Word, hdw_Word, ty_Word⟩
  have y_NoWord : YCal K mg "NoWord" C_NoWord := ⟨ex_NoWord, PySem.W.mg_of X G aC_NoWord, kC_NoWord, hs_NoWord, ty_NoWord, aC_NoWord⟩
  have y_TooLong : YCal K mg "TooLong" C_TooLong := ⟨ex_TooLong, PySem.W.mg_of X G aC_TooLong, kC_TooLong, hs_TooLong, ty_TooLong, aC_TooLong⟩
  have b_gcd : mg "gcd" = some (.builtin "math.gcd") := PySem.W.mg_of X G v_b_gcd
  have v_Word : OCls K "Word" C_Word ["_head", "_again"] := ⟨aC_Word, ⟨pg_Word, hdw_Word, po_Word, sa_Word⟩, fun f hf => by
      simp only [List.mem_cons, List.not_mem_nil, or_false] at hf
      rcases hf with rfl | rfl
      · exact n_Word__head
      · exact n_Word__again⟩
  have F0 := fun_mk (st := s_is_whole) l0 e0 k0
  have b0 := F0.binds (ps := ["thing"]) fun _ _ _ _ _ _ us hl => match us, hl with | [_], _ => rfl
  have c_is_whole : Cal l.prog w K mg base CX0 1 f0 _ "is_whole" ["thing"] (sp_is_whole K) := ⟨ok_is_whole F0 m_bool m_int m_isinstance, PySem.W.mg_of X G a0, k0, b0⟩
  have F1 := fun_mk (st := s_is_signs) l1 e1 k1
  have b1 := F1.binds (ps := ["thing"]) fun _ _ _ _ _ _ us hl => match us, hl with | [_], _ => rfl
  have c_is_signs : Cal l.prog w K mg base CX0 1 f1 _ "is_signs" ["thing"] (sp_is_signs K) := ⟨ok_is_signs F1 m_isinstance m_str, PySem.W.mg_of X G a1, k1, b1⟩
  have F5 := fun_mk (st := s_shortest_again) l5 e5 k5
  have b5 := F5.binds (ps := ["again"]) fun _ _ _ _ _ _ us hl => match us, hl with | [_], _ => rfl
  have c_shortest_again : Cal l.prog w K mg base CX0 1 f5 _ "_shortest_again" ["again"] (sp_shortest_again K) := ⟨ok_shortest_again F5 , PySem.W.mg_of X G a5, k5, b5⟩
  have F6 := fun_mk (st := s_taken_in) l6 e6 k6
  have b6 := F6.binds (ps := ["head", "again"]) fun _ _ _ _ _ _ us hl => match us, hl with | [_, _], _ => rfl
  have c_taken_in : Cal l.prog w K mg base CX0 1 f6 _ "_taken_in" ["head", "again"] (sp_taken_in K) := ⟨ok_taken_in F6 m_len, PySem.W.mg_of X G a6, k6, b6⟩
  have F10 := fun_mk (st := s_place_in) l10 e10 k10
  have b10 := F10.binds (ps := ["text", "k"]) fun _ _ _ _ _ _ us hl => match us, hl with | [_, _], _ => rfl
  have c_place_in : Cal l.prog w K mg base CX0 1 f10 _ "_place_in" ["text", "k"] (sp_place_in K) := ⟨ok_place_in F10 m_range, PySem.W.mg_of X G a10, k10, b10⟩
  have F12 := fun_mk (st := s_first_signs) l12 e12 k12
  have b12 := F12.binds (ps := ["word", "many"]) fun _ _ _ _ _ _ us hl => match us, hl with | [_, _], _ => rfl
  have c_first_signs : Cal l.prog w K mg base CX0 1 f12 _ "first_signs" ["word", "many"] (sp_first_signs K) := ⟨ok_first_signs F12 m_len m_max, PySem.W.mg_of X G a12, k12, b12⟩
  have F14 := fun_mk (st := s_laid_on) l14 e14 k14
  have b14 := F14.binds (ps := ["text", "signs"]) fun _ _ _ _ _ _ us hl => match us, hl with | [_, _], _ => rfl
  have c_laid_on : Cal l.prog w K mg base CX0 1 f14 _ "_laid_on" ["text", "signs"] (sp_laid_on K) := ⟨ok_laid_on F14 m_zip, PySem.W.mg_of X G a14, k14, b14⟩
  have F16 := fun_mk (st := s_turned) l16 e16 k16
  have b16 := F16.binds (ps := ["text"]) fun _ _ _ _ _ _ us hl => match us, hl with | [_], _ => rfl
  have c_turned : Cal l.prog w K mg base CX0 1 f16 _ "_turned" ["text"] (sp_turned K) := ⟨ok_turned F16 , PySem.W.mg_of X G a16, k16, b16⟩
  have F19 := fun_mk (st := s_Word_word) l19 e19 k19
  have b19 := F19.binds (ps := ["self"]) fun _ _ _ _ _ _ us hl => match us, hl with | [_], _ => rfl
  have q_Word_word : MCal l.prog w K mg base CX0 1 C_Word "word" f19 _ ["self"] (sp_Word_word K) := ⟨⟨a19, fn19, k19⟩, ok_Word_word F19 v_Word, b19⟩
  have F23 := fun_mk (st := s_Word_eq) l23 e23 k23
  have b23 := F23.binds (ps := ["self", "other"]) fun _ _ _ _ _ _ us hl => match us, hl with | [_, _], _ => rfl
  have q_Word___eq__ : MCal l.prog w K mg base CX0 1 C_Word "__eq__" f23 _ ["self", "other"] (sp_Word_eq K) := ⟨⟨a23, fn23, k23⟩, ok_Word_eq F23 m_isinstance e_Word v_Word f_st_tuple f_st_str f_st_NoneType f_oi_Word, b23⟩
  have F24 := fun_mk (st := s_Word_len) l24 e24 k24
  have b24 := F24.binds (ps := ["self"]) fun _ _ _ _ _ _ us hl => match us, hl with | [_], _ => rfl
  have q_Word___len__ : MCal l.prog w K mg base CX0 1 C_Word "__len__" f24 _ ["self"] (sp_Word_len K) := ⟨⟨a24, fn24, k24⟩, ok_Word_len F24 m_len v_Word, b24⟩
  have F25 := fun_mk (st := s_Word_str) l25 e25 k25
  have b25 := F25.binds (ps := ["self"]) fun _ _ _ _ _ _ us hl => match us, hl with | [_], _ => rfl
  have q_Word___str__ : MCal l.prog w K mg base CX0 1 C_Word "__str__" f25 _ ["self"] (sp_Word_str K) := ⟨⟨a25, fn25, k25⟩, ok_Word_str F25 v_Word, b25⟩
  have F26 := fun_mk (st := s_Word_repr) l26 e26 k26
  have b26 := F26.binds (ps := ["self"]) fun _ _ _ _ _ _ us hl => match us, hl with | [_], _ => rfl
  have q_Word___repr__ : MCal l.prog w K mg base CX0 1 C_Word "__repr__" f26 _ ["self"] (sp_Word_repr K) := ⟨⟨a26, fn26, k26⟩, ok_Word_repr F26 v_Word, b26⟩
  have F27 := fun_mk (st := s_law_draws) l27 e27 k27
  have b27 := F27.binds (ps := ["_law_script", "_law_j", "_law_many"]) fun _ _ _ _ _ _ us hl => match us, hl with | [_, _, _], _ => rfl
  have c_law_draws : Cal l.prog w K mg base CX0 1 f27 _ "_law_draws" ["_law_script", "_law_j", "_law_many"] (sp_law_draws K) := ⟨ok_law_draws F27 m_len m_min m_range, PySem.W.mg_of X G a27, k27, b27⟩
  have F28 := fun_mk (st := s_law_signs) l28 e28 k28
  have b28 := F28.binds (ps := ["_law_digits", "_law_many"]) fun _ _ _ _ _ _ us hl => match us, hl with | [_, _], _ => rfl
  have c_law_signs : Cal l.prog w K mg base CX0 1 f28 _ "_law_signs" ["_law_digits", "_law_many"] (sp_law_signs K) := ⟨ok_law_signs F28 , PySem.W.mg_of X G a28, k28, b28⟩
  have F30 := fun_mk (st := s_law_text) l30 e30 k30
  have b30 := F30.binds (ps := ["_law_word_here", "_law_many"]) fun _ _ _ _ _ _ us hl => match us, hl with | [_, _], _ => rfl
  have c_law_text : Cal l.prog w K mg base CX0 1 f30 _ "_law_text" ["_law_word_here", "_law_many"] (sp_law_text K) := ⟨ok_law_text F30 m_len, PySem.W.mg_of X G a30, k30, b30⟩
  have F31 := fun_mk (st := s_law_names_of) l31 e31 k31
  have b31 := F31.binds (ps := ["_law_e"]) fun _ _ _ _ _ _ us hl => match us, hl with | [_], _ => rfl
  have c_law_names_of : Cal l.prog w K mg base CX0 1 f31 _ "_law_names_of" ["_law_e"] (sp_law_names_of K) := ⟨ok_law_names_of F31 m_isinstance m_zip e_Dry e_NoBack e_NoBeat e_NoBook e_NoDeed e_NoDrive e_NoFace e_NoFlow e_NoLane e_NoLine e_NoLoop e_NoMeasure e_NoModule e_NoName e_NoNet e_NoPart e_NoPlace e_NoRoom e_NoState e_NoText e_NoTitle e_NoWait e_NoWay e_NoWord e_Over e_TooDeep e_TooLong e_Twice u_NoWord_Dry u_NoWord_NoBack u_NoWord_NoBeat u_NoWord_NoBook u_NoWord_NoDeed u_NoWord_NoDrive u_NoWord_NoFace u_NoWord_NoFlow u_NoWord_NoLane u_NoWord_NoLine u_NoWord_NoLoop u_NoWord_NoMeasure u_NoWord_NoModule u_NoWord_NoName u_NoWord_NoNet u_NoWord_NoPart u_NoWord_NoPlace u_NoWord_NoRoom u_NoWord_NoState u_NoWord_NoText u_NoWord_NoTitle u_NoWord_NoWait u_NoWord_NoWay u_NoWord_NoWord u_NoWord_Over u_NoWord_TooDeep u_NoWord_TooLong u_NoWord_Twice u_TooLong_Dry u_TooLong_NoBack u_TooLong_NoBeat u_TooLong_NoBook u_TooLong_NoDeed u_TooLong_NoDrive u_TooLong_NoFace u_TooLong_NoFlow u_TooLong_NoLane u_TooLong_NoLine u_TooLong_NoLoop u_TooLong_NoMeasure u_TooLong_NoModule u_TooLong_NoName u_TooLong_NoNet u_TooLong_NoPart u_TooLong_NoPlace u_TooLong_NoRoom u_TooLong_NoState u_TooLong_NoText u_TooLong_NoTitle u_TooLong_NoWait u_TooLong_NoWay u_TooLong_NoWord u_TooLong_Over u_TooLong_TooDeep u_TooLong_TooLong u_TooLong_Twice, PySem.W.mg_of X G a31, k31, b31⟩
  have F2 := fun_mk (st := s_is_word) l2 e2 k2
  have b2 := F2.binds (ps := ["thing"]) fun _ _ _ _ _ _ us hl => match us, hl with | [_], _ => rfl
  have c_is_word : Cal l.prog w K mg base CX0 2 f2 _ "is_word" ["thing"] (sp_is_word K) := ⟨ok_is_word F2 m_isinstance m_len m_tuple g_MOST_SIGNS c_is_signs, PySem.W.mg_of X G a2, k2, b2⟩
  have F4 := fun_mk (st := s_check_place) l4 e4 k4
  have b4 := F4.binds (ps := ["k"]) fun _ _ _ _ _ _ us hl => match us, hl with | [_], _ => rfl
  have c_check_place : Cal l.prog w K mg base CX0 2 f4 _ "_check_place" ["k"] (sp_check_place K) := ⟨ok_check_place F4 c_is_whole, PySem.W.mg_of X G a4, k4, b4⟩
  have F7 := fun_mk (st := s_least) l7 e7 k7
  have b7 := F7.binds (ps := ["head", "again"]) fun _ _ _ _ _ _ us hl => match us, hl with | [_, _], _ => rfl
  have c_least : Cal l.prog w K mg base CX0 2 f7 _ "_least" ["head", "again"] (sp_least K) := ⟨ok_least F7 m_len c_shortest_again c_taken_in, PySem.W.mg_of X G a7, k7, b7⟩
  have F29 := fun_mk (st := s_law_word) l29 e29 k29
  have b29 := F29.binds (ps := ["_law_script", "_law_j"]) fun _ _ _ _ _ _ us hl => match us, hl with | [_, _], _ => rfl
  have c_law_word : Cal l.prog w K mg base CX0 2 f29 _ "_law_word" ["_law_script", "_law_j"] (sp_law_word K) := ⟨ok_law_word F29 c_law_draws c_law_signs, PySem.W.mg_of X G a29, k29, b29⟩
  have F3 := fun_mk (st := s_check_word) l3 e3 k3
  have b3 := F3.binds (ps := ["word"]) fun _ _ _ _ _ _ us hl => match us, hl with | [_], _ => rfl
  have c_check_word : Cal l.prog w K mg base (L2.CX l.prog w) 3 f3 _ "_check_word" ["word"] (sp_check_word K) := ⟨ok_check_word F3 c_is_word y_NoWord, PySem.W.mg_of X G a3, k3, b3⟩
  have F8 := fun_mk (st := s_least_word) l8 e8 k8
  have b8 := F8.binds (ps := ["word"]) fun _ _ _ _ _ _ us hl => match us, hl with | [_], _ => rfl
  have c_least_word : Cal l.prog w K mg base (L2.CX l.prog w) 4 f8 _ "least_word" ["word"] (sp_least_word K) := ⟨ok_least_word F8 c_check_word c_least, PySem.W.mg_of X G a8, k8, b8⟩
  have F9 := fun_mk (st := s_letter) l9 e9 k9
  have b9 := F9.binds (ps := ["word", "k"]) fun _ _ _ _ _ _ us hl => match us, hl with | [_, _], _ => rfl
  have c_letter : Cal l.prog w K mg base CX0 4 f9 _ "letter" ["word", "k"] (sp_letter K) := ⟨ok_letter F9 m_len c_check_word c_check_place, PySem.W.mg_of X G a9, k9, b9⟩
  have F11 := fun_mk (st := s_place_of) l11 e11 k11
  have b11 := F11.binds (ps := ["word", "k"]) fun _ _ _ _ _ _ us hl => match us, hl with | [_, _], _ => rfl
  have c_place_of : Cal l.prog w K mg base CX0 4 f11 _ "place_of" ["word", "k"] (sp_place_of K) := ⟨ok_place_of F11 m_divmod m_len c_check_word c_check_place c_place_in, PySem.W.mg_of X G a11, k11, b11⟩
  have F17 := fun_mk (st := s_other_of) l17 e17 k17
  have b17 := F17.binds (ps := ["word"]) fun _ _ _ _ _ _ us hl => match us, hl with | [_], _ => rfl
  have c_other_of : Cal l.prog w K mg base CX0 4 f17 _ "other_of" ["word"] (sp_other_of K) := ⟨ok_other_of F17 c_check_word c_least c_turned, PySem.W.mg_of X G a17, k17, b17⟩
  have F13 := fun_mk (st := s_on_lengths) l13 e13 k13
  have b13 := F13.binds (ps := ["one", "other"]) fun _ _ _ _ _ _ us hl => match us, hl with | [_, _], _ => rfl
  have c_on_lengths : Cal l.prog w K mg base CX0 5 f13 _ "_on_lengths" ["one", "other"] (sp_on_lengths K) := ⟨ok_on_lengths F13 m_len m_max c_place_of b_gcd, PySem.W.mg_of X G a13, k13, b13⟩
  have F18 : FunD K "__init__" "Word.__init__" (defArgs s_Word_init) (defBody s_Word_init) (defScope s_Word_init) [.str "1"] [("head", .str "")] f18 _ := ⟨⟨_, _, _, _, _, _, _, _, _, _, rfl, l18, e18, .inr ⟨(fun z => nomatch z), T18, _, [.str "1" tkp18_0], _, rfl, lT18, rfl, .cons ⟨_, rfl⟩ .nil⟩, .inr ⟨D18, rfl, kwd_Word_init dn18_0⟩⟩, k18⟩
  have w_Word : OCal l.prog w K mg base (L2.CX l.prog w) 5 "Word" C_Word f18 _ ["self", "again", "head"] (sp_Word_init K) 1 ["head"] := ⟨⟨mk_Word, a18, fn18, kC_Word⟩, ok_Word_init F18 c_least_word v_Word, PySem.W.mg_of X G aC_Word, k1_Word F18, k0_Word F18, b1_Word F18, b0_Word F18⟩
  have F20 := fun_mk (st := s_Word_has_one) l20 e20 k20
  have b20 := F20.binds (ps := ["self", "k"]) fun _ _ _ _ _ _ us hl => match us, hl with | [_, _], _ => rfl
  have q_Word_has_one : MCal l.prog w K mg base CX0 5 C_Word "has_one" f20 _ ["self", "k"] (sp_Word_has_one K) := ⟨⟨a20, fn20, k20⟩, ok_Word_has_one F20 c_letter v_Word q_Word_word, b20⟩
  have F15 := fun_mk (st := s_on) l15 e15 k15
  have FD15 : FunD K "on" "on" (defArgs s_on) (defBody s_on) (defScope s_on) [] [("most", .int 20000)] f15 _ := ⟨⟨_, _, _, _, _, _, _, _, _, _, rfl, l15, e15, .inl ⟨rfl, rfl⟩, .inr ⟨D15, rfl, kwd_on dn15_0⟩⟩, k15⟩
  have c_on : KCal l.prog w K mg base (L2.CX l.prog w) 6 f15 _ "on" ["one", "other", "most"] (sp_on K) 2 ["most"] [.int 20000] := ⟨ok_on F15 m_max c_check_word c_on_lengths c_least_word c_first_signs c_laid_on c_least y_TooLong, PySem.W.mg_of X G a15, k15, kb_on FD15, kk_on FD15⟩
  have c_on_words : KCal l.prog w K mg base (L2.CX l.prog w) 6 f15 _ "on_words" ["one", "other", "most"] (sp_on K) 2 ["most"] [.int 20000] := ⟨c_on.G, PySem.W.mg_of X G al_on_words, c_on.kp, c_on.b, c_on.bk⟩
  have F33 := fun_mk (st := s_law_shown) l33 e33 k33
  have b33 := F33.binds (ps := ["_law_word_here", "_law_thing"]) fun _ _ _ _ _ _ us hl => match us, hl with | [_, _], _ => rfl
  have c_law_shown : Cal l.prog w K mg base CX0 6 f33 _ "_law_shown" ["_law_word_here", "_law_thing"] (sp_law_shown K) := ⟨ok_law_shown F33 m_len m_range m_repr m_str c_least_word c_law_text v_Word q_Word___len__ q_Word___repr__ q_Word___str__ q_Word_has_one q_Word_word, PySem.W.mg_of X G a33, k33, b33⟩
  have F21 := fun_mk (st := s_Word_on) l21 e21 k21
  have b21 := F21.binds (ps := ["self", "other"]) fun _ _ _ _ _ _ us hl => match us, hl with | [_, _], _ => rfl
  have q_Word_on : MCal l.prog w K mg base (L2.CX l.prog w) 7 C_Word "on" f21 _ ["self", "other"] (sp_Word_on K) := ⟨⟨a21, fn21, k21⟩, ok_Word_on F21 c_on_words w_Word v_Word q_Word_word, b21⟩
  have F22 := fun_mk (st := s_Word_other) l22 e22 k22
  have b22 := F22.binds (ps := ["self"]) fun _ _ _ _ _ _ us hl => match us, hl with | [_], _ => rfl
  have q_Word_other : MCal l.prog w K mg base CX0 7 C_Word "other" f22 _ ["self"] (sp_Word_other K) := ⟨⟨a22, fn22, k22⟩, ok_Word_other F22 c_other_of w_Word v_Word q_Word_word, b22⟩
  have F32 := fun_mk (st := s_law_refused) l32 e32 k32
  have b32 := F32.binds (ps := ["_law_first", "_law_behind"]) fun _ _ _ _ _ _ us hl => match us, hl with | [_, _], _ => rfl
  have c_law_refused : Cal l.prog w K mg base CX0 7 f32 _ "_law_refused" ["_law_first", "_law_behind"] (sp_law_refused K) := ⟨ok_law_refused F32 m_ValueError m_isinstance c_law_names_of e_LoomError e_NoWord w_Word v_Word u_NoWord_LoomError, PySem.W.mg_of X G a32, k32, b32⟩
  have F34 := fun_mk (st := s_law) l34 e34 k34
  exact ok_law F34 m_ValueError m_isinstance m_range m_str c_law_word c_law_text c_law_shown c_on_words c_other_of c_least_word c_law_draws c_law_refused c_law_names_of e_LoomError e_NoWord e_TooLong e_Word w_Word v_Word q_Word___eq__ q_Word___str__ q_Word_on q_Word_other q_Word_word u_TooLong_LoomError f_st_tuple f_st_str f_st_NoneType f_ne_Word f_oi_Word
def nm_0 : List PySem.Str := ["gcd", "is_whole", "is_signs", "fresh", "LoomError", "NoBack", "NoDrive", "NoLane", "NoLine", "NoMeasure", "NoPart", "NoTitle", "NoWait", "NoWay", "NoWord", "TooDeep", "TooLong", "Dry", "NoBeat", "NoBook", "NoDeed", "NoFace", "NoFlow", "NoLoop", "NoModule", "NoName", "NoNet", "NoPlace", "NoRoom", "NoState"]
def nm_1 : List PySem.Str := ["NoText", "Over", "Twice", "MOST_SIGNS", "is_word", "_check_word", "_check_place", "_shortest_again", "_taken_in", "_least", "least_word", "letter", "_place_in", "place_of", "first_signs", "_on_lengths", "_laid_on", "on", "on_words", "_turned", "other_of", "Word", "_law_draws", "_law_signs", "_law_word", "_law_text", "_law_names_of", "_law_refused", "_law_shown"]
def nm_all : List PySem.Str := nm_0 ++ nm_1
def dd_0 : He.DefD := ⟨("is_whole", none), "is_whole", "is_whole", defArgs s_is_whole, defBody s_is_whole, defScope s_is_whole, [], []⟩
def dd_1 : He.DefD := ⟨("is_signs", none), "is_signs", "is_signs", defArgs s_is_signs, defBody s_is_signs, defScope s_is_signs, [], []⟩
def dd_2 : He.DefD := ⟨("is_word", none), "is_word", "is_word", defArgs s_is_word, defBody s_is_word, defScope s_is_word, [], []⟩
def dd_3 : He.DefD := ⟨("_check_word", none), "_check_word", "_check_word", defArgs s_check_word, defBody s_check_word, defScope s_check_word, [], []⟩
def dd_4 : He.DefD := ⟨("_check_place", none), "_check_place", "_check_place", defArgs s_check_place, defBody s_check_place, defScope s_check_place, [], []⟩
def dd_5 : He.DefD := ⟨("_shortest_again", none), "_shortest_again", "_shortest_again", defArgs s_shortest_again, defBody s_shortest_again, defScope s_shortest_again, [], []⟩
def dd_6 : He.DefD := ⟨("_taken_in", none), "_taken_in", "_taken_in", defArgs s_taken_in, defBody s_taken_in, defScope s_taken_in, [], []⟩
def dd_7 : He.DefD := ⟨("_least", none), "_least", "_least", defArgs s_least, defBody s_least, defScope s_least, [], []⟩
def dd_8 : He.DefD := ⟨("least_word", none), "least_word", "least_word", defArgs s_least_word, defBody s_least_word, defScope s_least_word, [], []⟩
def dd_9 : He.DefD := ⟨("letter", none), "letter", "letter", defArgs s_letter, defBody s_letter, defScope s_letter, [], []⟩
def dd_10 : He.DefD := ⟨("_place_in", none), "_place_in", "_place_in", defArgs s_place_in, defBody s_place_in, defScope s_place_in, [], []⟩
def dd_11 : He.DefD := ⟨("place_of", none), "place_of", "place_of", defArgs s_place_of, defBody s_place_of, defScope s_place_of, [], []⟩
def dd_12 : He.DefD := ⟨("first_signs", none), "first_signs", "first_signs", defArgs s_first_signs, defBody s_first_signs, defScope s_first_signs, [], []⟩
def dd_13 : He.DefD := ⟨("_on_lengths", none), "_on_lengths", "_on_lengths", defArgs s_on_lengths, defBody s_on_lengths, defScope s_on_lengths, [], []⟩
def dd_14 : He.DefD := ⟨("_laid_on", none), "_laid_on", "_laid_on", defArgs s_laid_on, defBody s_laid_on, defScope s_laid_on, [], []⟩
def dd_15 : He.DefD := ⟨("on", none), "on", "on", defArgs s_on, defBody s_on, defScope s_on, [], [("most", .int 20000)]⟩
def dd_16 : He.DefD := ⟨("_turned", none), "_turned", "_turned", defArgs s_turned, defBody s_turned, defScope s_turned, [], []⟩
def dd_17 : He.DefD := ⟨("other_of", none), "other_of", "other_of", defArgs s_other_of, defBody s_other_of, defScope s_other_of, [], []⟩
def dd_18 : He.DefD := ⟨("Word", some "__init__"), "__init__", "Word.__init__", defArgs s_Word_init, defBody s_Word_init, defScope s_Word_init, [.str "1"], [("head", .str "")]⟩
def dd_19 : He.DefD := ⟨("Word", some "word"), "word", "Word.word", defArgs s_Word_word, defBody s_Word_word, defScope s_Word_word, [], []⟩
def dd_20 : He.DefD := ⟨("Word", some "has_one"), "has_one", "Word.has_one", defArgs s_Word_has_one, defBody s_Word_has_one, defScope s_Word_has_one, [], []⟩
def dd_21 : He.DefD := ⟨("Word", some "on"), "on", "Word.on", defArgs s_Word_on, defBody s_Word_on, defScope s_Word_on, [], []⟩
def dd_22 : He.DefD := ⟨("Word", some "other"), "other", "Word.other", defArgs s_Word_other, defBody s_Word_other, defScope s_Word_other, [], []⟩
def dd_23 : He.DefD := ⟨("Word", some "__eq__"), "__eq__", "Word.__eq__", defArgs s_Word_eq, defBody s_Word_eq, defScope s_Word_eq, [], []⟩
def dd_24 : He.DefD := ⟨("Word", some "__len__"), "__len__", "Word.__len__", defArgs s_Word_len, defBody s_Word_len, defScope s_Word_len, [], []⟩
def dd_25 : He.DefD := ⟨("Word", some "__str__"), "__str__", "Word.__str__", defArgs s_Word_str, defBody s_Word_str, defScope s_Word_str, [], []⟩
def dd_26 : He.DefD := ⟨("Word", some "__repr__"), "__repr__", "Word.__repr__", defArgs s_Word_repr, defBody s_Word_repr, defScope s_Word_repr, [], []⟩
def dd_27 : He.DefD := ⟨("_law_draws", none), "_law_draws", "_law_draws", defArgs s_law_draws, defBody s_law_draws, defScope s_law_draws, [], []⟩
def dd_28 : He.DefD := ⟨("_law_signs", none), "_law_signs", "_law_signs", defArgs s_law_signs, defBody s_law_signs, defScope s_law_signs, [], []⟩
def dd_29 : He.DefD := ⟨("_law_word", none), "_law_word", "_law_word", defArgs s_law_word, defBody s_law_word, defScope s_law_word, [], []⟩
def dd_30 : He.DefD := ⟨("_law_text", none), "_law_text", "_law_text", defArgs s_law_text, defBody s_law_text, defScope s_law_text, [], []⟩
def dd_31 : He.DefD := ⟨("_law_names_of", none), "_law_names_of", "_law_names_of", defArgs s_law_names_of, defBody s_law_names_of, defScope s_law_names_of, [], []⟩
def dd_32 : He.DefD := ⟨("_law_refused", none), "_law_refused", "_law_refused", defArgs s_law_refused, defBody s_law_refused, defScope s_law_refused, [], []⟩
def dd_33 : He.DefD := ⟨("_law_shown", none), "_law_shown", "_law_shown", defArgs s_law_shown, defBody s_law_shown, defScope s_law_shown, [], []⟩
def dd_34 : He.DefD := ⟨("law", none), "law", "law", defArgs s_law, defBody s_law, defScope s_law, [], []⟩
def ddL : List He.DefD := [dd_0, dd_1, dd_2, dd_3, dd_4, dd_5, dd_6, dd_7, dd_8, dd_9, dd_10, dd_11, dd_12, dd_13, dd_14, dd_15, dd_16, dd_17, dd_18, dd_19, dd_20, dd_21, dd_22, dd_23, dd_24, dd_25, dd_26, dd_27, dd_28, dd_29, dd_30, dd_31, dd_32, dd_33, dd_34]
def excB (K : PySem.W.Frag) (C : Addr) : Bool :=
  match K.lookup C with
  | some { cls := .type t, dict := _, data := .cls { name := _, bases := _, mro := .ref a :: bm, ns := _, qualname := _, hasDict := true, hasDel := false, slotNames := _, subclasses := _, abstract := _, collection := _ }, slots := ⟨[_, _, _, _, some (.builtin id), _]⟩ } => t == "type" && (a == C && (id == "ValueError.__new__" && PySem.HandSPX.refsVE bm))
  | _ => false
theorem excB_ok {K : PySem.W.Frag} {C : Addr} (h : excB K C = true) : ∃ nm q N bs bm sn sub ab col dd k0 k1 k2 k3 k5, K.lookup C = some (excClassObj nm q C N bs bm true sn sub ab col dd k0 k1 k2 k3 k5 "ValueError.__new__") ∧ PySem.HandSPX.refsVE bm = true := by
  unfold excB at h
  split at h
  · rename_i e
    simp only [Bool.and_eq_true, beq_iff_eq] at h
    obtain ⟨rfl, rfl, rfl, hv⟩ := h
    exact ⟨_, _, _, _, _, _, _, _, _, _, _, _, _, _, _, e, hv⟩
  · cases h
def intB (K : PySem.W.Frag) (x : Str) (i : Int) : Bool :=
  match PySem.W.nsIn K mainGlobals x with
  | some (some (.int j _)) => decide (j = i)
  | _ => false
theorem intB_ok {K : PySem.W.Frag} {x : Str} {i : Int} (h : intB K x i = true) : ∃ t, PySem.W.nsIn K mainGlobals x = some (some (.int i t)) := by
  unfold intB at h
  split at h
  · rename_i e
    have := of_decide_eq_true h
    subst this
    exact ⟨_, e⟩
  · cases h
def keysB (es : Array DictEntry) : Bool := es.toList.all fun e => match e.key with
  | .str _ _ => true
  | _ => false
theorem keysB_ok {es : Array DictEntry} (h : keysB es = true) : StrKeys es := fun e he => by
  have := List.all_eq_true.mp h e (Array.mem_toList_iff.mpr he)
  split at this
  · rename_i n t e1
    exact ⟨n, t, e1⟩
  · cases this
def nsB (K : PySem.W.Frag) (N f : Addr) : Bool :=
  match K.lookup N with
  | some { cls := _, dict := _, data := .dict es _, slots := _ } => keysB es && (decide (nsFind es "__eq__" = some (.ref f)) && decide (nsFind es "__ne__" = none))
  | _ => false
theorem nsB_ok {K : PySem.W.Frag} {N f : Addr} (h : nsB K N f = true) : ∃ oN es ep, K.lookup N = some oN ∧ oN.data = .dict es ep ∧ StrKeys es ∧ nsFind es "__eq__" = some (.ref f) ∧ nsFind es "__ne__" = none := by
  unfold nsB at h
  split at h
  · rename_i e
    simp only [Bool.and_eq_true] at h
    exact ⟨_, _, _, e, rfl, keysB_ok h.1, of_decide_eq_true h.2.1, of_decide_eq_true h.2.2⟩
  · cases h
def neB (K : PySem.W.Frag) (C f : Addr) : Bool :=
  match K.lookup C with
  | some { cls := .type t, dict := _, data := .cls { name := _, bases := _, mro := [.ref a, .type o], ns := N, qualname := _, hasDict := _, hasDel := false, slotNames := _, subclasses := _, abstract := _, collection := _ }, slots := ⟨[_, _, _, _, some (.builtin _), _]⟩ } => t == "type" && (a == C && (o == "object" && (nsB K N f && decide (PySem.W.typeIn K (.ref f) = some (.type "function")))))
  | _ => false
theorem fn_cls {K : PySem.W.Frag} {f : Addr} (h : PySem.W.typeIn K (.ref f) = some (.type "function")) : ∃ oF, K.lookup f = some oF ∧ oF.cls = .type "function" := by
  have h2 : (K.lookup f).map (fun o => o.cls) = some (.type "function") := h
  obtain ⟨oF, e, e2⟩ := Option.map_eq_some_iff.mp h2
  exact ⟨oF, e, e2⟩
theorem neB_ok {K : PySem.W.Frag} {C f : Addr} (h : neB K C f = true) : WX.NeCls K C f := by
  unfold neB at h
  split at h
  · rename_i e
    simp only [Bool.and_eq_true, beq_iff_eq] at h
    obtain ⟨rfl, rfl, rfl, hn, hf⟩ := h
    obtain ⟨oN, es, ep, g1, g2, g3, g4, g5⟩ := nsB_ok hn
    obtain ⟨oF, g6, g7⟩ := fn_cls (of_decide_eq_true hf)
    exact ⟨_, _, _, _, _, _, _, _, _, _, _, _, _, _, _, _, oN, es, ep, oF, e, g1, g2, g3, g4, g5, g6, g7⟩
  · cases h
def exL_0 (K : PySem.W.Frag) : List Bool := [
  He.eqO (PySem.W.nsIn K mainGlobals "Word") (some (some (.ref (He.ga K "Word")))),
  PySem.W.makesIn K (He.ga K "Word"),
  PySem.W.keepIn K (.ref (He.ga K "Word")),
  PySem.W.plainGet K (He.ga K "Word") Str.empty,
  PySem.W.hasDictIn K (He.ga K "Word"),
  PySem.W.plainOver K (He.ga K "Word"),
  He.eqO (PySem.W.findIn K (.ref (He.ga K "Word")) "__setattr__") (some (some (.builtin "object.__setattr__"))),
  He.eqO (PySem.W.findIn K (.ref (He.ga K "Word")) "_head") (some none),
  He.eqO (PySem.W.findIn K (.ref (He.ga K "Word")) "_again") (some none),
  He.eqO (PySem.W.nsIn K mainGlobals "Dry") (some (some (.ref (He.ga K "Dry")))),
  PySem.W.hasDictIn K (He.ga K "Dry"),
  decide (PySem.W.typeIn K (.ref (He.ga K "Dry")) = some (.type "type")),
  He.eqO (PySem.W.nsIn K mainGlobals "LoomError") (some (some (.ref (He.ga K "LoomError")))),
  He.eqO (PySem.W.findIn K (.ref (He.ga K "LoomError")) "__getattribute__") (some (some (.builtin "BaseException.__getattribute__"))),
  He.eqO (PySem.W.findIn K (.ref (He.ga K "LoomError")) "__getattr__") (some none),
  PySem.W.hasDictIn K (He.ga K "LoomError"),
  He.eqO (PySem.W.findIn K (.ref (He.ga K "LoomError")) "__class__") (some (some (.builtin "object.__class__"))),
  decide (PySem.W.mroIn K (He.ga K "LoomError") (.type "object") = some true),
  decide (PySem.W.subIn K (.ref (He.ga K "LoomError")) (.type "ValueError") = some true),
  decide (PySem.W.subIn K (.ref (He.ga K "LoomError")) (.type "BaseException") = some true),
  decide (PySem.W.typeIn K (.ref (He.ga K "LoomError")) = some (.type "type")),
  He.eqO (PySem.W.nsIn K mainGlobals "NoBack") (some (some (.ref (He.ga K "NoBack")))),
  PySem.W.hasDictIn K (He.ga K "NoBack"),
  decide (PySem.W.typeIn K (.ref (He.ga K "NoBack")) = some (.type "type")),
  He.eqO (PySem.W.nsIn K mainGlobals "NoBeat") (some (some (.ref (He.ga K "NoBeat")))),
  PySem.W.hasDictIn K (He.ga K "NoBeat"),
  decide (PySem.W.typeIn K (.ref (He.ga K "NoBeat")) = some (.type "type")),
  He.eqO (PySem.W.nsIn K mainGlobals "NoBook") (some (some (.ref (He.ga K "NoBook")))),
  PySem.W.hasDictIn K (He.ga K "NoBook"),
  decide (PySem.W.typeIn K (.ref (He.ga K "NoBook")) = some (.type "type")),
  He.eqO (PySem.W.nsIn K mainGlobals "NoDeed") (some (some (.ref (He.ga K "NoDeed")))),
  PySem.W.hasDictIn K (He.ga K "NoDeed"),
  decide (PySem.W.typeIn K (.ref (He.ga K "NoDeed")) = some (.type "type")),
  He.eqO (PySem.W.nsIn K mainGlobals "NoDrive") (some (some (.ref (He.ga K "NoDrive")))),
  PySem.W.hasDictIn K (He.ga K "NoDrive"),
  decide (PySem.W.typeIn K (.ref (He.ga K "NoDrive")) = some (.type "type")),
  He.eqO (PySem.W.nsIn K mainGlobals "NoFace") (some (some (.ref (He.ga K "NoFace")))),
  PySem.W.hasDictIn K (He.ga K "NoFace"),
  decide (PySem.W.typeIn K (.ref (He.ga K "NoFace")) = some (.type "type")),
  He.eqO (PySem.W.nsIn K mainGlobals "NoFlow") (some (some (.ref (He.ga K "NoFlow"))))]
def exL_1 (K : PySem.W.Frag) : List Bool := [
  PySem.W.hasDictIn K (He.ga K "NoFlow"),
  decide (PySem.W.typeIn K (.ref (He.ga K "NoFlow")) = some (.type "type")),
  He.eqO (PySem.W.nsIn K mainGlobals "NoLane") (some (some (.ref (He.ga K "NoLane")))),
  PySem.W.hasDictIn K (He.ga K "NoLane"),
  decide (PySem.W.typeIn K (.ref (He.ga K "NoLane")) = some (.type "type")),
  He.eqO (PySem.W.nsIn K mainGlobals "NoLine") (some (some (.ref (He.ga K "NoLine")))),
  PySem.W.hasDictIn K (He.ga K "NoLine"),
  decide (PySem.W.typeIn K (.ref (He.ga K "NoLine")) = some (.type "type")),
  He.eqO (PySem.W.nsIn K mainGlobals "NoLoop") (some (some (.ref (He.ga K "NoLoop")))),
  PySem.W.hasDictIn K (He.ga K "NoLoop"),
  decide (PySem.W.typeIn K (.ref (He.ga K "NoLoop")) = some (.type "type")),
  He.eqO (PySem.W.nsIn K mainGlobals "NoMeasure") (some (some (.ref (He.ga K "NoMeasure")))),
  PySem.W.hasDictIn K (He.ga K "NoMeasure"),
  decide (PySem.W.typeIn K (.ref (He.ga K "NoMeasure")) = some (.type "type")),
  He.eqO (PySem.W.nsIn K mainGlobals "NoModule") (some (some (.ref (He.ga K "NoModule")))),
  PySem.W.hasDictIn K (He.ga K "NoModule"),
  decide (PySem.W.typeIn K (.ref (He.ga K "NoModule")) = some (.type "type")),
  He.eqO (PySem.W.nsIn K mainGlobals "NoName") (some (some (.ref (He.ga K "NoName")))),
  PySem.W.hasDictIn K (He.ga K "NoName"),
  decide (PySem.W.typeIn K (.ref (He.ga K "NoName")) = some (.type "type")),
  He.eqO (PySem.W.nsIn K mainGlobals "NoNet") (some (some (.ref (He.ga K "NoNet")))),
  PySem.W.hasDictIn K (He.ga K "NoNet"),
  decide (PySem.W.typeIn K (.ref (He.ga K "NoNet")) = some (.type "type")),
  He.eqO (PySem.W.nsIn K mainGlobals "NoPart") (some (some (.ref (He.ga K "NoPart")))),
  PySem.W.hasDictIn K (He.ga K "NoPart"),
  decide (PySem.W.typeIn K (.ref (He.ga K "NoPart")) = some (.type "type")),
  He.eqO (PySem.W.nsIn K mainGlobals "NoPlace") (some (some (.ref (He.ga K "NoPlace")))),
  PySem.W.hasDictIn K (He.ga K "NoPlace"),
  decide (PySem.W.typeIn K (.ref (He.ga K "NoPlace")) = some (.type "type")),
  He.eqO (PySem.W.nsIn K mainGlobals "NoRoom") (some (some (.ref (He.ga K "NoRoom")))),
  PySem.W.hasDictIn K (He.ga K "NoRoom"),
  decide (PySem.W.typeIn K (.ref (He.ga K "NoRoom")) = some (.type "type")),
  He.eqO (PySem.W.nsIn K mainGlobals "NoState") (some (some (.ref (He.ga K "NoState")))),
  PySem.W.hasDictIn K (He.ga K "NoState"),
  decide (PySem.W.typeIn K (.ref (He.ga K "NoState")) = some (.type "type")),
  He.eqO (PySem.W.nsIn K mainGlobals "NoText") (some (some (.ref (He.ga K "NoText")))),
  PySem.W.hasDictIn K (He.ga K "NoText"),
  decide (PySem.W.typeIn K (.ref (He.ga K "NoText")) = some (.type "type")),
  He.eqO (PySem.W.nsIn K mainGlobals "NoTitle") (some (some (.ref (He.ga K "NoTitle")))),
  PySem.W.hasDictIn K (He.ga K "NoTitle")]
def exL_2 (K : PySem.W.Frag) : List Bool := [
  decide (PySem.W.typeIn K (.ref (He.ga K "NoTitle")) = some (.type "type")),
  He.eqO (PySem.W.nsIn K mainGlobals "NoWait") (some (some (.ref (He.ga K "NoWait")))),
  PySem.W.hasDictIn K (He.ga K "NoWait"),
  decide (PySem.W.typeIn K (.ref (He.ga K "NoWait")) = some (.type "type")),
  He.eqO (PySem.W.nsIn K mainGlobals "NoWay") (some (some (.ref (He.ga K "NoWay")))),
  PySem.W.hasDictIn K (He.ga K "NoWay"),
  decide (PySem.W.typeIn K (.ref (He.ga K "NoWay")) = some (.type "type")),
  He.eqO (PySem.W.nsIn K mainGlobals "NoWord") (some (some (.ref (He.ga K "NoWord")))),
  He.eqO (PySem.W.findIn K (.ref (He.ga K "NoWord")) "__getattribute__") (some (some (.builtin "BaseException.__getattribute__"))),
  He.eqO (PySem.W.findIn K (.ref (He.ga K "NoWord")) "__getattr__") (some none),
  PySem.W.hasDictIn K (He.ga K "NoWord"),
  He.eqO (PySem.W.findIn K (.ref (He.ga K "NoWord")) "__class__") (some (some (.builtin "object.__class__"))),
  decide (PySem.W.mroIn K (He.ga K "NoWord") (.type "object") = some true),
  decide (PySem.W.subIn K (.ref (He.ga K "NoWord")) (.type "ValueError") = some true),
  decide (PySem.W.subIn K (.ref (He.ga K "NoWord")) (.type "BaseException") = some true),
  decide (PySem.W.typeIn K (.ref (He.ga K "NoWord")) = some (.type "type")),
  PySem.W.keepIn K (.ref (He.ga K "NoWord")),
  PySem.W.excIn K (He.ga K "NoWord") [.type "ValueError", .type "Exception", .type "BaseException", .type "object"] "ValueError.__new__",
  He.eqO (PySem.W.nsIn K mainGlobals "Over") (some (some (.ref (He.ga K "Over")))),
  PySem.W.hasDictIn K (He.ga K "Over"),
  decide (PySem.W.typeIn K (.ref (He.ga K "Over")) = some (.type "type")),
  He.eqO (PySem.W.nsIn K mainGlobals "TooDeep") (some (some (.ref (He.ga K "TooDeep")))),
  PySem.W.hasDictIn K (He.ga K "TooDeep"),
  decide (PySem.W.typeIn K (.ref (He.ga K "TooDeep")) = some (.type "type")),
  He.eqO (PySem.W.nsIn K mainGlobals "TooLong") (some (some (.ref (He.ga K "TooLong")))),
  He.eqO (PySem.W.findIn K (.ref (He.ga K "TooLong")) "__getattribute__") (some (some (.builtin "BaseException.__getattribute__"))),
  He.eqO (PySem.W.findIn K (.ref (He.ga K "TooLong")) "__getattr__") (some none),
  PySem.W.hasDictIn K (He.ga K "TooLong"),
  He.eqO (PySem.W.findIn K (.ref (He.ga K "TooLong")) "__class__") (some (some (.builtin "object.__class__"))),
  decide (PySem.W.mroIn K (He.ga K "TooLong") (.type "object") = some true),
  decide (PySem.W.subIn K (.ref (He.ga K "TooLong")) (.type "ValueError") = some true),
  decide (PySem.W.subIn K (.ref (He.ga K "TooLong")) (.type "BaseException") = some true),
  decide (PySem.W.typeIn K (.ref (He.ga K "TooLong")) = some (.type "type")),
  PySem.W.keepIn K (.ref (He.ga K "TooLong")),
  PySem.W.excIn K (He.ga K "TooLong") [.type "ValueError", .type "Exception", .type "BaseException", .type "object"] "ValueError.__new__",
  He.eqO (PySem.W.nsIn K mainGlobals "Twice") (some (some (.ref (He.ga K "Twice")))),
  PySem.W.hasDictIn K (He.ga K "Twice"),
  decide (PySem.W.typeIn K (.ref (He.ga K "Twice")) = some (.type "type")),
  He.eqO (PySem.W.specialIn K (.builtin "object.__class__") "__get__") (some (some (.builtin "getset_descriptor.__get__"))),
  decide (PySem.W.takesIn K (.builtin "object.__class__") = some true)]
def exL_3 (K : PySem.W.Frag) : List Bool := [
  decide (PySem.W.typeIn K (.ref (He.ga K "Word")) = some (.type "type")),
  He.eqO (PySem.W.nsIn K mainGlobals "is_whole") (some (some (.ref (He.ga K "is_whole")))),
  PySem.W.keepIn K (.ref (He.ga K "is_whole")),
  He.eqO (PySem.W.nsIn K mainGlobals "is_signs") (some (some (.ref (He.ga K "is_signs")))),
  PySem.W.keepIn K (.ref (He.ga K "is_signs")),
  He.eqO (PySem.W.nsIn K mainGlobals "is_word") (some (some (.ref (He.ga K "is_word")))),
  PySem.W.keepIn K (.ref (He.ga K "is_word")),
  He.eqO (PySem.W.nsIn K mainGlobals "_check_word") (some (some (.ref (He.ga K "_check_word")))),
  PySem.W.keepIn K (.ref (He.ga K "_check_word")),
  He.eqO (PySem.W.nsIn K mainGlobals "_check_place") (some (some (.ref (He.ga K "_check_place")))),
  PySem.W.keepIn K (.ref (He.ga K "_check_place")),
  He.eqO (PySem.W.nsIn K mainGlobals "_shortest_again") (some (some (.ref (He.ga K "_shortest_again")))),
  PySem.W.keepIn K (.ref (He.ga K "_shortest_again")),
  He.eqO (PySem.W.nsIn K mainGlobals "_taken_in") (some (some (.ref (He.ga K "_taken_in")))),
  PySem.W.keepIn K (.ref (He.ga K "_taken_in")),
  He.eqO (PySem.W.nsIn K mainGlobals "_least") (some (some (.ref (He.ga K "_least")))),
  PySem.W.keepIn K (.ref (He.ga K "_least")),
  He.eqO (PySem.W.nsIn K mainGlobals "least_word") (some (some (.ref (He.ga K "least_word")))),
  PySem.W.keepIn K (.ref (He.ga K "least_word")),
  He.eqO (PySem.W.nsIn K mainGlobals "letter") (some (some (.ref (He.ga K "letter")))),
  PySem.W.keepIn K (.ref (He.ga K "letter")),
  He.eqO (PySem.W.nsIn K mainGlobals "_place_in") (some (some (.ref (He.ga K "_place_in")))),
  PySem.W.keepIn K (.ref (He.ga K "_place_in")),
  He.eqO (PySem.W.nsIn K mainGlobals "place_of") (some (some (.ref (He.ga K "place_of")))),
  PySem.W.keepIn K (.ref (He.ga K "place_of")),
  He.eqO (PySem.W.nsIn K mainGlobals "first_signs") (some (some (.ref (He.ga K "first_signs")))),
  PySem.W.keepIn K (.ref (He.ga K "first_signs")),
  He.eqO (PySem.W.nsIn K mainGlobals "_on_lengths") (some (some (.ref (He.ga K "_on_lengths")))),
  PySem.W.keepIn K (.ref (He.ga K "_on_lengths")),
  He.eqO (PySem.W.nsIn K mainGlobals "_laid_on") (some (some (.ref (He.ga K "_laid_on")))),
  PySem.W.keepIn K (.ref (He.ga K "_laid_on")),
  He.eqO (PySem.W.nsIn K mainGlobals "on") (some (some (.ref (He.ga K "on")))),
  PySem.W.keepIn K (.ref (He.ga K "on")),
  He.eqO (PySem.W.nsIn K mainGlobals "_turned") (some (some (.ref (He.ga K "_turned")))),
  PySem.W.keepIn K (.ref (He.ga K "_turned")),
  He.eqO (PySem.W.nsIn K mainGlobals "other_of") (some (some (.ref (He.ga K "other_of")))),
  PySem.W.keepIn K (.ref (He.ga K "other_of")),
  He.eqO (PySem.W.nsIn K mainGlobals "_law_draws") (some (some (.ref (He.ga K "_law_draws")))),
  PySem.W.keepIn K (.ref (He.ga K "_law_draws")),
  He.eqO (PySem.W.nsIn K mainGlobals "_law_signs") (some (some (.ref (He.ga K "_law_signs"))))]
def exL_4 (K : PySem.W.Frag) : List Bool := [
  PySem.W.keepIn K (.ref (He.ga K "_law_signs")),
  He.eqO (PySem.W.nsIn K mainGlobals "_law_word") (some (some (.ref (He.ga K "_law_word")))),
  PySem.W.keepIn K (.ref (He.ga K "_law_word")),
  He.eqO (PySem.W.nsIn K mainGlobals "_law_text") (some (some (.ref (He.ga K "_law_text")))),
  PySem.W.keepIn K (.ref (He.ga K "_law_text")),
  He.eqO (PySem.W.nsIn K mainGlobals "_law_names_of") (some (some (.ref (He.ga K "_law_names_of")))),
  PySem.W.keepIn K (.ref (He.ga K "_law_names_of")),
  He.eqO (PySem.W.nsIn K mainGlobals "_law_refused") (some (some (.ref (He.ga K "_law_refused")))),
  PySem.W.keepIn K (.ref (He.ga K "_law_refused")),
  He.eqO (PySem.W.nsIn K mainGlobals "_law_shown") (some (some (.ref (He.ga K "_law_shown")))),
  PySem.W.keepIn K (.ref (He.ga K "_law_shown")),
  He.eqO (PySem.W.nsIn K mainGlobals "law") (some (some (.ref (He.ga K "law")))),
  PySem.W.keepIn K (.ref (He.ga K "law")),
  He.eqO (PySem.W.nsIn K mainGlobals "on_words") (some (some (.ref (He.ga K "on")))),
  He.eqO (PySem.W.findIn K (.ref (He.ga K "Word")) "__init__") (some (some (.ref (He.ma K (He.ga K "Word") "__init__")))),
  PySem.W.keepIn K (.ref (He.ma K (He.ga K "Word") "__init__")),
  PySem.W.isFn K (.ref (He.ma K (He.ga K "Word") "__init__")),
  He.eqO (PySem.W.findIn K (.ref (He.ga K "Word")) "word") (some (some (.ref (He.ma K (He.ga K "Word") "word")))),
  PySem.W.keepIn K (.ref (He.ma K (He.ga K "Word") "word")),
  PySem.W.isFn K (.ref (He.ma K (He.ga K "Word") "word")),
  He.eqO (PySem.W.findIn K (.ref (He.ga K "Word")) "has_one") (some (some (.ref (He.ma K (He.ga K "Word") "has_one")))),
  PySem.W.keepIn K (.ref (He.ma K (He.ga K "Word") "has_one")),
  PySem.W.isFn K (.ref (He.ma K (He.ga K "Word") "has_one")),
  He.eqO (PySem.W.findIn K (.ref (He.ga K "Word")) "on") (some (some (.ref (He.ma K (He.ga K "Word") "on")))),
  PySem.W.keepIn K (.ref (He.ma K (He.ga K "Word") "on")),
  PySem.W.isFn K (.ref (He.ma K (He.ga K "Word") "on")),
  He.eqO (PySem.W.findIn K (.ref (He.ga K "Word")) "other") (some (some (.ref (He.ma K (He.ga K "Word") "other")))),
  PySem.W.keepIn K (.ref (He.ma K (He.ga K "Word") "other")),
  PySem.W.isFn K (.ref (He.ma K (He.ga K "Word") "other")),
  He.eqO (PySem.W.findIn K (.ref (He.ga K "Word")) "__eq__") (some (some (.ref (He.ma K (He.ga K "Word") "__eq__")))),
  PySem.W.keepIn K (.ref (He.ma K (He.ga K "Word") "__eq__")),
  PySem.W.isFn K (.ref (He.ma K (He.ga K "Word") "__eq__")),
  He.eqO (PySem.W.findIn K (.ref (He.ga K "Word")) "__len__") (some (some (.ref (He.ma K (He.ga K "Word") "__len__")))),
  PySem.W.keepIn K (.ref (He.ma K (He.ga K "Word") "__len__")),
  PySem.W.isFn K (.ref (He.ma K (He.ga K "Word") "__len__")),
  He.eqO (PySem.W.findIn K (.ref (He.ga K "Word")) "__str__") (some (some (.ref (He.ma K (He.ga K "Word") "__str__")))),
  PySem.W.keepIn K (.ref (He.ma K (He.ga K "Word") "__str__")),
  PySem.W.isFn K (.ref (He.ma K (He.ga K "Word") "__str__")),
  He.eqO (PySem.W.findIn K (.ref (He.ga K "Word")) "__repr__") (some (some (.ref (He.ma K (He.ga K "Word") "__repr__")))),
  PySem.W.keepIn K (.ref (He.ma K (He.ga K "Word") "__repr__"))]
def exL_5 (K : PySem.W.Frag) : List Bool := [
  PySem.W.isFn K (.ref (He.ma K (He.ga K "Word") "__repr__")),
  decide (PySem.W.subIn K (.ref (He.ga K "NoWord")) (.ref (He.ga K "Dry")) = some false),
  decide (PySem.W.subIn K (.ref (He.ga K "NoWord")) (.ref (He.ga K "LoomError")) = some true),
  decide (PySem.W.subIn K (.ref (He.ga K "NoWord")) (.ref (He.ga K "NoBack")) = some false),
  decide (PySem.W.subIn K (.ref (He.ga K "NoWord")) (.ref (He.ga K "NoBeat")) = some false),
  decide (PySem.W.subIn K (.ref (He.ga K "NoWord")) (.ref (He.ga K "NoBook")) = some false),
  decide (PySem.W.subIn K (.ref (He.ga K "NoWord")) (.ref (He.ga K "NoDeed")) = some false),
  decide (PySem.W.subIn K (.ref (He.ga K "NoWord")) (.ref (He.ga K "NoDrive")) = some false),
  decide (PySem.W.subIn K (.ref (He.ga K "NoWord")) (.ref (He.ga K "NoFace")) = some false),
  decide (PySem.W.subIn K (.ref (He.ga K "NoWord")) (.ref (He.ga K "NoFlow")) = some false),
  decide (PySem.W.subIn K (.ref (He.ga K "NoWord")) (.ref (He.ga K "NoLane")) = some false),
  decide (PySem.W.subIn K (.ref (He.ga K "NoWord")) (.ref (He.ga K "NoLine")) = some false),
  decide (PySem.W.subIn K (.ref (He.ga K "NoWord")) (.ref (He.ga K "NoLoop")) = some false),
  decide (PySem.W.subIn K (.ref (He.ga K "NoWord")) (.ref (He.ga K "NoMeasure")) = some false),
  decide (PySem.W.subIn K (.ref (He.ga K "NoWord")) (.ref (He.ga K "NoModule")) = some false),
  decide (PySem.W.subIn K (.ref (He.ga K "NoWord")) (.ref (He.ga K "NoName")) = some false),
  decide (PySem.W.subIn K (.ref (He.ga K "NoWord")) (.ref (He.ga K "NoNet")) = some false),
  decide (PySem.W.subIn K (.ref (He.ga K "NoWord")) (.ref (He.ga K "NoPart")) = some false),
  decide (PySem.W.subIn K (.ref (He.ga K "NoWord")) (.ref (He.ga K "NoPlace")) = some false),
  decide (PySem.W.subIn K (.ref (He.ga K "NoWord")) (.ref (He.ga K "NoRoom")) = some false),
  decide (PySem.W.subIn K (.ref (He.ga K "NoWord")) (.ref (He.ga K "NoState")) = some false),
  decide (PySem.W.subIn K (.ref (He.ga K "NoWord")) (.ref (He.ga K "NoText")) = some false),
  decide (PySem.W.subIn K (.ref (He.ga K "NoWord")) (.ref (He.ga K "NoTitle")) = some false),
  decide (PySem.W.subIn K (.ref (He.ga K "NoWord")) (.ref (He.ga K "NoWait")) = some false),
  decide (PySem.W.subIn K (.ref (He.ga K "NoWord")) (.ref (He.ga K "NoWay")) = some false),
  decide (PySem.W.subIn K (.ref (He.ga K "NoWord")) (.ref (He.ga K "NoWord")) = some true),
  decide (PySem.W.subIn K (.ref (He.ga K "NoWord")) (.ref (He.ga K "Over")) = some false),
  decide (PySem.W.subIn K (.ref (He.ga K "NoWord")) (.ref (He.ga K "TooDeep")) = some false),
  decide (PySem.W.subIn K (.ref (He.ga K "NoWord")) (.ref (He.ga K "TooLong")) = some false),
  decide (PySem.W.subIn K (.ref (He.ga K "NoWord")) (.ref (He.ga K "Twice")) = some false),
  decide (PySem.W.subIn K (.ref (He.ga K "TooLong")) (.ref (He.ga K "Dry")) = some false),
  decide (PySem.W.subIn K (.ref (He.ga K "TooLong")) (.ref (He.ga K "LoomError")) = some true),
  decide (PySem.W.subIn K (.ref (He.ga K "TooLong")) (.ref (He.ga K "NoBack")) = some false),
  decide (PySem.W.subIn K (.ref (He.ga K "TooLong")) (.ref (He.ga K "NoBeat")) = some false),
  decide (PySem.W.subIn K (.ref (He.ga K "TooLong")) (.ref (He.ga K "NoBook")) = some false),
  decide (PySem.W.subIn K (.ref (He.ga K "TooLong")) (.ref (He.ga K "NoDeed")) = some false),
  decide (PySem.W.subIn K (.ref (He.ga K "TooLong")) (.ref (He.ga K "NoDrive")) = some false),
  decide (PySem.W.subIn K (.ref (He.ga K "TooLong")) (.ref (He.ga K "NoFace")) = some false),
  decide (PySem.W.subIn K (.ref (He.ga K "TooLong")) (.ref (He.ga K "NoFlow")) = some false),
  decide (PySem.W.subIn K (.ref (He.ga K "TooLong")) (.ref (He.ga K "NoLane")) = some false)]
def exL_6 (K : PySem.W.Frag) : List Bool := [
  decide (PySem.W.subIn K (.ref (He.ga K "TooLong")) (.ref (He.ga K "NoLine")) = some false),
  decide (PySem.W.subIn K (.ref (He.ga K "TooLong")) (.ref (He.ga K "NoLoop")) = some false),
  decide (PySem.W.subIn K (.ref (He.ga K "TooLong")) (.ref (He.ga K "NoMeasure")) = some false),
  decide (PySem.W.subIn K (.ref (He.ga K "TooLong")) (.ref (He.ga K "NoModule")) = some false),
  decide (PySem.W.subIn K (.ref (He.ga K "TooLong")) (.ref (He.ga K "NoName")) = some false),
  decide (PySem.W.subIn K (.ref (He.ga K "TooLong")) (.ref (He.ga K "NoNet")) = some false),
  decide (PySem.W.subIn K (.ref (He.ga K "TooLong")) (.ref (He.ga K "NoPart")) = some false),
  decide (PySem.W.subIn K (.ref (He.ga K "TooLong")) (.ref (He.ga K "NoPlace")) = some false),
  decide (PySem.W.subIn K (.ref (He.ga K "TooLong")) (.ref (He.ga K "NoRoom")) = some false),
  decide (PySem.W.subIn K (.ref (He.ga K "TooLong")) (.ref (He.ga K "NoState")) = some false),
  decide (PySem.W.subIn K (.ref (He.ga K "TooLong")) (.ref (He.ga K "NoText")) = some false),
  decide (PySem.W.subIn K (.ref (He.ga K "TooLong")) (.ref (He.ga K "NoTitle")) = some false),
  decide (PySem.W.subIn K (.ref (He.ga K "TooLong")) (.ref (He.ga K "NoWait")) = some false),
  decide (PySem.W.subIn K (.ref (He.ga K "TooLong")) (.ref (He.ga K "NoWay")) = some false),
  decide (PySem.W.subIn K (.ref (He.ga K "TooLong")) (.ref (He.ga K "NoWord")) = some false),
  decide (PySem.W.subIn K (.ref (He.ga K "TooLong")) (.ref (He.ga K "Over")) = some false),
  decide (PySem.W.subIn K (.ref (He.ga K "TooLong")) (.ref (He.ga K "TooDeep")) = some false),
  decide (PySem.W.subIn K (.ref (He.ga K "TooLong")) (.ref (He.ga K "TooLong")) = some true),
  decide (PySem.W.subIn K (.ref (He.ga K "TooLong")) (.ref (He.ga K "Twice")) = some false),
  He.eqO (PySem.W.nsIn K mainGlobals "ValueError") (some none),
  He.eqO (PySem.W.nsIn K mainGlobals "bool") (some none),
  He.eqO (PySem.W.nsIn K mainGlobals "divmod") (some none),
  He.eqO (PySem.W.nsIn K mainGlobals "int") (some none),
  He.eqO (PySem.W.nsIn K mainGlobals "isinstance") (some none),
  He.eqO (PySem.W.nsIn K mainGlobals "len") (some none),
  He.eqO (PySem.W.nsIn K mainGlobals "max") (some none),
  He.eqO (PySem.W.nsIn K mainGlobals "min") (some none),
  He.eqO (PySem.W.nsIn K mainGlobals "range") (some none),
  He.eqO (PySem.W.nsIn K mainGlobals "repr") (some none),
  He.eqO (PySem.W.nsIn K mainGlobals "str") (some none),
  He.eqO (PySem.W.nsIn K mainGlobals "tuple") (some none),
  He.eqO (PySem.W.nsIn K mainGlobals "zip") (some none),
  intB K "MOST_SIGNS" 20000,
  He.eqO (PySem.W.nsIn K mainGlobals "gcd") (some (some (.builtin "math.gcd"))),
  decide (PySem.W.subIn K (.type "tuple") (.ref (He.ga K "Word")) = some false),
  decide (PySem.W.subIn K (.type "str") (.ref (He.ga K "Word")) = some false),
  decide (PySem.W.subIn K (.type "NoneType") (.ref (He.ga K "Word")) = some false),
  He.eqO (PySem.W.findIn K (.ref (He.ga K "Word")) "__class__") (some (some (.builtin "object.__class__"))),
  He.eqO (PySem.W.specialIn K (.builtin "object.__class__") "__get__") (some (some (.builtin "getset_descriptor.__get__"))),
  decide (PySem.W.takesIn K (.builtin "object.__class__") = some true)]
def exL_7 (K : PySem.W.Frag) : List Bool := [
  decide (PySem.W.mroIn K (He.ga K "Word") (.type "object") = some true),
  neB K (He.ga K "Word") (He.ma K (He.ga K "Word") "__eq__")]
def exL (K : PySem.W.Frag) : List Bool := exL_0 K ++ exL_1 K ++ exL_2 K ++ exL_3 K ++ exL_4 K ++ exL_5 K ++ exL_6 K ++ exL_7 K
def exB (K : PySem.W.Frag) : Bool := (exL K).all id
theorem exget {K : PySem.W.Frag} (h : exB K = true) (i : Nat) {b : Bool} (hi : (exL K)[i]? = some b) : b = true := List.all_eq_true.mp h b (List.mem_of_getElem? hi)
abbrev hkX : PySem.W.Hook := He.hookX 5 [] ddL [] [] exB
def obX (s : PySem.W.SharedT) : He.AlX := He.obsX 5 [] ddL [] [] exB (HandSHeadRun.getT s)
theorem obX_eq (s : PySem.W.SharedT) : obX s = hkX.obs s.abs := He.obsX_eq (HandSHeadRun.getT_eq s)
abbrev RX : PySem.W.OpenRow := PySem.W.OpenLaw.row PySem.Challenge.rw_clockloom_k05_words_as_objects
abbrev QX : PySem.Program := PySem.W.view RX.prog [63]
noncomputable def wX (w : World) := HandSHeadRun.wholeF (fun p => HandSHeadRun.stepQ (HandSHeadRun.denQ HandSHeadRun.tabQ) p w) HandSHeadRun.fenceQ 14000 RX.prog
theorem comb3 {a b c d e : Type} {W : Option a} {f : a -> b} {g : a -> c} {h : a -> d × e} {x : b} {y : c} {z : d × e} (e1 : Option.map (fun u => (f u, g u)) W = some (x, y)) (e2 : Option.map (fun u => (h u).1) W = some z.1) (e3 : Option.map (fun u => (h u).2) W = some z.2) : Option.map (fun u => (f u, g u, h u)) W = some (x, y, z) := by
  cases W with
  | none => cases e1
  | some u =>
    have r1 := Option.some.inj e1
    have r2 := Option.some.inj e2
    have r3 := Option.some.inj e3
    show some (f u, g u, h u) = _
    rw [show f u = x from congrArg Prod.fst r1, show g u = y from congrArg Prod.snd r1, show h u = z from Prod.ext r2 r3]
set_option maxHeartbeats 0 in
theorem runA (w : World) : Option.map (fun x => (HandSHeadRun.looksF RX.prog x.fst.heap x.snd.abs, HandSHeadRun.seenQ QX nm_all (PySem.importedModules RX.prog.main.body) (fun s => PySem.W.xlAt QX [] s && PySem.W.recOk RX.records s) x.snd.abs)) (wX w) = some (true, PySem.W.openGood QX nm_all) := by
  kernel_rfl
set_option maxHeartbeats 0 in
theorem runB (w : World) : Option.map (fun x => (obX x.snd).1) (wX w) = some (PySem.W.Hook.val hkX w : He.AlX).1 := by
  kernel_rfl
set_option maxHeartbeats 0 in
theorem runC (w : World) : Option.map (fun x => (obX x.snd).2) (wX w) = some (PySem.W.Hook.val hkX w : He.AlX).2 := by
  kernel_rfl
theorem runX (w : World) : HandSHeadRun.RunEqI RX QX hkX obX 14000 nm_all w := comb3 (runA w) (runB w) (runC w)
set_option maxHeartbeats 0 in
theorem factsX {l : PySem.W.OpenLaw} {w : World} {K : PySem.W.Frag} {h : Heap} {mg : Str → Option Value} {fa : Addr} (X : K.In h) (G : h.Ns mainGlobals mg) (hfa : mg "law" = some (.ref fa)) (cc : He.SaysX [] ddL [] [] exB w h K) :
    ∃ fd : FuncData, (∀ (s : Shared) (v : Value), BindsTo s fd ⟨[v], []⟩ [("_law_script", v)]) ∧ ∀ base : Heap, K.In base → base.Ns mainGlobals mg → FnOk l.prog w K mg base CX0 8 fa fd ["_law_script"] (sp_law K) := by
  have c : exB K = true := cc.more
  have D : He.SaysD [] ddL K := cc.t.d
  obtain ⟨_, ⟨_, _, dV0, kV0, _, _, _, _, _, _, rfl, l0, e0, dv0, kw0⟩, _⟩ := D.def_ 0 (d := dd_0) rfl
  rcases dv0 with ⟨_, rfl⟩ | ⟨z, _⟩
  rotate_left
  · exact absurd rfl z
  obtain ⟨_, ⟨_, _, dV1, kV1, _, _, _, _, _, _, rfl, l1, e1, dv1, kw1⟩, _⟩ := D.def_ 1 (d := dd_1) rfl
  rcases dv1 with ⟨_, rfl⟩ | ⟨z, _⟩
  rotate_left
  · exact absurd rfl z
  obtain ⟨_, ⟨_, _, dV2, kV2, _, _, _, _, _, _, rfl, l2, e2, dv2, kw2⟩, _⟩ := D.def_ 2 (d := dd_2) rfl
  rcases dv2 with ⟨_, rfl⟩ | ⟨z, _⟩
  rotate_left
  · exact absurd rfl z
  obtain ⟨_, ⟨_, _, dV3, kV3, _, _, _, _, _, _, rfl, l3, e3, dv3, kw3⟩, _⟩ := D.def_ 3 (d := dd_3) rfl
  rcases dv3 with ⟨_, rfl⟩ | ⟨z, _⟩
  rotate_left
  · exact absurd rfl z
  obtain ⟨_, ⟨_, _, dV4, kV4, _, _, _, _, _, _, rfl, l4, e4, dv4, kw4⟩, _⟩ := D.def_ 4 (d := dd_4) rfl
  rcases dv4 with ⟨_, rfl⟩ | ⟨z, _⟩
  rotate_left
  · exact absurd rfl z
  obtain ⟨_, ⟨_, _, dV5, kV5, _, _, _, _, _, _, rfl, l5, e5, dv5, kw5⟩, _⟩ := D.def_ 5 (d := dd_5) rfl
  rcases dv5 with ⟨_, rfl⟩ | ⟨z, _⟩
  rotate_left
  · exact absurd rfl z
  obtain ⟨_, ⟨_, _, dV6, kV6, _, _, _, _, _, _, rfl, l6, e6, dv6, kw6⟩, _⟩ := D.def_ 6 (d := dd_6) rfl
  rcases dv6 with ⟨_, rfl⟩ | ⟨z, _⟩
  rotate_left
  · exact absurd rfl z
  obtain ⟨_, ⟨_, _, dV7, kV7, _, _, _, _, _, _, rfl, l7, e7, dv7, kw7⟩, _⟩ := D.def_ 7 (d := dd_7) rfl
  rcases dv7 with ⟨_, rfl⟩ | ⟨z, _⟩
  rotate_left
  · exact absurd rfl z
  obtain ⟨_, ⟨_, _, dV8, kV8, _, _, _, _, _, _, rfl, l8, e8, dv8, kw8⟩, _⟩ := D.def_ 8 (d := dd_8) rfl
  rcases dv8 with ⟨_, rfl⟩ | ⟨z, _⟩
  rotate_left
  · exact absurd rfl z
  obtain ⟨_, ⟨_, _, dV9, kV9, _, _, _, _, _, _, rfl, l9, e9, dv9, kw9⟩, _⟩ := D.def_ 9 (d := dd_9) rfl
  rcases dv9 with ⟨_, rfl⟩ | ⟨z, _⟩
  rotate_left
  · exact absurd rfl z
  obtain ⟨_, ⟨_, _, dV10, kV10, _, _, _, _, _, _, rfl, l10, e10, dv10, kw10⟩, _⟩ := D.def_ 10 (d := dd_10) rfl
  rcases dv10 with ⟨_, rfl⟩ | ⟨z, _⟩
  rotate_left
  · exact absurd rfl z
  obtain ⟨_, ⟨_, _, dV11, kV11, _, _, _, _, _, _, rfl, l11, e11, dv11, kw11⟩, _⟩ := D.def_ 11 (d := dd_11) rfl
  rcases dv11 with ⟨_, rfl⟩ | ⟨z, _⟩
  rotate_left
  · exact absurd rfl z
  obtain ⟨_, ⟨_, _, dV12, kV12, _, _, _, _, _, _, rfl, l12, e12, dv12, kw12⟩, _⟩ := D.def_ 12 (d := dd_12) rfl
  rcases dv12 with ⟨_, rfl⟩ | ⟨z, _⟩
  rotate_left
  · exact absurd rfl z
  obtain ⟨_, ⟨_, _, dV13, kV13, _, _, _, _, _, _, rfl, l13, e13, dv13, kw13⟩, _⟩ := D.def_ 13 (d := dd_13) rfl
  rcases dv13 with ⟨_, rfl⟩ | ⟨z, _⟩
  rotate_left
  · exact absurd rfl z
  obtain ⟨_, ⟨_, _, dV14, kV14, _, _, _, _, _, _, rfl, l14, e14, dv14, kw14⟩, _⟩ := D.def_ 14 (d := dd_14) rfl
  rcases dv14 with ⟨_, rfl⟩ | ⟨z, _⟩
  rotate_left
  · exact absurd rfl z
  obtain ⟨_, ⟨_, _, dV15, kV15, _, _, _, _, _, _, rfl, l15, e15, dv15, kw15⟩, _⟩ := D.def_ 15 (d := dd_15) rfl
  rcases dv15 with ⟨_, rfl⟩ | ⟨z, _⟩
  rotate_left
  · exact absurd rfl z
  rcases kw15 with z | ⟨D15, rfl, hq15⟩
  · cases z
  obtain ⟨_, dn15_0, ru15_0⟩ := hq15 ("most", .int 20000) (by simp [He.DefD.kws, dd_15, He.Dv.v])
  obtain ⟨_, rfl⟩ := ru15_0
  obtain ⟨_, ⟨_, _, dV16, kV16, _, _, _, _, _, _, rfl, l16, e16, dv16, kw16⟩, _⟩ := D.def_ 16 (d := dd_16) rfl
  rcases dv16 with ⟨_, rfl⟩ | ⟨z, _⟩
  rotate_left
  · exact absurd rfl z
  obtain ⟨_, ⟨_, _, dV17, kV17, _, _, _, _, _, _, rfl, l17, e17, dv17, kw17⟩, _⟩ := D.def_ 17 (d := dd_17) rfl
  rcases dv17 with ⟨_, rfl⟩ | ⟨z, _⟩
  rotate_left
  · exact absurd rfl z
  obtain ⟨_, ⟨_, _, dV18, kV18, _, _, _, _, _, _, rfl, l18, e18, dv18, kw18⟩, _⟩ := D.def_ 18 (d := dd_18) rfl
  rcases dv18 with ⟨z, _⟩ | ⟨_, T18, o18, its18, _, rfl, lT18, hd18, rv18⟩
  · cases z
  cases rv18 with
  | cons r rr =>
  cases rr
  obtain ⟨_, rfl⟩ := r
  obtain ⟨_, _, dt18, _⟩ := o18
  have hd18 : dt18 = _ := hd18
  subst hd18
  rcases kw18 with z | ⟨D18, rfl, hq18⟩
  · cases z
  obtain ⟨_, dn18_0, ru18_0⟩ := hq18 ("head", .str "") (by simp [He.DefD.kws, dd_18, He.Dv.v])
  obtain ⟨_, rfl⟩ := ru18_0
  obtain ⟨_, ⟨_, _, dV19, kV19, _, _, _, _, _, _, rfl, l19, e19, dv19, kw19⟩, _⟩ := D.def_ 19 (d := dd_19) rfl
  rcases dv19 with ⟨_, rfl⟩ | ⟨z, _⟩
  rotate_left
  · exact absurd rfl z
  obtain ⟨_, ⟨_, _, dV20, kV20, _, _, _, _, _, _, rfl, l20, e20, dv20, kw20⟩, _⟩ := D.def_ 20 (d := dd_20) rfl
  rcases dv20 with ⟨_, rfl⟩ | ⟨z, _⟩
  rotate_left
  · exact absurd rfl z
  obtain ⟨_, ⟨_, _, dV21, kV21, _, _, _, _, _, _, rfl, l21, e21, dv21, kw21⟩, _⟩ := D.def_ 21 (d := dd_21) rfl
  rcases dv21 with ⟨_, rfl⟩ | ⟨z, _⟩
  rotate_left
  · exact absurd rfl z
  obtain ⟨_, ⟨_, _, dV22, kV22, _, _, _, _, _, _, rfl, l22, e22, dv22, kw22⟩, _⟩ := D.def_ 22 (d := dd_22) rfl
  rcases dv22 with ⟨_, rfl⟩ | ⟨z, _⟩
  rotate_left
  · exact absurd rfl z
  obtain ⟨_, ⟨_, _, dV23, kV23, _, _, _, _, _, _, rfl, l23, e23, dv23, kw23⟩, _⟩ := D.def_ 23 (d := dd_23) rfl
  rcases dv23 with ⟨_, rfl⟩ | ⟨z, _⟩
  rotate_left
  · exact absurd rfl z
  obtain ⟨_, ⟨_, _, dV24, kV24, _, _, _, _, _, _, rfl, l24, e24, dv24, kw24⟩, _⟩ := D.def_ 24 (d := dd_24) rfl
  rcases dv24 with ⟨_, rfl⟩ | ⟨z, _⟩
  rotate_left
  · exact absurd rfl z
  obtain ⟨_, ⟨_, _, dV25, kV25, _, _, _, _, _, _, rfl, l25, e25, dv25, kw25⟩, _⟩ := D.def_ 25 (d := dd_25) rfl
  rcases dv25 with ⟨_, rfl⟩ | ⟨z, _⟩
  rotate_left
  · exact absurd rfl z
  obtain ⟨_, ⟨_, _, dV26, kV26, _, _, _, _, _, _, rfl, l26, e26, dv26, kw26⟩, _⟩ := D.def_ 26 (d := dd_26) rfl
  rcases dv26 with ⟨_, rfl⟩ | ⟨z, _⟩
  rotate_left
  · exact absurd rfl z
  obtain ⟨_, ⟨_, _, dV27, kV27, _, _, _, _, _, _, rfl, l27, e27, dv27, kw27⟩, _⟩ := D.def_ 27 (d := dd_27) rfl
  rcases dv27 with ⟨_, rfl⟩ | ⟨z, _⟩
  rotate_left
  · exact absurd rfl z
  obtain ⟨_, ⟨_, _, dV28, kV28, _, _, _, _, _, _, rfl, l28, e28, dv28, kw28⟩, _⟩ := D.def_ 28 (d := dd_28) rfl
  rcases dv28 with ⟨_, rfl⟩ | ⟨z, _⟩
  rotate_left
  · exact absurd rfl z
  obtain ⟨_, ⟨_, _, dV29, kV29, _, _, _, _, _, _, rfl, l29, e29, dv29, kw29⟩, _⟩ := D.def_ 29 (d := dd_29) rfl
  rcases dv29 with ⟨_, rfl⟩ | ⟨z, _⟩
  rotate_left
  · exact absurd rfl z
  obtain ⟨_, ⟨_, _, dV30, kV30, _, _, _, _, _, _, rfl, l30, e30, dv30, kw30⟩, _⟩ := D.def_ 30 (d := dd_30) rfl
  rcases dv30 with ⟨_, rfl⟩ | ⟨z, _⟩
  rotate_left
  · exact absurd rfl z
  obtain ⟨_, ⟨_, _, dV31, kV31, _, _, _, _, _, _, rfl, l31, e31, dv31, kw31⟩, _⟩ := D.def_ 31 (d := dd_31) rfl
  rcases dv31 with ⟨_, rfl⟩ | ⟨z, _⟩
  rotate_left
  · exact absurd rfl z
  obtain ⟨_, ⟨_, _, dV32, kV32, _, _, _, _, _, _, rfl, l32, e32, dv32, kw32⟩, _⟩ := D.def_ 32 (d := dd_32) rfl
  rcases dv32 with ⟨_, rfl⟩ | ⟨z, _⟩
  rotate_left
  · exact absurd rfl z
  obtain ⟨_, ⟨_, _, dV33, kV33, _, _, _, _, _, _, rfl, l33, e33, dv33, kw33⟩, _⟩ := D.def_ 33 (d := dd_33) rfl
  rcases dv33 with ⟨_, rfl⟩ | ⟨z, _⟩
  rotate_left
  · exact absurd rfl z
  obtain ⟨_, ⟨_, _, dV34, kV34, _, _, _, _, _, _, rfl, l34, e34, dv34, kw34⟩, _⟩ := D.def_ 34 (d := dd_34) rfl
  rcases dv34 with ⟨_, rfl⟩ | ⟨z, _⟩
  rotate_left
  · exact absurd rfl z
  obtain ⟨_, iv_MOST_SIGNS⟩ := intB_ok (exget c 272 rfl)
  exact all_mk X G hfa
    (He.eqO_ok (exget c 0 rfl))
    (exget c 1 rfl)
    (exget c 2 rfl)
    (exget c 3 rfl)
    (exget c 4 rfl)
    (exget c 5 rfl)
    (He.eqO_ok (exget c 6 rfl))
    (He.eqO_ok (exget c 7 rfl))
    (He.eqO_ok (exget c 8 rfl))
    (He.eqO_ok (exget c 9 rfl))
    (exget c 10 rfl)
    (of_decide_eq_true (exget c 11 rfl))
    (He.eqO_ok (exget c 12 rfl))
    (He.eqO_ok (exget c 13 rfl))
    (He.eqO_ok (exget c 14 rfl))
    (exget c 15 rfl)
    (He.eqO_ok (exget c 16 rfl))
    (of_decide_eq_true (exget c 17 rfl))
    (of_decide_eq_true (exget c 18 rfl))
    (of_decide_eq_true (exget c 19 rfl))
    (of_decide_eq_true (exget c 20 rfl))
    (He.eqO_ok (exget c 21 rfl))
    (exget c 22 rfl)
    (of_decide_eq_true (exget c 23 rfl))
    (He.eqO_ok (exget c 24 rfl))
    (exget c 25 rfl)
    (of_decide_eq_true (exget c 26 rfl))
    (He.eqO_ok (exget c 27 rfl))
    (exget c 28 rfl)
    (of_decide_eq_true (exget c 29 rfl))
    (He.eqO_ok (exget c 30 rfl))
    (exget c 31 rfl)
    (of_decide_eq_true (exget c 32 rfl))
    (He.eqO_ok (exget c 33 rfl))
    (exget c 34 rfl)
    (of_decide_eq_true (exget c 35 rfl))
    (He.eqO_ok (exget c 36 rfl))
    (exget c 37 rfl)
    (of_decide_eq_true (exget c 38 rfl))
    (He.eqO_ok (exget c 39 rfl))
    (exget c 40 rfl)
    (of_decide_eq_true (exget c 41 rfl))
    (He.eqO_ok (exget c 42 rfl))
    (exget c 43 rfl)
    (of_decide_eq_true (exget c 44 rfl))
    (He.eqO_ok (exget c 45 rfl))
    (exget c 46 rfl)
    (of_decide_eq_true (exget c 47 rfl))
    (He.eqO_ok (exget c 48 rfl))
    (exget c 49 rfl)
    (of_decide_eq_true (exget c 50 rfl))
    (He.eqO_ok (exget c 51 rfl))
    (exget c 52 rfl)
    (of_decide_eq_true (exget c 53 rfl))
    (He.eqO_ok (exget c 54 rfl))
    (exget c 55 rfl)
    (of_decide_eq_true (exget c 56 rfl))
    (He.eqO_ok (exget c 57 rfl))
    (exget c 58 rfl)
    (of_decide_eq_true (exget c 59 rfl))
    (He.eqO_ok (exget c 60 rfl))
    (exget c 61 rfl)
    (of_decide_eq_true (exget c 62 rfl))
    (He.eqO_ok (exget c 63 rfl))
    (exget c 64 rfl)
    (of_decide_eq_true (exget c 65 rfl))
    (He.eqO_ok (exget c 66 rfl))
    (exget c 67 rfl)
    (of_decide_eq_true (exget c 68 rfl))
    (He.eqO_ok (exget c 69 rfl))
    (exget c 70 rfl)
    (of_decide_eq_true (exget c 71 rfl))
    (He.eqO_ok (exget c 72 rfl))
    (exget c 73 rfl)
    (of_decide_eq_true (exget c 74 rfl))
    (He.eqO_ok (exget c 75 rfl))
    (exget c 76 rfl)
    (of_decide_eq_true (exget c 77 rfl))
    (He.eqO_ok (exget c 78 rfl))
    (exget c 79 rfl)
    (of_decide_eq_true (exget c 80 rfl))
    (He.eqO_ok (exget c 81 rfl))
    (exget c 82 rfl)
    (of_decide_eq_true (exget c 83 rfl))
    (He.eqO_ok (exget c 84 rfl))
    (exget c 85 rfl)
    (of_decide_eq_true (exget c 86 rfl))
    (He.eqO_ok (exget c 87 rfl))
    (He.eqO_ok (exget c 88 rfl))
    (He.eqO_ok (exget c 89 rfl))
    (exget c 90 rfl)
    (He.eqO_ok (exget c 91 rfl))
    (of_decide_eq_true (exget c 92 rfl))
    (of_decide_eq_true (exget c 93 rfl))
    (of_decide_eq_true (exget c 94 rfl))
    (of_decide_eq_true (exget c 95 rfl))
    (exget c 96 rfl)
    (exget c 97 rfl)
    (He.eqO_ok (exget c 98 rfl))
    (exget c 99 rfl)
    (of_decide_eq_true (exget c 100 rfl))
    (He.eqO_ok (exget c 101 rfl))
    (exget c 102 rfl)
    (of_decide_eq_true (exget c 103 rfl))
    (He.eqO_ok (exget c 104 rfl))
    (He.eqO_ok (exget c 105 rfl))
    (He.eqO_ok (exget c 106 rfl))
    (exget c 107 rfl)
    (He.eqO_ok (exget c 108 rfl))
    (of_decide_eq_true (exget c 109 rfl))
    (of_decide_eq_true (exget c 110 rfl))
    (of_decide_eq_true (exget c 111 rfl))
    (of_decide_eq_true (exget c 112 rfl))
    (exget c 113 rfl)
    (exget c 114 rfl)
    (He.eqO_ok (exget c 115 rfl))
    (exget c 116 rfl)
    (of_decide_eq_true (exget c 117 rfl))
    (He.eqO_ok (exget c 118 rfl))
    (of_decide_eq_true (exget c 119 rfl))
    (of_decide_eq_true (exget c 120 rfl))
    (He.eqO_ok (exget c 121 rfl))
    l0
    e0
    (exget c 122 rfl)
    (He.eqO_ok (exget c 123 rfl))
    l1
    e1
    (exget c 124 rfl)
    (He.eqO_ok (exget c 125 rfl))
    l2
    e2
    (exget c 126 rfl)
    (He.eqO_ok (exget c 127 rfl))
    l3
    e3
    (exget c 128 rfl)
    (He.eqO_ok (exget c 129 rfl))
    l4
    e4
    (exget c 130 rfl)
    (He.eqO_ok (exget c 131 rfl))
    l5
    e5
    (exget c 132 rfl)
    (He.eqO_ok (exget c 133 rfl))
    l6
    e6
    (exget c 134 rfl)
    (He.eqO_ok (exget c 135 rfl))
    l7
    e7
    (exget c 136 rfl)
    (He.eqO_ok (exget c 137 rfl))
    l8
    e8
    (exget c 138 rfl)
    (He.eqO_ok (exget c 139 rfl))
    l9
    e9
    (exget c 140 rfl)
    (He.eqO_ok (exget c 141 rfl))
    l10
    e10
    (exget c 142 rfl)
    (He.eqO_ok (exget c 143 rfl))
    l11
    e11
    (exget c 144 rfl)
    (He.eqO_ok (exget c 145 rfl))
    l12
    e12
    (exget c 146 rfl)
    (He.eqO_ok (exget c 147 rfl))
    l13
    e13
    (exget c 148 rfl)
    (He.eqO_ok (exget c 149 rfl))
    l14
    e14
    (exget c 150 rfl)
    (He.eqO_ok (exget c 151 rfl))
    l15
    e15
    (exget c 152 rfl)
    dn15_0
    (He.eqO_ok (exget c 153 rfl))
    l16
    e16
    (exget c 154 rfl)
    (He.eqO_ok (exget c 155 rfl))
    l17
    e17
    (exget c 156 rfl)
    (He.eqO_ok (exget c 157 rfl))
    l27
    e27
    (exget c 158 rfl)
    (He.eqO_ok (exget c 159 rfl))
    l28
    e28
    (exget c 160 rfl)
    (He.eqO_ok (exget c 161 rfl))
    l29
    e29
    (exget c 162 rfl)
    (He.eqO_ok (exget c 163 rfl))
    l30
    e30
    (exget c 164 rfl)
    (He.eqO_ok (exget c 165 rfl))
    l31
    e31
    (exget c 166 rfl)
    (He.eqO_ok (exget c 167 rfl))
    l32
    e32
    (exget c 168 rfl)
    (He.eqO_ok (exget c 169 rfl))
    l33
    e33
    (exget c 170 rfl)
    (He.eqO_ok (exget c 171 rfl))
    l34
    e34
    (exget c 172 rfl)
    (He.eqO_ok (exget c 173 rfl))
    (He.eqO_ok (exget c 174 rfl))
    l18
    e18
    (exget c 175 rfl)
    (exget c 176 rfl)
    lT18
    dn18_0
    (He.eqO_ok (exget c 177 rfl))
    l19
    e19
    (exget c 178 rfl)
    (exget c 179 rfl)
    (He.eqO_ok (exget c 180 rfl))
    l20
    e20
    (exget c 181 rfl)
    (exget c 182 rfl)
    (He.eqO_ok (exget c 183 rfl))
    l21
    e21
    (exget c 184 rfl)
    (exget c 185 rfl)
    (He.eqO_ok (exget c 186 rfl))
    l22
    e22
    (exget c 187 rfl)
    (exget c 188 rfl)
    (He.eqO_ok (exget c 189 rfl))
    l23
    e23
    (exget c 190 rfl)
    (exget c 191 rfl)
    (He.eqO_ok (exget c 192 rfl))
    l24
    e24
    (exget c 193 rfl)
    (exget c 194 rfl)
    (He.eqO_ok (exget c 195 rfl))
    l25
    e25
    (exget c 196 rfl)
    (exget c 197 rfl)
    (He.eqO_ok (exget c 198 rfl))
    l26
    e26
    (exget c 199 rfl)
    (exget c 200 rfl)
    (of_decide_eq_true (exget c 201 rfl))
    (of_decide_eq_true (exget c 202 rfl))
    (of_decide_eq_true (exget c 203 rfl))
    (of_decide_eq_true (exget c 204 rfl))
    (of_decide_eq_true (exget c 205 rfl))
    (of_decide_eq_true (exget c 206 rfl))
    (of_decide_eq_true (exget c 207 rfl))
    (of_decide_eq_true (exget c 208 rfl))
    (of_decide_eq_true (exget c 209 rfl))
    (of_decide_eq_true (exget c 210 rfl))
    (of_decide_eq_true (exget c 211 rfl))
    (of_decide_eq_true (exget c 212 rfl))
    (of_decide_eq_true (exget c 213 rfl))
    (of_decide_eq_true (exget c 214 rfl))
    (of_decide_eq_true (exget c 215 rfl))
    (of_decide_eq_true (exget c 216 rfl))
    (of_decide_eq_true (exget c 217 rfl))
    (of_decide_eq_true (exget c 218 rfl))
    (of_decide_eq_true (exget c 219 rfl))
    (of_decide_eq_true (exget c 220 rfl))
    (of_decide_eq_true (exget c 221 rfl))
    (of_decide_eq_true (exget c 222 rfl))
    (of_decide_eq_true (exget c 223 rfl))
    (of_decide_eq_true (exget c 224 rfl))
    (of_decide_eq_true (exget c 225 rfl))
    (of_decide_eq_true (exget c 226 rfl))
    (of_decide_eq_true (exget c 227 rfl))
    (of_decide_eq_true (exget c 228 rfl))
    (of_decide_eq_true (exget c 229 rfl))
    (of_decide_eq_true (exget c 230 rfl))
    (of_decide_eq_true (exget c 231 rfl))
    (of_decide_eq_true (exget c 232 rfl))
    (of_decide_eq_true (exget c 233 rfl))
    (of_decide_eq_true (exget c 234 rfl))
    (of_decide_eq_true (exget c 235 rfl))
    (of_decide_eq_true (exget c 236 rfl))
    (of_decide_eq_true (exget c 237 rfl))
    (of_decide_eq_true (exget c 238 rfl))
    (of_decide_eq_true (exget c 239 rfl))
    (of_decide_eq_true (exget c 240 rfl))
    (of_decide_eq_true (exget c 241 rfl))
    (of_decide_eq_true (exget c 242 rfl))
    (of_decide_eq_true (exget c 243 rfl))
    (of_decide_eq_true (exget c 244 rfl))
    (of_decide_eq_true (exget c 245 rfl))
    (of_decide_eq_true (exget c 246 rfl))
    (of_decide_eq_true (exget c 247 rfl))
    (of_decide_eq_true (exget c 248 rfl))
    (of_decide_eq_true (exget c 249 rfl))
    (of_decide_eq_true (exget c 250 rfl))
    (of_decide_eq_true (exget c 251 rfl))
    (of_decide_eq_true (exget c 252 rfl))
    (of_decide_eq_true (exget c 253 rfl))
    (of_decide_eq_true (exget c 254 rfl))
    (of_decide_eq_true (exget c 255 rfl))
    (of_decide_eq_true (exget c 256 rfl))
    (of_decide_eq_true (exget c 257 rfl))
    (of_decide_eq_true (exget c 258 rfl))
    (He.eqO_ok (exget c 259 rfl))
    (He.eqO_ok (exget c 260 rfl))
    (He.eqO_ok (exget c 261 rfl))
    (He.eqO_ok (exget c 262 rfl))
    (He.eqO_ok (exget c 263 rfl))
    (He.eqO_ok (exget c 264 rfl))
    (He.eqO_ok (exget c 265 rfl))
    (He.eqO_ok (exget c 266 rfl))
    (He.eqO_ok (exget c 267 rfl))
    (He.eqO_ok (exget c 268 rfl))
    (He.eqO_ok (exget c 269 rfl))
    (He.eqO_ok (exget c 270 rfl))
    (He.eqO_ok (exget c 271 rfl))
    iv_MOST_SIGNS
    (He.eqO_ok (exget c 273 rfl))
    (of_decide_eq_true (exget c 274 rfl))
    (of_decide_eq_true (exget c 275 rfl))
    (of_decide_eq_true (exget c 276 rfl))
    ⟨(He.eqO_ok (exget c 277 rfl)), (He.eqO_ok (exget c 278 rfl)), (of_decide_eq_true (exget c 279 rfl)), (of_decide_eq_true (exget c 280 rfl))⟩
    (neB_ok (exget c 281 rfl))
end WK
open PySem PySem.W PySem.Calls PyProof.Rows
set_option maxRecDepth 100000 in
set_option maxHeartbeats 0 in
theorem PySem.Challenge.cw_clockloom_k05_words_as_objects_holds : PySem.Challenge.rw_clockloom_k05_words_as_objects.Holds := by
  w_on; o_law
  refine HandSHeadRun.head_imp (r := OpenLaw.row PySem.Challenge.rw_clockloom_k05_words_as_objects) (q := view (OpenLaw.row PySem.Challenge.rw_clockloom_k05_words_as_objects).prog [63]) (H := WK.hkX) (ob := WK.obX) (M := 14000) (loose := WK.nm_all) (d := HandSHeadRun.topDef (OpenLaw.row PySem.Challenge.rw_clockloom_k05_words_as_objects).prog 63) (kwd := []) WK.obX_eq
    WK.runX (by kernel_rfl) (by kernel_rfl) (by kernel_rfl) (by rfl) (by first | assumption | decide +kernel) (by decide +kernel) ⟨rfl, rfl, rfl, rfl, rfl, by decide +kernel⟩ ?hw ?hc
  case hw => w_witness2
  case hc =>
    refine L2.walk_ofE (l := PySem.Challenge.rw_clockloom_k05_words_as_objects) (n := 63) (k := 8) (x := "_law_script") (CX := L2.CX0) rfl (by decide) (by kernel_rfl) ⟨rfl, by decide, by decide⟩ ?F (fun _ _ _ _ z => z)
    intro w mg fa h Y G hmg0
    obtain ⟨K, KX, c⟩ := Y
    have hmg : mg ("law" : PySem.Str) = some (.ref fa) := by
      have e : (HandSHeadRun.topDef (OpenLaw.row PySem.Challenge.rw_clockloom_k05_words_as_objects).prog 63).name = ("law" : PySem.Str) := by kernel_rfl
      rw [← e]
      exact hmg0
    obtain ⟨fd, hb, hF⟩ := WK.factsX (l := PySem.Challenge.rw_clockloom_k05_words_as_objects) KX G hmg c
    exact ⟨K, fd, WK.sp_law _, KX, hb, fun H a ns hl _ hS => ⟨a, ns, rfl, hS, hl, fun _ => rfl⟩, hF⟩
