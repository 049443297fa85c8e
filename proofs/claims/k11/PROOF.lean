import PyProof.Rows.All
import Wide.All
import Wide.Once
import OpenK.AllK
import Wide.FinOn
import KE.KStateDown
import HandS.Head0
import HandS.Head1
import HandS.Head2
import HandS.Head3
import HandS.HeadEnd
import HandS.HeadHook1
import HandS.HeadHook2
import HandS.HeadHook3
import HandS.HeadHook4
import HandS.ForMost
import HandS.IsInst
import HandS.Style
import HandS.Flow
import HandS.DictComp
import HandS.SetKeys
import HandS.WideBits
import HandS.Wide
import HandS.Defaults
import HandS.MakeKwOnly
import HandS.Small
import HandS.Evl
import HandS.Star
import HandS.Base
import HandS.Call
import HandS.List
import HandS.Comp
import HandS.Ends
import HandS.Iter
import HandS.Text
import HandS.Words
import HandS.StrMore
import HandS.TupAny
import HandS.WordsDict
import HandS.Exc
import HandS.ExcOwn
import HandS.ExcInit
import HandS.ExcField
import HandS.TryOnly
import HandS.WordsExc
import KE.KExcIs
import HandS.Gcd
import KE.GoesMore
import HandS.Walk
import PyProof.ReprRoads
import HandS.ExcIs
import HandS.CallLocal
import HandS.Strs
import KE.GoesEnum
import PyProof.FitsInt
import HandS.FStrTup
import HandS.Codes
import HandS.RaiseMore
import PyProof.FString2
import PyProof.Rows.ReprOcc
import PyProof.Rows.ReprShort
import PyProof.P3Eq
import PySem.Challenge.RW_clockloom_k11_places_of_modules
set_option Elab.async false
set_option linter.all false
set_option maxRecDepth 100000
set_option maxHeartbeats 2000000
/-! things by their worth alone: what a def does to trees of None, truths, numbers, texts, tuples, lists -/
namespace WD
open PySem PySem.Spec PyProof.Rows L2
/-- a dict of texts, each led to True -/
def keysV (ks : List Str) : List (Key × V) := ks.map fun k => (Sum.inr k, V.bl true)
def keysD (ks : List Str) : List (PyData × PyData) := ks.map fun k => (.str k, .bool true)
mutual
/-- v is the thing d; its lists lie where N says -/
inductive Dn (K : PySem.W.Frag) (H : Hp) (N : Addr → Prop) : V → PyData → Prop
  | non : Dn K H N .non .none
  | bl (b : Bool) : Dn K H N (.bl b) (.bool b)
  | int (i : Int) : Dn K H N (.int i) (.int i)
  | str (x : Str) : Dn K H N (.str x) (.str x)
  | lst {a : Addr} {xs : List V} {ds : List PyData} (h : H a = some (.lst xs)) (n : N a) (t : Dns K H N xs ds) : Dn K H N (.ref a) (.list ds)
  | tup {a : Addr} {xs : List V} {ds : List PyData} (h : SqT K H a xs) (t : Dns K H N xs ds) : Dn K H N (.ref a) (.tuple ds)
  | dct {a : Addr} {ks : List Str} (h : H a = some (.dK (keysV ks))) (n : N a) : Dn K H N (.ref a) (.dict (keysD ks))
inductive Dns (K : PySem.W.Frag) (H : Hp) (N : Addr → Prop) : List V → List PyData → Prop
  | nil : Dns K H N [] []
  | cons {v : V} {vs : List V} {d : PyData} {ds : List PyData} (h : Dn K H N v d) (t : Dns K H N vs ds) : Dns K H N (v :: vs) (d :: ds)
end
/-- what lies where N says stays, tuples too -/
structure Kp (K : PySem.W.Frag) (N : Addr → Prop) (H H' : Hp) : Prop where
  n : ∀ b o, N b → H b = some o → H' b = some o
  t : ∀ b xs, SqT K H b xs → SqT K H' b xs
theorem Kp.refl {K : PySem.W.Frag} {N : Addr → Prop} {H : Hp} : Kp K N H H := ⟨fun _ _ _ h => h, fun _ _ h => h⟩
theorem Kp.trans {K : PySem.W.Frag} {N N' : Addr → Prop} {H H1 H2 : Hp} (a : Kp K N H H1) (b : Kp K N' H1 H2) (i : ∀ x, N x → N' x) : Kp K N H H2 :=
  ⟨fun x o n h => b.n x o (i x n) (a.n x o n h), fun x xs h => b.t x xs (a.t x xs h)⟩
theorem Kp.sub {K : PySem.W.Frag} {N N' : Addr → Prop} {H H1 : Hp} (a : Kp K N' H H1) (i : ∀ x, N x → N' x) : Kp K N H H1 := ⟨fun x o n h => a.n x o (i x n) h, a.t⟩
theorem rd_same {H H' : Hp} (s : Same H H') {a : Addr} {u : HO} (h : Rd H a u) : Rd H' a u := by
  rcases h with h | ⟨o, h⟩
  · exact .inl (s _ _ h)
  · exact .inr ⟨o, s _ _ h⟩
theorem sqT_same {K : PySem.W.Frag} {H H' : Hp} (s : Same H H') {a : Addr} {xs : List V} (h : SqT K H a xs) : SqT K H' a xs := by
  rcases h with h | h
  · exact .inl (rd_same s h)
  · exact .inr h
theorem Kp.same {K : PySem.W.Frag} {N : Addr → Prop} {H H' : Hp} (s : Same H H') : Kp K N H H' := ⟨fun b o _ h => s b o h, fun _ _ h => sqT_same s h⟩
theorem same_upd {H : Hp} {p : Addr} {o : HO} (h : H p = none) : Same H (upd H p o) := fun b x e => by
  rw [upd_ne (ne_of_none e h)]
  exact e
theorem Kp.upd {K : PySem.W.Frag} {N : Addr → Prop} {H : Hp} {p : Addr} {o : HO} (h : H p = none) : Kp K N H (upd H p o) := .same (same_upd h)
/-- a list is written that N hasn't -/
theorem Kp.set {K : PySem.W.Frag} {N : Addr → Prop} {H : Hp} {p : Addr} {xs : List V} {o : HO} (h : H p = some (.lst xs)) (n : ¬ N p) : Kp K N H (L2.upd H p o) :=
  ⟨fun b u nb e => by rw [upd_ne (fun z => n (by rw [← z]; exact nb))]; exact e, fun b ys e => by
    rcases e with (e | ⟨u, e⟩) | e
    · exact .inl (.inl (by rw [upd_ne (ne_of e h (by intro z; cases z))]; exact e))
    · exact .inl (.inr ⟨u, by rw [upd_ne (ne_of e h (by intro z; cases z))]; exact e⟩)
    · exact .inr e⟩
mutual
theorem Dn.mono {K : PySem.W.Frag} {H H' : Hp} {N N' : Addr → Prop} (k : Kp K N H H') (i : ∀ b, N b → N' b) : ∀ {d : PyData} {v : V}, Dn K H N v d → Dn K H' N' v d
  | _, _, .non => .non
  | _, _, .bl b => .bl b
  | _, _, .int i => .int i
  | _, _, .str x => .str x
  | _, _, .lst h n t => .lst (k.n _ _ n h) (i _ n) (Dns.mono k i t)
  | _, _, .tup h t => .tup (k.t _ _ h) (Dns.mono k i t)
  | _, _, .dct h n => .dct (k.n _ _ n h) (i _ n)
theorem Dns.mono {K : PySem.W.Frag} {H H' : Hp} {N N' : Addr → Prop} (k : Kp K N H H') (i : ∀ b, N b → N' b) : ∀ {ds : List PyData} {vs : List V}, Dns K H N vs ds → Dns K H' N' vs ds
  | _, _, .nil => .nil
  | _, _, .cons h t => .cons (Dn.mono k i h) (Dns.mono k i t)
end
theorem Dns.at {K : PySem.W.Frag} {H : Hp} {N : Addr → Prop} : ∀ {vs : List V} {ds : List PyData} {i : Nat} {d : PyData}, Dns K H N vs ds → ds[i]? = some d → ∃ v, vs[i]? = some v ∧ Dn K H N v d
  | [], _, _, _, .nil, e => by cases e
  | _ :: _, _ :: _, 0, _, .cons h _, e => by
    cases e
    exact ⟨_, rfl, h⟩
  | _ :: _, _ :: _, i + 1, _, .cons _ t, e => Dns.at (i := i) t e
theorem Dns.at' {K : PySem.W.Frag} {H : Hp} {N : Addr → Prop} : ∀ {vs : List V} {ds : List PyData} {i : Nat} {v : V}, Dns K H N vs ds → vs[i]? = some v → ∃ d, ds[i]? = some d ∧ Dn K H N v d
  | [], _, _, _, .nil, e => by cases e
  | _ :: _, _ :: _, 0, _, .cons h _, e => by
    cases e
    exact ⟨_, rfl, h⟩
  | _ :: _, _ :: _, i + 1, _, .cons _ t, e => Dns.at' (i := i) t e
theorem Dns.len {K : PySem.W.Frag} {H : Hp} {N : Addr → Prop} : ∀ {vs : List V} {ds : List PyData}, Dns K H N vs ds → vs.length = ds.length
  | [], _, .nil => rfl
  | _ :: _, _, .cons _ t => by rw [List.length_cons, List.length_cons, t.len]
theorem Dns.append {K : PySem.W.Frag} {H : Hp} {N : Addr → Prop} : ∀ {vs us : List V} {ds es : List PyData}, Dns K H N vs ds → Dns K H N us es → Dns K H N (vs ++ us) (ds ++ es)
  | _, _, _, _, .nil, b => b
  | _, _, _, _, .cons h t, b => .cons h (t.append b)
theorem Dns.take {K : PySem.W.Frag} {H : Hp} {N : Addr → Prop} : ∀ {vs : List V} {ds : List PyData} (n : Nat), Dns K H N vs ds → Dns K H N (vs.take n) (ds.take n)
  | _, _, 0, _ => .nil
  | _, _, _ + 1, .nil => .nil
  | _, _, n + 1, .cons h t => .cons h (t.take n)
theorem Dns.drop {K : PySem.W.Frag} {H : Hp} {N : Addr → Prop} : ∀ {vs : List V} {ds : List PyData} (n : Nat), Dns K H N vs ds → Dns K H N (vs.drop n) (ds.drop n)
  | _, _, 0, t => t
  | _, _, _ + 1, .nil => .nil
  | _, _, n + 1, .cons _ t => t.drop n
theorem Dns.set {K : PySem.W.Frag} {H : Hp} {N : Addr → Prop} {v : V} {d : PyData} (h : Dn K H N v d) : ∀ {vs : List V} {ds : List PyData} (n : Nat), Dns K H N vs ds → Dns K H N (vs.set n v) (ds.set n d)
  | _, _, _, .nil => .nil
  | _, _, 0, .cons _ t => .cons h t
  | _, _, n + 1, .cons a t => .cons a (Dns.set h n t)
theorem Dns.erase {K : PySem.W.Frag} {H : Hp} {N : Addr → Prop} : ∀ {vs : List V} {ds : List PyData} (n : Nat), Dns K H N vs ds → Dns K H N (vs.eraseIdx n) (ds.eraseIdx n)
  | _, _, _, .nil => .nil
  | _, _, 0, .cons _ t => t
  | _, _, n + 1, .cons a t => .cons a (t.erase n)
theorem Dns.reverse {K : PySem.W.Frag} {H : Hp} {N : Addr → Prop} : ∀ {vs : List V} {ds : List PyData}, Dns K H N vs ds → Dns K H N vs.reverse ds.reverse
  | _, _, .nil => .nil
  | _, _, .cons h t => by
    rw [List.reverse_cons, List.reverse_cons]
    exact t.reverse.append (.cons h .nil)
mutual
/-- without a dict -/
def noDict : PyData → Bool
  | .list ds | .tuple ds => noDicts ds
  | .dict _ => false
  | _ => true
def noDicts : List PyData → Bool
  | [] => true
  | d :: ds => noDict d && noDicts ds
end
mutual
theorem Dn.dp {K : PySem.W.Frag} {H : Hp} {N : Addr → Prop} : ∀ {d : PyData} {v : V}, noDict d = true → Dn K H N v d → Dp K H v d
  | _, _, _, .non => .non
  | _, _, _, .bl b => .bl b
  | _, _, _, .int i => .int i
  | _, _, _, .str x => .str x
  | _, _, q, .lst h n t => .lst (SqL.of h) (Dns.dp (by simpa only [noDict] using q) t)
  | _, _, q, .tup h t => .tup h (Dns.dp (by simpa only [noDict] using q) t)
  | _, _, q, .dct h n => by simp [noDict] at q
theorem Dns.dp {K : PySem.W.Frag} {H : Hp} {N : Addr → Prop} : ∀ {ds : List PyData} {vs : List V}, noDicts ds = true → Dns K H N vs ds → DpAll K H vs ds
  | _, _, _, .nil => .nil
  | _, _, q, .cons h t => by
    simp only [noDicts, Bool.and_eq_true] at q
    exact .cons (Dn.dp q.1 h) (Dns.dp q.2 t)
end

/-! ### what a def's names hold -/
inductive En where
  | un
  | dat (d : PyData)
  | own (ds : List PyData)
/-- the names, how often was drawn -/
structure Env where
  sl : List En
  went : Nat
def Env.at (ρ : Env) (i : Nat) : En := ρ.sl.getD i .un
def Env.put (ρ : Env) (i : Nat) (e : En) : Env := ⟨ρ.sl.set i e, ρ.went⟩
/-- what stays through a def: the heap at its begin, what others may change, what of it may be told on, what holds of the heap by draws, names that hold other things -/
structure Ctx where
  K : PySem.W.Frag
  H0 : Hp
  M : Addr → Prop
  N0 : Addr → Prop
  J : Nat → (Addr → Prop) → Hp → Prop
  fx : List Nat
  fv : V
structure Ctx.Ok (C : Ctx) : Prop where
  jm : ∀ {n N H H'}, Kp C.K (fun b => N b ∨ C.M b) H H' → C.J n N H → C.J n N H'
structure Rep (C : Ctx) (σ : L2.St) (ρ : Env) (N : Addr → Prop) (H : Hp) : Prop where
  len : σ.length = ρ.sl.length
  dat : ∀ i d, ρ.at i = .dat d → ∃ v, σ[i]? = some (some v) ∧ Dn C.K H N v d
  own : ∀ i ds, ρ.at i = .own ds → ∃ a vs, σ[i]? = some (some (.ref a)) ∧ H a = some (.lst vs) ∧ Dns C.K H N vs ds ∧ ¬ N a ∧ C.H0 a = none ∧ ¬ C.M a
  sep : ∀ i j ds es a, i ≠ j → ρ.at i = .own ds → ρ.at j = .own es → σ[i]? = some (some (.ref a)) → σ[j]? = some (some (.ref a)) → False
  fix : ∀ p ∈ C.fx, σ[p]? = some (some C.fv) ∧ ρ.at p = .un
  old : ∀ b o, C.H0 b = some o → ¬ C.M b → H b = some o
  new : ∀ b, N b → (C.N0 b ∨ C.H0 b = none) ∧ ¬ C.M b
  has : ∀ b, N b → H b ≠ none
  mh : ∀ b, C.M b → ∃ xs, H b = some (.lst xs)
  j : ∃ N1 : Addr → Prop, (∀ b, N1 b → N b) ∧ C.J ρ.went N1 H
def OwnA (σ : L2.St) (ρ : Env) (b : Addr) : Prop := ∃ i ds, ρ.at i = .own ds ∧ σ[i]? = some (some (.ref b))
/-- what was there stays, but for what others may change and the own lists -/
structure Fr (C : Ctx) (σ : L2.St) (ρ : Env) (N : Addr → Prop) (σ' : L2.St) (ρ' : Env) (N' : Addr → Prop) (H H' : Hp) : Prop where
  keep : ∀ b o, H b = some o → ¬ C.M b → ¬ OwnA σ ρ b → H' b = some o
  own : ∀ b, OwnA σ' ρ' b → ¬ C.M b ∧ (OwnA σ ρ b ∨ H b = none)
  dom : ∀ b, H b ≠ none → H' b ≠ none
  up : ∀ b, N' b → N b ∨ H b = none ∨ OwnA σ ρ b
theorem Rep.ownA {C : Ctx} {σ : L2.St} {ρ : Env} {N : Addr → Prop} {H : Hp} (r : Rep C σ ρ N H) {b : Addr} (h : OwnA σ ρ b) : ¬ C.M b ∧ ¬ N b ∧ C.H0 b = none ∧ ∃ xs, H b = some (.lst xs) := by
  obtain ⟨i, ds, e, q⟩ := h
  obtain ⟨a, vs, h1, h2, _, h4, h5, h6⟩ := r.own i ds e
  rw [h1] at q
  cases q
  exact ⟨h6, h4, h5, _, h2⟩
theorem Rep.fr {C : Ctx} {σ : L2.St} {ρ : Env} {N : Addr → Prop} {H : Hp} (r : Rep C σ ρ N H) : Fr C σ ρ N σ ρ N H H := ⟨fun _ _ h _ _ => h, fun b h => ⟨(r.ownA h).1, .inl h⟩, fun _ h => h, fun _ h => .inl h⟩
theorem Fr.trans {C : Ctx} {σ σ1 σ2 : L2.St} {ρ ρ1 ρ2 : Env} {N N1 N2 : Addr → Prop} {H H1 H2 : Hp} (a : Fr C σ ρ N σ1 ρ1 N1 H H1) (b : Fr C σ1 ρ1 N1 σ2 ρ2 N2 H1 H2) : Fr C σ ρ N σ2 ρ2 N2 H H2 where
  keep := fun x o h m n => b.keep x o (a.keep x o h m n) m fun z => by
    rcases (a.own x z).2 with q | q
    · exact n q
    · rw [h] at q; cases q
  own := fun x z => by
    obtain ⟨m, q⟩ := b.own x z
    refine ⟨m, ?_⟩
    rcases q with q | q
    · exact (a.own x q).2
    · by_cases y : OwnA σ ρ x
      · exact .inl y
      · cases e : H x with
        | none => exact .inr rfl
        | some o =>
          rw [a.keep x o e m y] at q
          cases q
  dom := fun x h => b.dom x (a.dom x h)
  up := fun x h => by
    rcases b.up x h with q | q | q
    · exact a.up x q
    · cases e : H x with
      | none => exact .inr (.inl rfl)
      | some o => exact absurd q (a.dom x (by rw [e]; exact fun z => nomatch z))
    · rcases (a.own x q).2 with z | z
      · exact .inr (.inr z)
      · exact .inr (.inl z)
theorem Fr.back {C : Ctx} {σ σ' : L2.St} {ρ ρ' : Env} {N N' : Addr → Prop} {H H' : Hp} (f : Fr C σ ρ N σ' ρ' N' H H') {p : Addr} (h : H' p = none) : H p = none := by
  cases e : H p with
  | none => rfl
  | some o => exact absurd h (f.dom p (by rw [e]; exact fun z => nomatch z))
theorem Fr.kp {C : Ctx} {σ σ' : L2.St} {ρ ρ' : Env} {N N' : Addr → Prop} {H H' : Hp} (f : Fr C σ ρ N σ' ρ' N' H H') (r : Rep C σ ρ N H) : Kp C.K N H H' where
  n := fun b o n h => f.keep b o h (r.new b n).2 fun z => (r.ownA z).2.1 n
  t := fun b xs h => by
    have go : ∀ o, H b = some o → (∀ ys, o ≠ .lst ys) → H' b = some o := fun o e ne => f.keep b o e (fun m => by
      obtain ⟨ys, q⟩ := r.mh b m
      rw [e] at q
      exact ne ys (Option.some.inj q)) fun z => by
      obtain ⟨_, _, _, ys, q⟩ := r.ownA z
      rw [e] at q
      exact ne ys (Option.some.inj q)
    rcases h with (h | ⟨o, h⟩) | h
    · exact .inl (.inl (go _ h fun _ z => nomatch z))
    · exact .inl (.inr ⟨o, go _ h fun _ z => nomatch z⟩)
    · exact .inr h
/-- readings by worths -/
abbrev WE := Env → (PyData → Env → Prop) → Prop
abbrev WT := Env → (Bool → Env → Prop) → Prop
abbrev WA := Env → (List PyData → Env → Prop) → Prop
def FE (C : Ctx) (t : TE) (W : WE) : Prop := ∀ σ H ρ N (Q : VK) (P : PyData → Env → Prop), Rep C σ ρ N H → W ρ P →
  (∀ v H' N' ρ' d, P d ρ' → (∀ b, N b → N' b) → Fr C σ ρ N σ ρ' N' H H' → Rep C σ ρ' N' H' → Dn C.K H' N' v d → Q v H') → t σ H Q
def FT (C : Ctx) (t : TT) (W : WT) : Prop := ∀ σ H ρ N (Q : Bool → Hp → Prop) (P : Bool → Env → Prop), Rep C σ ρ N H → W ρ P →
  (∀ v H' N' ρ', P v ρ' → (∀ b, N b → N' b) → Fr C σ ρ N σ ρ' N' H H' → Rep C σ ρ' N' H' → Q v H') → t σ H Q
def FA (C : Ctx) (t : TA) (W : WA) : Prop := ∀ σ H ρ N (Q : List V → Hp → Prop) (P : List PyData → Env → Prop), Rep C σ ρ N H → W ρ P →
  (∀ v H' N' ρ' d, P d ρ' → (∀ b, N b → N' b) → Fr C σ ρ N σ ρ' N' H H' → Rep C σ ρ' N' H' → Dns C.K H' N' v d → Q v H') → t σ H Q
/-- a new object, tracked -/
theorem Rep.alloc {C : Ctx} (ok : C.Ok) {σ : L2.St} {ρ : Env} {N : Addr → Prop} {H : Hp} {p : Addr} {o : HO} (r : Rep C σ ρ N H) (hp : H p = none) : Rep C σ ρ N (upd H p o) where
  len := r.len
  dat := fun i d e => by
    obtain ⟨v, h1, h2⟩ := r.dat i d e
    exact ⟨v, h1, h2.mono (.upd hp) fun _ h => h⟩
  own := fun i ds e => by
    obtain ⟨a, vs, h1, h2, h3, h4, h5⟩ := r.own i ds e
    exact ⟨a, vs, h1, same_upd hp _ _ h2, h3.mono (.upd hp) fun _ h => h, h4, h5⟩
  sep := r.sep
  fix := r.fix
  old := fun b u e m => same_upd hp _ _ (r.old b u e m)
  new := r.new
  has := fun b n z => by
    cases e : H b with
    | none => exact r.has b n e
    | some u => rw [same_upd hp _ _ e] at z; cases z
  mh := fun b n => by
    obtain ⟨xs, e⟩ := r.mh b n
    exact ⟨xs, same_upd hp _ _ e⟩
  j := r.j.imp fun _ q => ⟨q.1, ok.jm (.upd hp) q.2⟩
theorem Rep.frA {C : Ctx} {σ : L2.St} {ρ : Env} {N : Addr → Prop} {H : Hp} {p : Addr} {o : HO} (r : Rep C σ ρ N H) (hp : H p = none) : Fr C σ ρ N σ ρ N H (upd H p o) where
  keep := fun b u h _ _ => same_upd hp b u h
  own := fun b h => ⟨(r.ownA h).1, .inl h⟩
  dom := fun b h => by
    cases e : H b with
    | none => exact absurd e h
    | some u => rw [same_upd hp b u e]; exact fun z => nomatch z
  up := fun _ h => .inl h
theorem Rep.frF {C : Ctx} {σ : L2.St} {ρ : Env} {N : Addr → Prop} {H : Hp} {p : Addr} {o : HO} (r : Rep C σ ρ N H) (hp : H p = none) : Fr C σ ρ N σ ρ (fun b => N b ∨ b = p) H (upd H p o) where
  keep := (r.frA (o := o) hp).keep
  own := (r.frA (o := o) hp).own
  dom := (r.frA (o := o) hp).dom
  up := fun b h => by
    rcases h with h | h
    · exact .inl h
    · exact .inr (.inl (by rw [h]; exact hp))
/-- it may be told on -/
theorem Rep.more {C : Ctx} {σ : L2.St} {ρ : Env} {N : Addr → Prop} {H : Hp} {p : Addr} (r : Rep C σ ρ N H) (h0 : C.H0 p = none) (hm : ¬ C.M p) (hp : H p ≠ none) (hn : ∀ i ds, ρ.at i = .own ds → σ[i]? ≠ some (some (.ref p))) : Rep C σ ρ (fun b => N b ∨ b = p) H where
  len := r.len
  dat := fun i d e => by
    obtain ⟨v, h1, h2⟩ := r.dat i d e
    exact ⟨v, h1, h2.mono .refl fun _ h => .inl h⟩
  own := fun i ds e => by
    obtain ⟨a, vs, h1, h2, h3, h4, h5⟩ := r.own i ds e
    refine ⟨a, vs, h1, h2, h3.mono .refl fun _ h => .inl h, fun z => ?_, h5⟩
    rcases z with z | z
    · exact h4 z
    · exact hn i ds e (z ▸ h1)
  sep := r.sep
  fix := r.fix
  old := r.old
  new := fun b n => by
    rcases n with n | n
    · exact r.new b n
    · exact n ▸ ⟨.inr h0, hm⟩
  has := fun b n => by
    rcases n with n | n
    · exact r.has b n
    · exact n ▸ hp
  mh := r.mh
  j := r.j.imp fun _ q => ⟨fun b h => .inl (q.1 b h), q.2⟩
theorem Rep.h0 {C : Ctx} {σ : L2.St} {ρ : Env} {N : Addr → Prop} {H : Hp} {p : Addr} (r : Rep C σ ρ N H) (hp : H p = none) : C.H0 p = none ∧ ¬ C.M p := by
  have m : ¬ C.M p := fun z => by
    obtain ⟨xs, e⟩ := r.mh p z
    rw [hp] at e
    cases e
  refine ⟨?_, m⟩
  cases e : C.H0 p with
  | none => rfl
  | some o =>
    rw [r.old p o e m] at hp
    cases hp
end WD
namespace WD
open PySem PySem.Spec PyProof.Rows L2
theorem szl : (sizeLine : Nat) = 16777216 := by decide
variable {C : Ctx}
/-! ### names, constants -/
def wVar (i : Nat) : WE := fun ρ P => match ρ.at i with
  | .dat d => P d ρ
  | .own ds => P (.list ds) (ρ.put i (.dat (.list ds)))
  | .un => False
def wK (d : PyData) : WE := fun ρ P => P d ρ
theorem at_put {ρ : Env} {i j : Nat} {e : En} (h : i < ρ.sl.length) : (ρ.put i e).at j = if j = i then e else ρ.at j := by
  unfold Env.at Env.put
  simp only [List.getD_eq_getElem?_getD]
  by_cases q : j = i
  · subst q
    rw [if_pos rfl, List.getElem?_set_self h]
    rfl
  · rw [if_neg q, List.getElem?_set_ne (Ne.symm q)]
theorem at_lt {ρ : Env} {i : Nat} (h : ρ.at i ≠ .un) : i < ρ.sl.length := by
  unfold Env.at at h
  rcases Nat.lt_or_ge i ρ.sl.length with q | q
  · exact q
  · rw [List.getD_eq_getElem?_getD, List.getElem?_eq_none_iff.mpr q] at h
    exact absurd rfl h
/-- an own list is told on -/
theorem Rep.freeze {σ : L2.St} {ρ : Env} {N : Addr → Prop} {H : Hp} {i : Nat} {ds : List PyData} (r : Rep C σ ρ N H) (e : ρ.at i = .own ds) :
    ∃ a vs N', σ[i]? = some (some (.ref a)) ∧ H a = some (.lst vs) ∧ (∀ b, N b → N' b) ∧ Dn C.K H N' (.ref a) (.list ds) ∧ Rep C σ (ρ.put i (.dat (.list ds))) N' H ∧ Fr C σ ρ N σ (ρ.put i (.dat (.list ds))) N' H H := by
  obtain ⟨a, vs, h1, h2, h3, h4, h5, h6⟩ := r.own i ds e
  have hi : i < ρ.sl.length := at_lt (by rw [e]; exact fun z => nomatch z)
  have hd : Dn C.K H (fun b => N b ∨ b = a) (.ref a) (.list ds) := .lst h2 (.inr rfl) (h3.mono .refl fun _ h => .inl h)
  refine ⟨a, vs, fun b => N b ∨ b = a, h1, h2, fun _ h => .inl h, hd, ?_, ⟨fun _ _ h _ _ => h, fun b h => ?_, fun _ h => h, fun b h => by
    rcases h with h | h
    · exact .inl h
    · exact .inr (.inr ⟨i, ds, e, by rw [h]; exact h1⟩)⟩⟩
  rotate_left
  · obtain ⟨j, es, q1, q2⟩ := h
    rw [at_put hi] at q1
    by_cases z : j = i
    · rw [if_pos z] at q1
      cases q1
    · rw [if_neg z] at q1
      exact ⟨(r.ownA ⟨j, es, q1, q2⟩).1, .inl ⟨j, es, q1, q2⟩⟩
  exact {
    len := by show σ.length = (ρ.sl.set i _).length; rw [List.length_set]; exact r.len
    dat := fun j d q => by
      rw [at_put hi] at q
      by_cases z : j = i
      · rw [if_pos z] at q
        cases q
        subst z
        exact ⟨.ref a, h1, hd⟩
      · rw [if_neg z] at q
        obtain ⟨v, g1, g2⟩ := r.dat j d q
        exact ⟨v, g1, g2.mono .refl fun _ h => .inl h⟩
    own := fun j es q => by
      rw [at_put hi] at q
      by_cases z : j = i
      · rw [if_pos z] at q
        cases q
      · rw [if_neg z] at q
        obtain ⟨b, us, g1, g2, g3, g4, g5⟩ := r.own j es q
        refine ⟨b, us, g1, g2, g3.mono .refl fun _ h => .inl h, fun y => ?_, g5⟩
        rcases y with y | y
        · exact g4 y
        · exact r.sep j i es ds a z q e (y ▸ g1) h1
    sep := fun j k es fs b z q1 q2 => by
      rw [at_put hi] at q1 q2
      by_cases y : j = i
      · rw [if_pos y] at q1; cases q1
      by_cases x : k = i
      · rw [if_pos x] at q2; cases q2
      rw [if_neg y] at q1
      rw [if_neg x] at q2
      exact r.sep j k es fs b z q1 q2
    fix := fun p hp => by
      obtain ⟨g1, g2⟩ := r.fix p hp
      refine ⟨g1, ?_⟩
      rw [at_put hi, if_neg (fun z => by rw [z, e] at g2; cases g2)]
      exact g2
    old := r.old
    new := fun b n => by
      rcases n with n | n
      · exact r.new b n
      · exact n ▸ ⟨.inr h5, h6⟩
    has := fun b n => by
      rcases n with n | n
      · exact r.has b n
      · rw [n, h2]; exact fun z => nomatch z
    mh := r.mh
    j := r.j.imp fun _ q => ⟨fun b h => .inl (q.1 b h), q.2⟩ }
theorem fe_var {i : Nat} : FE C (tVar i) (wVar i) := fun σ H ρ N Q P r w k => by
  unfold wVar at w
  split at w
  · rename_i d e
    obtain ⟨v, h1, h2⟩ := r.dat i d e
    exact ⟨v, h1, k v H N ρ d w (fun _ h => h) r.fr r h2⟩
  · rename_i ds e
    obtain ⟨a, vs, N', h1, h2, h3, h4, h5, h6⟩ := r.freeze e
    exact ⟨.ref a, h1, k _ H N' _ _ w h3 h6 h5 h4⟩
  · exact w.elim
theorem fe_c {v : V} {d : PyData} (h : ∀ H N, Dn C.K H N v d) : FE C (tC v) (wK d) := fun σ H ρ N Q P r w k => k v H N ρ d w (fun _ h => h) r.fr r (h H N)
theorem fe_int {i : Int} : FE C (tC (.int i)) (wK (.int i)) := fe_c fun _ _ => .int i
theorem fe_bl {i : Bool} : FE C (tC (.bl i)) (wK (.bool i)) := fe_c fun _ _ => .bl i
theorem fe_str {i : Str} : FE C (tC (.str i)) (wK (.str i)) := fe_c fun _ _ => .str i
theorem fe_non : FE C (tC .non) (wK .none) := fe_c fun _ _ => .non
/-! ### arguments, displays -/
def wNil : WA := fun ρ P => P [] ρ
def wCons (a : WE) (t : WA) : WA := fun ρ P => a ρ fun d ρ1 => t ρ1 fun ds ρ2 => P (d :: ds) ρ2
theorem fa_nil : FA C tNil wNil := fun σ H ρ N Q P r w k => k [] H N ρ [] w (fun _ h => h) r.fr r .nil
theorem fa_cons {te : TE} {t : TA} {a : WE} {b : WA} (ha : FE C te a) (hb : FA C t b) : FA C (tCons te t) (wCons a b) := fun σ H ρ N Q P r w k =>
  ha σ H ρ N _ _ r w fun v H1 N1 ρ1 d w1 n1 k1 r1 h1 => hb σ H1 ρ1 N1 _ _ r1 w1 fun vs H2 N2 ρ2 ds w2 n2 k2 r2 h2 =>
    k (v :: vs) H2 N2 ρ2 (d :: ds) w2 (fun b h => n2 b (n1 b h)) (k1.trans k2) r2 (.cons (h1.mono (k2.kp r1) n2) h2)
def wTup (t : WA) : WE := fun ρ P => t ρ fun ds ρ1 => ds.length ≤ 16777216 ∧ P (.tuple ds) ρ1
def wLst (t : WA) : WE := fun ρ P => t ρ fun ds ρ1 => ds.length ≤ 16777216 ∧ P (.list ds) ρ1
theorem fe_tup {t : TA} {a : WA} (ok : C.Ok) (h : FA C t a) : FE C (tTup t) (wTup a) := fun σ H ρ N Q P r w k =>
  h σ H ρ N _ _ r w fun vs H1 N1 ρ1 ds ⟨l, w1⟩ n1 k1 r1 h1 => by
    refine ⟨by rw [szl, h1.len]; exact l, fun p hp => ?_⟩
    exact k _ _ N1 ρ1 (.tuple ds) w1 n1 (k1.trans (r1.frA hp)) (r1.alloc ok hp) (.tup (SqT.of upd_same) (h1.mono (.upd hp) fun _ h => h))
theorem Rep.fresh (ok : C.Ok) {σ : L2.St} {ρ : Env} {N : Addr → Prop} {H : Hp} {p : Addr} {o : HO} (r : Rep C σ ρ N H) (hp : H p = none) : Rep C σ ρ (fun b => N b ∨ b = p) (upd H p o) := by
  obtain ⟨h0, hm⟩ := r.h0 hp
  refine (r.alloc ok hp).more h0 hm (by rw [upd_same]; exact fun z => nomatch z) fun i ds e z => ?_
  obtain ⟨a, vs, h1, h2, _⟩ := r.own i ds e
  rw [h1] at z
  cases z
  rw [hp] at h2
  cases h2
theorem fe_lst {t : TA} {a : WA} (ok : C.Ok) (h : FA C t a) : FE C (tLst t) (wLst a) := fun σ H ρ N Q P r w k =>
  h σ H ρ N _ _ r w fun vs H1 N1 ρ1 ds ⟨l, w1⟩ n1 k1 r1 h1 => by
    refine ⟨by rw [szl, h1.len]; exact l, fun p hp => ?_⟩
    exact k _ _ _ ρ1 (.list ds) w1 (fun b h => .inl (n1 b h)) (k1.trans (r1.frF hp)) (r1.fresh ok hp) (.lst upd_same (.inr rfl) (h1.mono (.upd hp) fun _ h => .inl h))
/-! ### operators, by worths -/
abbrev W2 := PyData → PyData → (PyData → Prop) → Prop
def FR2 (C : Ctx) (r : R2) (f : W2) : Prop := ∀ σ H ρ N (Q : VK) (P : PyData → Prop) x y d e, Rep C σ ρ N H → Dn C.K H N x d → Dn C.K H N y e → f d e P →
  (∀ v H' N' z, P z → (∀ b, N b → N' b) → Fr C σ ρ N σ ρ N' H H' → Rep C σ ρ N' H' → Dn C.K H' N' v z → Q v H') → r x y H Q
def wOp (f : W2) (a b : WE) : WE := fun ρ P => a ρ fun d ρ1 => b ρ1 fun e ρ2 => f d e fun z => P z ρ2
theorem fe_op {r : R2} {f : W2} {ta tb : TE} {a b : WE} (hf : FR2 C r f) (ha : FE C ta a) (hb : FE C tb b) : FE C (tOp r ta tb) (wOp f a b) := fun σ H ρ N Q P rp w k =>
  ha σ H ρ N _ _ rp w fun x H1 N1 ρ1 d w1 n1 k1 r1 h1 => hb σ H1 ρ1 N1 _ _ r1 w1 fun y H2 N2 ρ2 e w2 n2 k2 r2 h2 =>
    hf σ H2 ρ2 N2 _ _ x y d e r2 (h1.mono (k2.kp r1) n2) h2 w2 fun v H3 N3 z w3 n3 k3 r3 h3 =>
      k v H3 N3 ρ2 z w3 (fun b h => n3 b (n2 b (n1 b h))) ((k1.trans k2).trans k3) r3 h3
theorem fr2_pure {r : R2} {f : W2} (h : ∀ H N (Q : VK) (P : PyData → Prop) x y d e, Dn C.K H N x d → Dn C.K H N y e → f d e P → (∀ v z, P z → Dn C.K H N v z → Q v H) → r x y H Q) : FR2 C r f :=
  fun σ H ρ N Q P x y d e rp hx hy w k => h H N Q P x y d e hx hy w fun v z p hz => k v H N z p (fun _ h => h) rp.fr rp hz
def f2I (g : Int → Int → PyData) : W2 := fun d e P => match d, e with
  | .int i, .int j => P (g i j)
  | _, _ => False
theorem fr_add : FR2 C (rI0 fun i j => V.int (i + j)) (f2I fun i j => .int (i + j)) := fr2_pure fun H N Q P x y d e hx hy w k => by
  cases hx <;> cases hy <;> first | exact w.elim | exact ⟨_, _, rfl, rfl, k _ _ w (.int _)⟩
theorem fr_sub : FR2 C (rI0 fun i j => V.int (i - j)) (f2I fun i j => .int (i - j)) := fr2_pure fun H N Q P x y d e hx hy w k => by
  cases hx <;> cases hy <;> first | exact w.elim | exact ⟨_, _, rfl, rfl, k _ _ w (.int _)⟩
theorem fr_lt : FR2 C (rI0 fun i j => V.bl (decide (i < j))) (f2I fun i j => .bool (decide (i < j))) := fr2_pure fun H N Q P x y d e hx hy w k => by
  cases hx <;> cases hy <;> first | exact w.elim | exact ⟨_, _, rfl, rfl, k _ _ w (.bl _)⟩
theorem fr_le : FR2 C (rI0 fun i j => V.bl (decide (i ≤ j))) (f2I fun i j => .bool (decide (i ≤ j))) := fr2_pure fun H N Q P x y d e hx hy w k => by
  cases hx <;> cases hy <;> first | exact w.elim | exact ⟨_, _, rfl, rfl, k _ _ w (.bl _)⟩
theorem fr_gt : FR2 C (rI0 fun i j => V.bl (decide (j < i))) (f2I fun i j => .bool (decide (j < i))) := fr2_pure fun H N Q P x y d e hx hy w k => by
  cases hx <;> cases hy <;> first | exact w.elim | exact ⟨_, _, rfl, rfl, k _ _ w (.bl _)⟩
theorem fr_ge : FR2 C (rI0 fun i j => V.bl (decide (j ≤ i))) (f2I fun i j => .bool (decide (j ≤ i))) := fr2_pure fun H N Q P x y d e hx hy w k => by
  cases hx <;> cases hy <;> first | exact w.elim | exact ⟨_, _, rfl, rfl, k _ _ w (.bl _)⟩
def fAddS : W2 := fun d e P => match d, e with
  | .str i, .str j => i.length + j.length ≤ 16777216 ∧ P (.str (i ++ j))
  | _, _ => False
theorem fr_addS : FR2 C (fun x y H Q => ∃ i j, x = V.str i ∧ y = V.str j ∧ i.length + j.length ≤ sizeLine ∧ Q (V.str (i ++ j)) H) fAddS := fr2_pure fun H N Q P x y d e hx hy w k => by
  cases hx <;> cases hy <;> first | exact w.elim | exact ⟨_, _, rfl, rfl, by rw [szl]; exact w.1, k _ _ w.2 (.str _)⟩
def fCat : W2 := fun d e P => match d, e with
  | .list xs, .list ys => xs.length + ys.length ≤ 16777216 ∧ P (.list (xs ++ ys))
  | _, _ => False
theorem fr_cat (ok : C.Ok) : FR2 C rCat fCat := fun σ H ρ N Q P x y d e rp hx hy w k => by
  cases hx <;> cases hy <;> first | exact w.elim | skip
  rename_i a xs ds h n t b ys es h' n' t'
  refine ⟨_, _, _, _, rfl, rfl, h, h', by rw [szl, t.len, t'.len]; exact w.1, fun p hp => ?_⟩
  exact k _ _ _ _ w.2 (fun b h => .inl h) (rp.frF hp) (rp.fresh ok hp) (.lst upd_same (.inr rfl) ((t.append t').mono (.upd hp) fun _ h => .inl h))
def fIx : W2 := fun d e P => match d, e with
  | .list xs, .int i => ∃ z, atI xs i = some z ∧ P z
  | .tuple xs, .int i => ∃ z, atI xs i = some z ∧ P z
  | _, _ => False
theorem atI_map {K : PySem.W.Frag} {H : Hp} {N : Addr → Prop} {vs : List V} {ds : List PyData} {i : Int} {z : PyData} (t : Dns K H N vs ds) (h : atI ds i = some z) : ∃ v, atI vs i = some v ∧ Dn K H N v z := by
  unfold atI at h ⊢
  rw [t.len]
  cases e : ixN ds.length i with
  | none =>
    rw [e] at h
    cases h
  | some m =>
    rw [e] at h
    exact t.at h
theorem fr_ixL : FR2 C (rIxL C.K) (fun d e P => match d with
  | .list _ => fIx d e P
  | _ => False) := fr2_pure fun H N Q P x y d e hx hy w k => by
  cases hx <;> cases hy <;> first | exact w.elim | skip
  obtain ⟨z, hz, w⟩ := w
  obtain ⟨v, hv, hd⟩ := atI_map (by assumption) hz
  exact ⟨_, _, _, v, rfl, rfl, SqL.of (by assumption), hv, k _ _ w hd⟩
theorem fr_ixT : FR2 C (rIxT C.K) (fun d e P => match d with
  | .tuple _ => fIx d e P
  | _ => False) := fr2_pure fun H N Q P x y d e hx hy w k => by
  cases hx <;> cases hy <;> first | exact w.elim | skip
  obtain ⟨z, hz, w⟩ := w
  obtain ⟨v, hv, hd⟩ := atI_map (by assumption) hz
  exact ⟨_, _, _, v, rfl, rfl, by assumption, hv, k _ _ w hd⟩
/-- == of things of any kind -/
def fEqD : W2 := fun d e P => noDict d = true ∧ noDict e = true ∧ SeqAt.shaped d = true ∧ SeqAt.shaped e = true ∧ P (.bool (PyData.eqv d e))
def fNeD : W2 := fun d e P => noDict d = true ∧ noDict e = true ∧ SeqAt.shaped d = true ∧ SeqAt.shaped e = true ∧ P (.bool (!PyData.eqv d e))
theorem fr_eqD : FR2 C (rEqD C.K) fEqD := fr2_pure fun H N Q P x y d e hx hy w k => ⟨d, e, hx.dp w.1, hy.dp w.2.1, w.2.2.1, w.2.2.2.1, k _ _ w.2.2.2.2 (.bl _)⟩
theorem fr_neD : FR2 C (rNeD C.K) fNeD := fr2_pure fun H N Q P x y d e hx hy w k => ⟨d, e, hx.dp w.1, hy.dp w.2.1, w.2.2.1, w.2.2.2.1, k _ _ w.2.2.2.2 (.bl _)⟩
/-- == of worths without parts -/
def flatEq : PyData → PyData → Option Bool
  | .int i, .int j => some (decide (i = j))
  | .str i, .str j => some (decide (i = j))
  | .bool i, .bool j => some (decide (i = j))
  | .none, .none => some true
  | _, _ => none
def fIsN (neg : Bool) : W2 := fun d e P => match e with
  | .none => P (.bool (xor neg (match d with
    | .none => true
    | _ => false)))
  | _ => False
theorem fr_isN : FR2 C (fun x y H Q => y = V.non ∧ Q (V.bl (decide (x = V.non))) H) (fIsN false) := fr2_pure fun H N Q P x y d e hx hy w k => by
  cases hy <;> first | exact w.elim | skip
  cases hx <;> exact ⟨rfl, k _ _ w (.bl _)⟩
theorem fr_notN : FR2 C (fun x y H Q => y = V.non ∧ Q (V.bl (!decide (x = V.non))) H) (fIsN true) := fr2_pure fun H N Q P x y d e hx hy w k => by
  cases hy <;> first | exact w.elim | skip
  cases hx <;> exact ⟨rfl, k _ _ w (.bl _)⟩
def fInS (neg : Bool) : W2 := fun d e P => match d, e with
  | .str i, .str j => P (.bool (xor neg (!(Builtin.Str.occurrences j i 0 j.length 1).isEmpty)))
  | _, _ => False
theorem fr_inS : FR2 C (fun x y H Q => ∃ i j, x = V.str i ∧ y = V.str j ∧ Q (V.bl !(Builtin.Str.occurrences j i 0 j.length 1).isEmpty) H) (fInS false) := fr2_pure fun H N Q P x y d e hx hy w k => by
  cases hx <;> cases hy <;> first | exact w.elim | skip
  refine ⟨_, _, rfl, rfl, k _ _ w ?_⟩
  rw [Bool.false_xor]
  exact .bl _
theorem fr_ninS : FR2 C (fun x y H Q => ∃ i j, x = V.str i ∧ y = V.str j ∧ Q (V.bl !!(Builtin.Str.occurrences j i 0 j.length 1).isEmpty) H) (fInS true) := fr2_pure fun H N Q P x y d e hx hy w k => by
  cases hx <;> cases hy <;> first | exact w.elim | skip
  refine ⟨_, _, rfl, rfl, k _ _ w ?_⟩
  rw [Bool.true_xor]
  exact .bl _
/-! ### tests, and, or, not, if -/
def wB (a : WE) : WT := fun ρ P => a ρ fun d ρ1 => match d with
  | .bool b => P b ρ1
  | _ => False
theorem ft_test {t : TE} {a : WE} (h : FE C t a) : FT C (tTest t) (wB a) := fun σ H ρ N Q P r w k => h σ H ρ N _ _ r w fun v H1 N1 ρ1 d w1 n1 k1 r1 h1 => by
  cases h1 <;> first | exact w1.elim | exact ⟨_, rfl, k _ H1 N1 ρ1 w1 n1 k1 r1⟩
theorem ft_b {t : TE} {a : WE} (h : FE C t a) : FT C (tB t) (wB a) := fun σ H ρ N Q P r w k => h σ H ρ N _ _ r w fun v H1 N1 ρ1 d w1 n1 k1 r1 h1 => by
  cases h1 <;> first | exact w1.elim | exact ⟨_, rfl, k _ H1 N1 ρ1 w1 n1 k1 r1⟩
def wAnd (a b : WT) : WT := fun ρ P => a ρ fun c ρ1 => if c = true then b ρ1 P else P false ρ1
def wOr (a b : WT) : WT := fun ρ P => a ρ fun c ρ1 => if c = true then P true ρ1 else b ρ1 P
def wNot (a : WT) : WT := fun ρ P => a ρ fun c ρ1 => P (!c) ρ1
theorem ft_and {t u : TT} {a b : WT} (ha : FT C t a) (hb : FT C u b) : FT C (tAnd t u) (wAnd a b) := fun σ H ρ N Q P r w k =>
  ha σ H ρ N _ _ r w fun c H1 N1 ρ1 w1 n1 k1 r1 => by
    cases c with
    | true => exact hb σ H1 ρ1 N1 _ _ r1 w1 fun c2 H2 N2 ρ2 w2 n2 k2 r2 => k c2 H2 N2 ρ2 w2 (fun b h => n2 b (n1 b h)) (k1.trans k2) r2
    | false => exact k _ H1 N1 ρ1 w1 n1 k1 r1
theorem ft_or {t u : TT} {a b : WT} (ha : FT C t a) (hb : FT C u b) : FT C (tOr t u) (wOr a b) := fun σ H ρ N Q P r w k =>
  ha σ H ρ N _ _ r w fun c H1 N1 ρ1 w1 n1 k1 r1 => by
    cases c with
    | false => exact hb σ H1 ρ1 N1 _ _ r1 w1 fun c2 H2 N2 ρ2 w2 n2 k2 r2 => k c2 H2 N2 ρ2 w2 (fun b h => n2 b (n1 b h)) (k1.trans k2) r2
    | true => exact k _ H1 N1 ρ1 w1 n1 k1 r1
theorem ft_not {t : TT} {a : WT} (ha : FT C t a) : FT C (tNot t) (wNot a) := fun σ H ρ N Q P r w k => ha σ H ρ N _ _ r w fun c H1 N1 ρ1 w1 n1 k1 r1 => k _ H1 N1 ρ1 w1 n1 k1 r1
def wAndV (a b : WE) : WE := fun ρ P => a ρ fun d ρ1 => match d with
  | .bool true => b ρ1 P
  | .bool false => P (.bool false) ρ1
  | _ => False
def wOrV (a b : WE) : WE := fun ρ P => a ρ fun d ρ1 => match d with
  | .bool false => b ρ1 P
  | .bool true => P (.bool true) ρ1
  | _ => False
def wNotV (a : WE) : WE := fun ρ P => a ρ fun d ρ1 => match d with
  | .bool c => P (.bool (!c)) ρ1
  | _ => False
theorem fe_and {t u : TE} {a b : WE} (ha : FE C t a) (hb : FE C u b) : FE C (tAndV t u) (wAndV a b) := fun σ H ρ N Q P r w k =>
  ha σ H ρ N _ _ r w fun v H1 N1 ρ1 d w1 n1 k1 r1 h1 => by
    cases h1 <;> first | exact w1.elim | skip
    rename_i c
    refine ⟨c, rfl, ?_⟩
    cases c with
    | true => exact hb σ H1 ρ1 N1 _ _ r1 w1 fun v2 H2 N2 ρ2 d2 w2 n2 k2 r2 h2 => k v2 H2 N2 ρ2 d2 w2 (fun b h => n2 b (n1 b h)) (k1.trans k2) r2 h2
    | false => exact k _ H1 N1 ρ1 _ w1 n1 k1 r1 (.bl _)
theorem fe_or {t u : TE} {a b : WE} (ha : FE C t a) (hb : FE C u b) : FE C (tOrV t u) (wOrV a b) := fun σ H ρ N Q P r w k =>
  ha σ H ρ N _ _ r w fun v H1 N1 ρ1 d w1 n1 k1 r1 h1 => by
    cases h1 <;> first | exact w1.elim | skip
    rename_i c
    refine ⟨c, rfl, ?_⟩
    cases c with
    | false => exact hb σ H1 ρ1 N1 _ _ r1 w1 fun v2 H2 N2 ρ2 d2 w2 n2 k2 r2 h2 => k v2 H2 N2 ρ2 d2 w2 (fun b h => n2 b (n1 b h)) (k1.trans k2) r2 h2
    | true => exact k _ H1 N1 ρ1 _ w1 n1 k1 r1 (.bl _)
theorem fe_not {t : TE} {a : WE} (ha : FE C t a) : FE C (tNotV t) (wNotV a) := fun σ H ρ N Q P r w k =>
  ha σ H ρ N _ _ r w fun v H1 N1 ρ1 d w1 n1 k1 r1 h1 => by
    cases h1 <;> first | exact w1.elim | exact ⟨_, rfl, k _ H1 N1 ρ1 _ w1 n1 k1 r1 (.bl _)⟩
/-- the truth of a thing -/
def truD : PyData → Bool
  | .none => false
  | .bool b => b
  | .int i => i != 0
  | .str x => (x.length : Int) != 0
  | .list ds => !ds.isEmpty
  | .tuple ds => !ds.isEmpty
  | .dict ks => !ks.isEmpty
def strFits : PyData → Prop
  | .str x => x.length ≤ 16777216
  | _ => True
theorem Dns.emp {K : PySem.W.Frag} {H : Hp} {N : Addr → Prop} {vs : List V} {ds : List PyData} (t : Dns K H N vs ds) : vs.isEmpty = ds.isEmpty := by
  cases t <;> rfl
theorem Dn.tru {K : PySem.W.Frag} {H : Hp} {N : Addr → Prop} {v : V} {d : PyData} (h : Dn K H N v d) (s : strFits d) : TruV K v H (truD d) := by
  cases h with
  | non => exact (rfl : truD .none = false)
  | bl b => exact (rfl : truD (.bool b) = b)
  | int i => exact (rfl : truD (.int i) = (i != 0))
  | str x => exact ⟨by rw [szl]; exact s, rfl⟩
  | lst h n t => exact .inl ⟨_, SqL.of h, by rw [t.emp]; rfl⟩
  | tup h t => exact .inr (.inl ⟨_, h, by rw [t.emp]; rfl⟩)
  | @dct a ks h n =>
    refine .inr (.inr ⟨_, h, ?_⟩)
    cases ks <;> rfl
def wTru (a : WE) : WT := fun ρ P => a ρ fun d ρ1 => strFits d ∧ P (truD d) ρ1
theorem ft_tru {t : TE} {a : WE} (h : FE C t a) : FT C (fun σ H Q => t σ H fun x H' => ∃ k, TruV C.K x H' k ∧ Q k H') (wTru a) := fun σ H ρ N Q P r w k =>
  h σ H ρ N _ _ r w fun v H1 N1 ρ1 d w1 n1 k1 r1 h1 => ⟨_, h1.tru w1.1, k _ H1 N1 ρ1 w1.2 n1 k1 r1⟩
def wNotT (a : WE) : WE := fun ρ P => a ρ fun d ρ1 => strFits d ∧ P (.bool (!truD d)) ρ1
theorem fe_notT {t : TE} {a : WE} (h : FE C t a) : FE C (tNotT C.K t) (wNotT a) := fun σ H ρ N Q P r w k =>
  h σ H ρ N _ _ r w fun v H1 N1 ρ1 d w1 n1 k1 r1 h1 => ⟨_, h1.tru w1.1, k _ H1 N1 ρ1 _ w1.2 n1 k1 r1 (.bl _)⟩
def wOrT (a b : WE) : WE := fun ρ P => a ρ fun d ρ1 => strFits d ∧ if truD d = true then P d ρ1 else b ρ1 P
theorem fe_orT {t u : TE} {a b : WE} (ha : FE C t a) (hb : FE C u b) : FE C (tOrT C.K t u) (wOrT a b) := fun σ H ρ N Q P r w k =>
  ha σ H ρ N _ _ r w fun v H1 N1 ρ1 d w1 n1 k1 r1 h1 => by
    refine ⟨_, h1.tru w1.1, ?_⟩
    have w2 := w1.2
    by_cases c : truD d = true
    · rw [if_pos c] at w2
      rw [if_pos c]
      exact k _ H1 N1 ρ1 _ w2 n1 k1 r1 h1
    · rw [if_neg c] at w2
      rw [if_neg c]
      exact hb σ H1 ρ1 N1 _ _ r1 w2 fun v2 H2 N2 ρ2 d2 w2 n2 k2 r2 h2 => k v2 H2 N2 ρ2 d2 w2 (fun b h => n2 b (n1 b h)) (k1.trans k2) r2 h2
def wAndT (a b : WE) : WE := fun ρ P => a ρ fun d ρ1 => strFits d ∧ if truD d = true then b ρ1 P else P d ρ1
theorem fe_andT {t u : TE} {a b : WE} (ha : FE C t a) (hb : FE C u b) : FE C (tAndT C.K t u) (wAndT a b) := fun σ H ρ N Q P r w k =>
  ha σ H ρ N _ _ r w fun v H1 N1 ρ1 d w1 n1 k1 r1 h1 => by
    refine ⟨_, h1.tru w1.1, ?_⟩
    have w2 := w1.2
    by_cases c : truD d = true
    · rw [if_pos c] at w2
      rw [if_pos c]
      exact hb σ H1 ρ1 N1 _ _ r1 w2 fun v2 H2 N2 ρ2 d2 w2 n2 k2 r2 h2 => k v2 H2 N2 ρ2 d2 w2 (fun b h => n2 b (n1 b h)) (k1.trans k2) r2 h2
    · rw [if_neg c] at w2
      rw [if_neg c]
      exact k _ H1 N1 ρ1 _ w2 n1 k1 r1 h1
def wIfE (c : WT) (a b : WE) : WE := fun ρ P => c ρ fun k ρ1 => if k = true then a ρ1 P else b ρ1 P
theorem fe_if {tc : TT} {ta tb : TE} {c : WT} {a b : WE} (hc : FT C tc c) (ha : FE C ta a) (hb : FE C tb b) : FE C (tIf tc ta tb) (wIfE c a b) := fun σ H ρ N Q P r w k =>
  hc σ H ρ N _ _ r w fun c H1 N1 ρ1 w1 n1 k1 r1 => by
    cases c with
    | true => exact ha σ H1 ρ1 N1 _ _ r1 w1 fun v2 H2 N2 ρ2 d2 w2 n2 k2 r2 h2 => k v2 H2 N2 ρ2 d2 w2 (fun b h => n2 b (n1 b h)) (k1.trans k2) r2 h2
    | false => exact hb σ H1 ρ1 N1 _ _ r1 w1 fun v2 H2 N2 ρ2 d2 w2 n2 k2 r2 h2 => k v2 H2 N2 ρ2 d2 w2 (fun b h => n2 b (n1 b h)) (k1.trans k2) r2 h2
end WD
namespace WD
open PySem PySem.Spec PyProof.Rows L2
variable {C : Ctx}
/-! ### built-in calls, by worths -/
def FC (C : Ctx) (r : List V → Hp → VK → Prop) (f : List PyData → (PyData → Prop) → Prop) : Prop := ∀ σ H ρ N (Q : VK) (P : PyData → Prop) vs ds, Rep C σ ρ N H → Dns C.K H N vs ds → f ds P →
  (∀ v H' N' z, P z → (∀ b, N b → N' b) → Fr C σ ρ N σ ρ N' H H' → Rep C σ ρ N' H' → Dn C.K H' N' v z → Q v H') → r vs H Q
abbrev W1 := List PyData → (PyData → Prop) → Prop
def wCB (f : W1) (a : WA) : WE := fun ρ P => a ρ fun ds ρ1 => f ds fun z => P z ρ1
theorem fe_cb {r : List V → Hp → VK → Prop} {f : W1} {t : TA} {a : WA} (hf : FC C r f) (ha : FA C t a) : FE C (tCB r t) (wCB f a) := fun σ H ρ N Q P rp w k =>
  ha σ H ρ N _ _ rp w fun vs H1 N1 ρ1 ds w1 n1 k1 r1 h1 => hf σ H1 ρ1 N1 _ _ vs ds r1 h1 w1 fun v H2 N2 z w2 n2 k2 r2 h2 => k v H2 N2 ρ1 z w2 (fun b h => n2 b (n1 b h)) (k1.trans k2) r2 h2
def fLen : W1 := fun ds P => match ds with
  | [.list xs] => P (.int (xs.length : Nat))
  | [.tuple xs] => P (.int (xs.length : Nat))
  | _ => False
theorem fc_len : FC C (fun xs H Q => ∃ p ys, xs = [V.ref p] ∧ (SqL C.K H p ys ∨ SqT C.K H p ys) ∧ Q (V.int (ys.length : Nat)) H) fLen := fun σ H ρ N Q P vs ds r h w k => by
  cases h with
  | nil => exact w.elim
  | cons h t =>
    cases t with
    | cons h2 t2 => cases h <;> exact w.elim
    | nil =>
      cases h <;> first | exact w.elim | skip
      · rename_i a xs ds h n t
        refine ⟨_, _, rfl, .inl (SqL.of h), k _ _ _ _ w (fun _ h => h) r.fr r ?_⟩
        rw [t.len]
        exact .int _
      · rename_i a xs ds h t
        refine ⟨_, _, rfl, .inr h, k _ _ _ _ w (fun _ h => h) r.fr r ?_⟩
        rw [t.len]
        exact .int _
def fLenS : W1 := fun ds P => match ds with
  | [.str x] => x.length ≤ 16777216 ∧ P (.int (x.length : Nat))
  | _ => False
theorem fc_lenS : FC C (fun xs H Q => ∃ z, xs = [V.str z] ∧ z.length ≤ sizeLine ∧ Q (V.int (z.length : Nat)) H) fLenS := fun σ H ρ N Q P vs ds r h w k => by
  cases h with
  | nil => exact w.elim
  | cons h t =>
    cases t with
    | cons h2 t2 => cases h <;> exact w.elim
    | nil =>
      cases h <;> first | exact w.elim | skip
      exact ⟨_, rfl, by rw [szl]; exact w.1, k _ _ _ _ w.2 (fun _ h => h) r.fr r (.int _)⟩
def fListOf : W1 := fun ds P => match ds with
  | [.list xs] => P (.list xs)
  | [.tuple xs] => P (.list xs)
  | _ => False
theorem fc_listOf (ok : C.Ok) : FC C (fun xs H Q => ∃ p ys, xs = [V.ref p] ∧ (SqL C.K H p ys ∨ SqT C.K H p ys) ∧ ∀ (l : Addr), H l = none → Q (V.ref l) (upd H l (HO.lst ys))) fListOf := fun σ H ρ N Q P vs ds r h w k => by
  cases h with
  | nil => exact w.elim
  | cons h t =>
    cases t with
    | cons h2 t2 => cases h <;> exact w.elim
    | nil =>
      cases h <;> first | exact w.elim | skip
      · rename_i a xs ds h n t
        exact ⟨_, _, rfl, .inl (SqL.of h), fun l hl => k _ _ _ _ w (fun b h => .inl h) (r.frF hl) (r.fresh ok hl) (.lst upd_same (.inr rfl) (t.mono (.upd hl) fun _ h => .inl h))⟩
      · rename_i a xs ds h t
        exact ⟨_, _, rfl, .inr h, fun l hl => k _ _ _ _ w (fun b h => .inl h) (r.frF hl) (r.fresh ok hl) (.lst upd_same (.inr rfl) (t.mono (.upd hl) fun _ h => .inl h))⟩
def fTupleOf : W1 := fun ds P => match ds with
  | [.list xs] => P (.tuple xs)
  | [.tuple xs] => P (.tuple xs)
  | _ => False
theorem fc_tupleOf (ok : C.Ok) : FC C (fun xs H Q => ∃ p ys, xs = [V.ref p] ∧ ((SqL C.K H p ys ∧ ∀ (l : Addr), H l = none → Q (V.ref l) (upd H l (HO.tup ys))) ∨ SqT C.K H p ys ∧ Q (V.ref p) H)) fTupleOf := fun σ H ρ N Q P vs ds r h w k => by
  cases h with
  | nil => exact w.elim
  | cons h t =>
    cases t with
    | cons h2 t2 => cases h <;> exact w.elim
    | nil =>
      cases h <;> first | exact w.elim | skip
      · rename_i a xs ds h n t
        exact ⟨_, _, rfl, .inl ⟨SqL.of h, fun l hl => k _ _ _ _ w (fun b h => h) (r.frA hl) (r.alloc ok hl) (.tup (SqT.of upd_same) (t.mono (.upd hl) fun _ h => h))⟩⟩
      · rename_i a xs ds h t
        exact ⟨_, _, rfl, .inr ⟨h, k _ _ _ _ w (fun b h => h) r.fr r (.tup h t)⟩⟩
def fInt1 : W1 := fun ds P => match ds with
  | [.int i] => P (.int i)
  | [.bool b] => P (.int (if b = true then 1 else 0))
  | _ => False
theorem fc_int1 : FC C (fun xs H Q => (∃ i, xs = [V.int i] ∧ Q (V.int i) H) ∨ ∃ k, xs = [V.bl k] ∧ Q (V.int (if k = true then 1 else 0)) H) fInt1 := fun σ H ρ N Q P vs ds r h w k => by
  cases h with
  | nil => exact w.elim
  | cons h t =>
    cases t with
    | cons h2 t2 => cases h <;> exact w.elim
    | nil =>
      cases h <;> first | exact w.elim | skip
      · exact .inr ⟨_, rfl, k _ _ _ _ w (fun b h => h) r.fr r (.int _)⟩
      · exact .inl ⟨_, rfl, k _ _ _ _ w (fun b h => h) r.fr r (.int _)⟩
/-- the numbers of a list -/
def intsOf : List PyData → Option (List Int)
  | [] => some []
  | .int i :: r => (intsOf r).map (i :: ·)
  | _ => none
theorem ints_v {K : PySem.W.Frag} {H : Hp} {N : Addr → Prop} : ∀ {ds : List PyData} {vs : List V} {ns : List Int}, Dns K H N vs ds → intsOf ds = some ns → vs = ns.map V.int
  | [], _, ns, .nil, e => by cases e; rfl
  | .int i :: r, _, ns, .cons h t, e => by
    cases h
    obtain ⟨ms, q, rfl⟩ := Option.map_eq_some_iff.mp (show (intsOf r).map (i :: ·) = some ns from e)
    rw [ints_v t q]
    rfl
  | .none :: _, _, _, _, e => by cases e
  | .bool _ :: _, _, _, _, e => by cases e
  | .str _ :: _, _, _, _, e => by cases e
  | .list _ :: _, _, _, _, e => by cases e
  | .tuple _ :: _, _, _, _, e => by cases e
  | .dict _ :: _, _, _, _, e => by cases e
def boolsOf : List PyData → Option (List Bool)
  | [] => some []
  | .bool i :: r => (boolsOf r).map (i :: ·)
  | _ => none
theorem bools_v {K : PySem.W.Frag} {H : Hp} {N : Addr → Prop} : ∀ {ds : List PyData} {vs : List V} {ns : List Bool}, Dns K H N vs ds → boolsOf ds = some ns → vs = ns.map V.bl
  | [], _, ns, .nil, e => by cases e; rfl
  | .bool i :: r, _, ns, .cons h t, e => by
    cases h
    obtain ⟨ms, q, rfl⟩ := Option.map_eq_some_iff.mp (show (boolsOf r).map (i :: ·) = some ns from e)
    rw [bools_v t q]
    rfl
  | .none :: _, _, _, _, e => by cases e
  | .int _ :: _, _, _, _, e => by cases e
  | .str _ :: _, _, _, _, e => by cases e
  | .list _ :: _, _, _, _, e => by cases e
  | .tuple _ :: _, _, _, _, e => by cases e
  | .dict _ :: _, _, _, _, e => by cases e
def strsOf : List PyData → Option (List Str)
  | [] => some []
  | .str i :: r => (strsOf r).map (i :: ·)
  | _ => none
theorem strs_v {K : PySem.W.Frag} {H : Hp} {N : Addr → Prop} : ∀ {ds : List PyData} {vs : List V} {ns : List Str}, Dns K H N vs ds → strsOf ds = some ns → vs = ns.map V.str
  | [], _, ns, .nil, e => by cases e; rfl
  | .str i :: r, _, ns, .cons h t, e => by
    cases h
    obtain ⟨ms, q, rfl⟩ := Option.map_eq_some_iff.mp (show (strsOf r).map (i :: ·) = some ns from e)
    rw [strs_v t q]
    rfl
  | .none :: _, _, _, _, e => by cases e
  | .bool _ :: _, _, _, _, e => by cases e
  | .int _ :: _, _, _, _, e => by cases e
  | .list _ :: _, _, _, _, e => by cases e
  | .tuple _ :: _, _, _, _, e => by cases e
  | .dict _ :: _, _, _, _, e => by cases e
def fSum : W1 := fun ds P => match ds with
  | [.list xs] => ∃ ns, intsOf xs = some ns ∧ P (.int ns.sum)
  | _ => False
theorem fc_sum : FC C (rSum C.K) fSum := fun σ H ρ N Q P vs ds r h w k => by
  cases h with
  | nil => exact w.elim
  | cons h t =>
    cases t with
    | cons h2 t2 => cases h <;> exact w.elim
    | nil =>
      cases h <;> first | exact w.elim | skip
      rename_i a xs ds h n t
      obtain ⟨ns, e, w⟩ := w
      exact ⟨_, ns, rfl, by rw [← ints_v t e]; exact SqL.of h, k _ _ _ _ w (fun b h => h) r.fr r (.int _)⟩
def fAll : W1 := fun ds P => match ds with
  | [.list xs] => ∃ ns, boolsOf xs = some ns ∧ P (.bool (ns.all id))
  | _ => False
theorem fc_all : FC C (rAll C.K) fAll := fun σ H ρ N Q P vs ds r h w k => by
  cases h with
  | nil => exact w.elim
  | cons h t =>
    cases t with
    | cons h2 t2 => cases h <;> exact w.elim
    | nil =>
      cases h <;> first | exact w.elim | skip
      rename_i a xs ds h n t
      obtain ⟨ns, e, w⟩ := w
      exact ⟨_, ns, rfl, by rw [← bools_v t e]; exact SqL.of h, k _ _ _ _ w (fun b h => h) r.fr r (.bl _)⟩
/-! ### isinstance -/
def tyN : PyData → String
  | .none => "NoneType"
  | .bool _ => "bool"
  | .int _ => "int"
  | .str _ => "str"
  | .list _ => "list"
  | .tuple _ => "tuple"
  | .dict _ => "dict"
theorem Dn.ty {K : PySem.W.Frag} {H : Hp} {N : Addr → Prop} {v : V} {d : PyData} (h : Dn K H N v d) : TyX K H v (.type (tyN d)) := by
  cases h with
  | non => exact .base .non
  | bl b => exact .base (.bl b)
  | int i => exact .base (.int i)
  | str x => exact .base (.str x)
  | lst h n t => exact .base (.lst h)
  | dct h n => exact .base (.dK h)
  | tup h t =>
    rcases h with (h | ⟨o, h⟩) | ⟨o, its, n, h, c, _⟩
    · exact .base (.tup h)
    · exact .fTuple h
    · exact .kTuple h c
def wIsi (f : PyData → Bool) (a : WE) : WE := fun ρ P => a ρ fun d ρ1 => P (.bool (f d)) ρ1
theorem fe_isi {T : String} {f : PyData → Bool} {t : TE} {a : WE} (hT : ∀ d, kitB (tyN d) T = some (f d)) (h : FE C t a) : FE C (tCB (rIsi C.K) (tCons t (tCons (tC (.ty T)) tNil))) (wIsi f a) := fun σ H ρ N Q P r w k =>
  h σ H ρ N _ _ r w fun v H1 N1 ρ1 d w1 n1 k1 r1 h1 => ⟨_, _, _, _, f d, rfl, .ty T, h1.ty, kit_ty (hT d), k _ H1 N1 ρ1 _ w1 n1 k1 r1 (.bl _)⟩
def isInt : PyData → Bool
  | .int _ | .bool _ => true
  | _ => false
def isBool : PyData → Bool
  | .bool _ => true
  | _ => false
def isStr : PyData → Bool
  | .str _ => true
  | _ => false
def isList : PyData → Bool
  | .list _ => true
  | _ => false
def isTup : PyData → Bool
  | .tuple _ => true
  | _ => false
def isDict : PyData → Bool
  | .dict _ => true
  | _ => false
theorem kInt : ∀ d, kitB (tyN d) "int" = some (isInt d) := by
  intro d
  cases d
  · exact (by decide +kernel : kitB "NoneType" "int" = some false)
  · exact (by decide +kernel : kitB "bool" "int" = some true)
  · exact (by decide +kernel : kitB "int" "int" = some true)
  · exact (by decide +kernel : kitB "str" "int" = some false)
  · exact (by decide +kernel : kitB "list" "int" = some false)
  · exact (by decide +kernel : kitB "tuple" "int" = some false)
  · exact (by decide +kernel : kitB "dict" "int" = some false)
theorem kBool : ∀ d, kitB (tyN d) "bool" = some (isBool d) := by
  intro d
  cases d
  · exact (by decide +kernel : kitB "NoneType" "bool" = some false)
  · exact (by decide +kernel : kitB "bool" "bool" = some true)
  · exact (by decide +kernel : kitB "int" "bool" = some false)
  · exact (by decide +kernel : kitB "str" "bool" = some false)
  · exact (by decide +kernel : kitB "list" "bool" = some false)
  · exact (by decide +kernel : kitB "tuple" "bool" = some false)
  · exact (by decide +kernel : kitB "dict" "bool" = some false)
theorem kStr : ∀ d, kitB (tyN d) "str" = some (isStr d) := by
  intro d
  cases d
  · exact (by decide +kernel : kitB "NoneType" "str" = some false)
  · exact (by decide +kernel : kitB "bool" "str" = some false)
  · exact (by decide +kernel : kitB "int" "str" = some false)
  · exact (by decide +kernel : kitB "str" "str" = some true)
  · exact (by decide +kernel : kitB "list" "str" = some false)
  · exact (by decide +kernel : kitB "tuple" "str" = some false)
  · exact (by decide +kernel : kitB "dict" "str" = some false)
theorem kList : ∀ d, kitB (tyN d) "list" = some (isList d) := by
  intro d
  cases d
  · exact (by decide +kernel : kitB "NoneType" "list" = some false)
  · exact (by decide +kernel : kitB "bool" "list" = some false)
  · exact (by decide +kernel : kitB "int" "list" = some false)
  · exact (by decide +kernel : kitB "str" "list" = some false)
  · exact (by decide +kernel : kitB "list" "list" = some true)
  · exact (by decide +kernel : kitB "tuple" "list" = some false)
  · exact (by decide +kernel : kitB "dict" "list" = some false)
theorem kTup : ∀ d, kitB (tyN d) "tuple" = some (isTup d) := by
  intro d
  cases d
  · exact (by decide +kernel : kitB "NoneType" "tuple" = some false)
  · exact (by decide +kernel : kitB "bool" "tuple" = some false)
  · exact (by decide +kernel : kitB "int" "tuple" = some false)
  · exact (by decide +kernel : kitB "str" "tuple" = some false)
  · exact (by decide +kernel : kitB "list" "tuple" = some false)
  · exact (by decide +kernel : kitB "tuple" "tuple" = some true)
  · exact (by decide +kernel : kitB "dict" "tuple" = some false)
theorem kDict : ∀ d, kitB (tyN d) "dict" = some (isDict d) := by
  intro d
  cases d
  · exact (by decide +kernel : kitB "NoneType" "dict" = some false)
  · exact (by decide +kernel : kitB "bool" "dict" = some false)
  · exact (by decide +kernel : kitB "int" "dict" = some false)
  · exact (by decide +kernel : kitB "str" "dict" = some false)
  · exact (by decide +kernel : kitB "list" "dict" = some false)
  · exact (by decide +kernel : kitB "tuple" "dict" = some false)
  · exact (by decide +kernel : kitB "dict" "dict" = some true)
/-! ### defs by worths -/
/-- a def that makes a thing of things: what it tells lies where the things lie, or is new -/
def spP (f : W1) (K : PySem.W.Frag) : Sp := fun vs H Q _ => ∃ (N : Addr → Prop) (ds : List PyData) (P : PyData → Prop), Dns K H N vs ds ∧ (∀ b, N b → H b ≠ none) ∧ f ds P ∧
  ∀ v H' N' z, P z → (∀ b, N b → N' b) → (∀ b, N' b → N b ∨ H b = none) → (∀ b, N' b → H' b ≠ none) → Same H H' → Dn K H' N' v z → Q v H'
theorem Rep.after (ok : C.Ok) {σ : L2.St} {ρ : Env} {N N' : Addr → Prop} {H H' : Hp} (r : Rep C σ ρ N H) (n1 : ∀ b, N b → N' b) (n2 : ∀ b, N' b → N b ∨ H b = none) (n3 : ∀ b, N' b → H' b ≠ none) (s : Same H H') : Rep C σ ρ N' H' ∧ Fr C σ ρ N σ ρ N' H H' := by
  refine ⟨?_, { keep := fun b o h _ _ => s b o h, own := fun b h => ⟨(r.ownA h).1, .inl h⟩, dom := fun b h => ?_, up := fun b h => ?_ }⟩
  rotate_left
  · cases e : H b with
    | none => exact absurd e h
    | some o => rw [s b o e]; exact fun z => nomatch z
  · rcases n2 b h with q | q
    · exact .inl q
    · exact .inr (.inl q)
  exact {
    len := r.len
    dat := fun i d e => by
      obtain ⟨v, h1, h2⟩ := r.dat i d e
      exact ⟨v, h1, h2.mono (.same s) n1⟩
    own := fun i ds e => by
      obtain ⟨a, vs, h1, h2, h3, h4, h5, h6⟩ := r.own i ds e
      refine ⟨a, vs, h1, s _ _ h2, h3.mono (.same s) n1, fun z => ?_, h5, h6⟩
      rcases n2 a z with z | z
      · exact h4 z
      · rw [h2] at z; cases z
    sep := r.sep
    fix := r.fix
    old := fun b u e m => s _ _ (r.old b u e m)
    new := fun b n => by
      rcases n2 b n with z | z
      · exact r.new b z
      · obtain ⟨q1, q2⟩ := r.h0 z
        exact ⟨.inr q1, q2⟩
    has := n3
    mh := fun b n => by
      obtain ⟨xs, e⟩ := r.mh b n
      exact ⟨xs, s _ _ e⟩
    j := r.j.imp fun _ q => ⟨fun b h => n1 b (q.1 b h), ok.jm (.same s) q.2⟩ }
theorem fe_call (ok : C.Ok) {f : W1} {t : TA} {a : WA} {E : XK} (h : FA C t a) : FE C (tCall (spP f C.K) [] E t) (wCB f a) := fun σ H ρ N Q P r w k =>
  h σ H ρ N _ _ r w fun vs H1 N1 ρ1 ds w1 n1 k1 r1 h1 => by
    refine ⟨N1, ds, _, by rw [List.append_nil]; exact h1, r1.has, w1, fun v H2 N2 z w2 n2 n3 n4 s2 h2 => ?_⟩
    obtain ⟨r2, f2⟩ := r1.after ok n2 n3 n4 s2
    exact k v H2 N2 ρ1 z w2 (fun b h => n2 b (n1 b h)) (k1.trans f2) r2 h2
/-! ### statements -/
inductive Fl where
  | nx (ρ : Env)
  | rt (d : PyData) (ρ : Env)
  | bk (ρ : Env)
  | ct (ρ : Env)
abbrev WS := Env → (Fl → Prop) → Prop
structure KS (C : Ctx) (D : Ends) (σ : L2.St) (H : Hp) (ρ : Env) (N : Addr → Prop) (P : Fl → Prop) : Prop where
  nx : ∀ σ' H' N' ρ', P (.nx ρ') → (∀ b, N b → N' b) → Fr C σ ρ N σ' ρ' N' H H' → Rep C σ' ρ' N' H' → D.nx σ' H'
  rt : ∀ v H' N' ρ' σ' d, P (.rt d ρ') → (∀ b, N b → N' b) → Fr C σ ρ N σ' ρ' N' H H' → Rep C σ' ρ' N' H' → Dn C.K H' N' v d → D.rt v H'
  bk : ∀ σ' H' N' ρ', P (.bk ρ') → (∀ b, N b → N' b) → Fr C σ ρ N σ' ρ' N' H H' → Rep C σ' ρ' N' H' → D.bk σ' H'
  ct : ∀ σ' H' N' ρ', P (.ct ρ') → (∀ b, N b → N' b) → Fr C σ ρ N σ' ρ' N' H H' → Rep C σ' ρ' N' H' → D.ct σ' H'
def FS (C : Ctx) (t : TS) (W : WS) : Prop := ∀ D σ H ρ N P, Rep C σ ρ N H → W ρ P → KS C D σ H ρ N P → t D σ H
theorem KS.step {D : Ends} {σ σ1 : L2.St} {H H1 : Hp} {ρ ρ1 : Env} {N N1 : Addr → Prop} {P : Fl → Prop} (k : KS C D σ H ρ N P) (n1 : ∀ b, N b → N1 b) (f1 : Fr C σ ρ N σ1 ρ1 N1 H H1) : KS C D σ1 H1 ρ1 N1 P where
  nx := fun σ' H' N' ρ' p n f r => k.nx σ' H' N' ρ' p (fun b h => n b (n1 b h)) (f1.trans f) r
  rt := fun v H' N' ρ' σ' d p n f r h => k.rt v H' N' ρ' σ' d p (fun b h => n b (n1 b h)) (f1.trans f) r h
  bk := fun σ' H' N' ρ' p n f r => k.bk σ' H' N' ρ' p (fun b h => n b (n1 b h)) (f1.trans f) r
  ct := fun σ' H' N' ρ' p n f r => k.ct σ' H' N' ρ' p (fun b h => n b (n1 b h)) (f1.trans f) r
def wNext : WS := fun ρ P => P (.nx ρ)
def wSeq (a b : WS) : WS := fun ρ P => a ρ fun f => match f with
  | .nx ρ1 => b ρ1 P
  | .rt d ρ1 => P (.rt d ρ1)
  | .bk ρ1 => P (.bk ρ1)
  | .ct ρ1 => P (.ct ρ1)
theorem fs_next : FS C tNext wNext := fun D σ H ρ N P r w k => k.nx σ H N ρ w (fun _ h => h) r.fr r
theorem fs_seq {t u : TS} {a b : WS} (ha : FS C t a) (hb : FS C u b) : FS C (tSeq t u) (wSeq a b) := fun D σ H ρ N P r w k =>
  ha _ σ H ρ N _ r w {
    nx := fun σ1 H1 N1 ρ1 w1 n1 f1 r1 => hb D σ1 H1 ρ1 N1 P r1 w1 (k.step n1 f1)
    rt := fun v H1 N1 ρ1 σ1 d w1 n1 f1 r1 h1 => k.rt v H1 N1 ρ1 σ1 d w1 n1 f1 r1 h1
    bk := fun σ1 H1 N1 ρ1 w1 n1 f1 r1 => k.bk σ1 H1 N1 ρ1 w1 n1 f1 r1
    ct := fun σ1 H1 N1 ρ1 w1 n1 f1 r1 => k.ct σ1 H1 N1 ρ1 w1 n1 f1 r1 }
def wIfS (c : WT) (a b : WS) : WS := fun ρ P => c ρ fun k ρ1 => if k = true then a ρ1 P else b ρ1 P
theorem fs_if {c : TT} {t u : TS} {w : WT} {a b : WS} (hc : FT C c w) (ha : FS C t a) (hb : FS C u b) : FS C (tIfS c t u) (wIfS w a b) := fun D σ H ρ N P r w k =>
  hc σ H ρ N _ _ r w fun c H1 N1 ρ1 w1 n1 f1 r1 => by
    cases c with
    | true => exact ha D σ H1 ρ1 N1 P r1 w1 (k.step n1 f1)
    | false => exact hb D σ H1 ρ1 N1 P r1 w1 (k.step n1 f1)
def wRet (a : WE) : WS := fun ρ P => a ρ fun d ρ1 => P (.rt d ρ1)
theorem fs_ret {t : TE} {a : WE} (h : FE C t a) : FS C (tRet t) (wRet a) := fun D σ H ρ N P r w k => h σ H ρ N _ _ r w fun v H1 N1 ρ1 d w1 n1 f1 r1 h1 => k.rt v H1 N1 ρ1 σ d w1 n1 f1 r1 h1
def wRetN : WS := fun ρ P => P (.rt .none ρ)
theorem fs_retN : FS C tRetN wRetN := fun D σ H ρ N P r w k => k.rt .non H N ρ σ .none w (fun _ h => h) r.fr r .non
def wBreak : WS := fun ρ P => P (.bk ρ)
def wCont : WS := fun ρ P => P (.ct ρ)
theorem fs_break : FS C tBreak wBreak := fun D σ H ρ N P r w k => k.bk σ H N ρ w (fun _ h => h) r.fr r
theorem fs_cont : FS C tCont wCont := fun D σ H ρ N P r w k => k.ct σ H N ρ w (fun _ h => h) r.fr r
def wNever : WS := fun _ _ => False
theorem fs_never : FS C tNever wNever := fun D σ H ρ N P r w k => w.elim
def wDrop (a : WE) : WS := fun ρ P => a ρ fun _ ρ1 => P (.nx ρ1)
theorem fs_drop {t : TE} {a : WE} (h : FE C t a) : FS C (tDrop t) (wDrop a) := fun D σ H ρ N P r w k => h σ H ρ N _ _ r w fun v H1 N1 ρ1 d w1 n1 f1 r1 h1 => k.nx σ H1 N1 ρ1 w1 n1 f1 r1
/-! ### targets -/
abbrev WG := PyData → Env → (Env → Prop) → Prop
def But (js : List Nat) (σ σ' : L2.St) : Prop := σ'.length = σ.length ∧ ∀ j, j ∉ js → σ'[j]? = σ[j]?
def FG (C : Ctx) (js : List Nat) (g : TG) (W : WG) : Prop := ∀ σ H ρ N v d (Q : L2.St → Hp → Prop) (P : Env → Prop), Rep C σ ρ N H → Dn C.K H N v d → W d ρ P →
  (∀ σ' H' N' ρ', P ρ' → (∀ b, N b → N' b) → Fr C σ ρ N σ' ρ' N' H H' → Rep C σ' ρ' N' H' → But js σ σ' → Q σ' H') → g v σ H Q
abbrev WGs := List PyData → Env → (Env → Prop) → Prop
def FGs (C : Ctx) (js : List Nat) (g : TGs) (W : WGs) : Prop := ∀ σ H ρ N vs ds (Q : L2.St → Hp → Prop) (P : Env → Prop), Rep C σ ρ N H → Dns C.K H N vs ds → W ds ρ P →
  (∀ σ' H' N' ρ', P ρ' → (∀ b, N b → N' b) → Fr C σ ρ N σ' ρ' N' H H' → Rep C σ' ρ' N' H' → But js σ σ' → Q σ' H') → g vs σ H Q
/-- a name gets a thing (no fixed name) -/
def wName (fx : List Nat) (i : Nat) : WG := fun d ρ P => (fx.all fun p => p != i) = true ∧ i < ρ.sl.length ∧ P (ρ.put i (.dat d))
theorem Rep.put {σ : L2.St} {ρ : Env} {N : Addr → Prop} {H : Hp} {i : Nat} {v : V} {d : PyData} (r : Rep C σ ρ N H) (hf : (C.fx.all fun p => p != i) = true) (hi : i < ρ.sl.length) (h : Dn C.K H N v d) :
    Rep C (σ.set i (some v)) (ρ.put i (.dat d)) N H ∧ Fr C σ ρ N (σ.set i (some v)) (ρ.put i (.dat d)) N H H := by
  have hs : i < σ.length := by rw [r.len]; exact hi
  have get : ∀ j, j ≠ i → (σ.set i (some v))[j]? = σ[j]? := fun j z => List.getElem?_set_ne (Ne.symm z)
  have ow : ∀ b, OwnA (σ.set i (some v)) (ρ.put i (.dat d)) b → OwnA σ ρ b := fun b ⟨j, es, q1, q2⟩ => by
    rw [at_put hi] at q1
    by_cases z : j = i
    · rw [if_pos z] at q1; cases q1
    · rw [if_neg z] at q1
      rw [get j z] at q2
      exact ⟨j, es, q1, q2⟩
  refine ⟨?_, ⟨fun _ _ h _ _ => h, fun b z => ⟨(r.ownA (ow b z)).1, .inl (ow b z)⟩, fun _ h => h, fun _ h => .inl h⟩⟩
  exact {
    len := by show (σ.set i _).length = (ρ.sl.set i _).length; rw [List.length_set, List.length_set]; exact r.len
    dat := fun j e q => by
      rw [at_put hi] at q
      by_cases z : j = i
      · rw [if_pos z] at q
        cases q
        subst z
        exact ⟨v, List.getElem?_set_self hs, h⟩
      · rw [if_neg z] at q
        rw [get j z]
        exact r.dat j e q
    own := fun j es q => by
      rw [at_put hi] at q
      by_cases z : j = i
      · rw [if_pos z] at q; cases q
      · rw [if_neg z] at q
        rw [get j z]
        exact r.own j es q
    sep := fun j k es fs b z q1 q2 => by
      rw [at_put hi] at q1 q2
      by_cases y : j = i
      · rw [if_pos y] at q1; cases q1
      by_cases x : k = i
      · rw [if_pos x] at q2; cases q2
      rw [if_neg y] at q1
      rw [if_neg x] at q2
      rw [get j y, get k x]
      exact r.sep j k es fs b z q1 q2
    fix := fun p hp => by
      obtain ⟨g1, g2⟩ := r.fix p hp
      have ne : p ≠ i := by
        have := List.all_eq_true.mp hf p hp
        simpa using this
      rw [get _ ne, at_put hi, if_neg ne]
      exact ⟨g1, g2⟩
    old := r.old
    new := r.new
    has := r.has
    mh := r.mh
    j := r.j }
theorem fg_name {i : Nat} : FG C [i] (gName i) (wName C.fx i) := fun σ H ρ N v d Q P r h w k => by
  obtain ⟨r2, f2⟩ := r.put w.1 w.2.1 h
  exact k _ H N _ w.2.2 (fun _ h => h) f2 r2 ⟨List.length_set .., fun j z => List.getElem?_set_ne fun e => z (by rw [← e]; exact List.mem_cons_self)⟩
def wgNil : WGs := fun ds ρ P => ds = [] ∧ P ρ
def wgCons (g : WG) (t : WGs) : WGs := fun ds ρ P => match ds with
  | d :: r => g d ρ fun ρ1 => t r ρ1 P
  | [] => False
theorem fg_nil : FGs C [] gNil wgNil := fun σ H ρ N vs ds Q P r h w k => by
  obtain ⟨e, w⟩ := w
  subst e
  cases h
  exact ⟨rfl, k σ H N ρ w (fun _ h => h) r.fr r ⟨rfl, fun _ _ => rfl⟩⟩
theorem fg_cons {g : TG} {t : TGs} {a : WG} {b : WGs} {js ks : List Nat} (ha : FG C js g a) (hb : FGs C ks t b) : FGs C (js ++ ks) (gCons g t) (wgCons a b) := fun σ H ρ N vs ds Q P r h w k => by
  cases h with
  | nil => exact w.elim
  | cons h t =>
    refine ⟨_, _, rfl, ha σ H ρ N _ _ _ _ r h w fun σ1 H1 N1 ρ1 w1 n1 f1 r1 b1 => ?_⟩
    exact hb σ1 H1 ρ1 N1 _ _ _ _ r1 (t.mono (f1.kp r) n1) w1 fun σ2 H2 N2 ρ2 w2 n2 f2 r2 b2 => k σ2 H2 N2 ρ2 w2 (fun b h => n2 b (n1 b h)) (f1.trans f2) r2 ⟨b2.1.trans b1.1, fun j z => (b2.2 j fun q => z (List.mem_append_right _ q)).trans (b1.2 j fun q => z (List.mem_append_left _ q))⟩
def wgTup (n : Nat) (t : WGs) : WG := fun d ρ P => match d with
  | .tuple ds => ds.length = n ∧ t ds ρ P
  | _ => False
theorem fg_tup {n : Nat} {t : TGs} {a : WGs} {js : List Nat} (h : FGs C js t a) : FG C js (gTup C.K n t) (wgTup n a) := fun σ H ρ N v d Q P r hd w k => by
  cases hd <;> first | exact w.elim | skip
  rename_i a xs ds hq t
  exact ⟨_, _, rfl, hq, by rw [t.len]; exact w.1, h σ H ρ N _ _ _ _ r t w.2 k⟩
def wAsg (a : WE) (g : WG) : WS := fun ρ P => a ρ fun d ρ1 => g d ρ1 fun ρ2 => P (.nx ρ2)
theorem fs_asg {t : TE} {g : TG} {a : WE} {b : WG} {js : List Nat} (ha : FE C t a) (hg : FG C js g b) : FS C (tAsg t g) (wAsg a b) := fun D σ H ρ N P r w k =>
  ha σ H ρ N _ _ r w fun v H1 N1 ρ1 d w1 n1 f1 r1 h1 => hg σ H1 ρ1 N1 v d _ _ r1 h1 w1 fun σ2 H2 N2 ρ2 w2 n2 f2 r2 _ => k.nx σ2 H2 N2 ρ2 w2 (fun b h => n2 b (n1 b h)) (f1.trans f2) r2
end WD
namespace WD
open PySem PySem.Spec PyProof.Rows L2
variable {C : Ctx}
/-! ### what is walked -/
def Iw (C : Ctx) (J : It) (N1 : Addr → Prop) (H1 : Hp) (ds : List PyData) : Prop := ∀ i H, Kp C.K N1 H1 H → (i < ds.length → J.go i H ∧ ∀ x H', J.yld i H x H' → ∃ d, ds[i]? = some d ∧
  ∀ σ ρ N, (∀ b, N1 b → N b) → Rep C σ ρ N H → Fr C σ ρ N σ ρ N H H' ∧ Rep C σ ρ N H' ∧ Dn C.K H' N x d) ∧ (ds.length ≤ i → J.stop i H)
abbrev WI := Env → (List PyData → Env → Prop) → Prop
def FI (C : Ctx) (wi : TI) (W : WI) : Prop := ∀ σ H ρ N (R : It → Hp → Prop) (P : List PyData → Env → Prop), Rep C σ ρ N H → W ρ P →
  (∀ J H' N' ρ' ds, P ds ρ' → (∀ b, N b → N' b) → Fr C σ ρ N σ ρ' N' H H' → Rep C σ ρ' N' H' → Iw C J N' H' ds → R J H') → wi σ H R
def wItL (a : WE) : WI := fun ρ P => a ρ fun d ρ1 => match d with
  | .list ds => P ds ρ1
  | _ => False
def wItT (a : WE) : WI := fun ρ P => a ρ fun d ρ1 => match d with
  | .tuple ds => P ds ρ1
  | _ => False
theorem fi_list {t : TE} {a : WE} (h : FE C t a) : FI C (iList C.K t) (wItL a) := fun σ H ρ N R P r w k => h σ H ρ N _ _ r w fun v H1 N1 ρ1 d w1 n1 f1 r1 h1 => by
  cases h1 <;> first | exact w1.elim | skip
  rename_i a xs ds h n t
  refine ⟨_, rfl, ⟨_, SqL.of h⟩, k _ H1 N1 ρ1 ds w1 n1 f1 r1 fun i H2 kp => ?_⟩
  have h2 := kp.n _ _ n h
  refine ⟨fun hi => ?_, fun hi => ⟨_, SqL.of h2, by rw [t.len]; exact hi⟩⟩
  have hx : i < xs.length := by rw [t.len]; exact hi
  refine ⟨⟨xs, xs[i], SqL.of h2, List.getElem?_eq_getElem hx⟩, fun x H' y => ?_⟩
  obtain ⟨e, y⟩ := y
  subst e
  obtain ⟨d, e1, e2⟩ := t.at' (y xs (SqL.of h2))
  exact ⟨d, e1, fun σ ρ N n2 r => ⟨r.fr, r, e2.mono kp n2⟩⟩
theorem fi_tup {t : TE} {a : WE} (h : FE C t a) : FI C (iTup C.K t) (wItT a) := fun σ H ρ N R P r w k => h σ H ρ N _ _ r w fun v H1 N1 ρ1 d w1 n1 f1 r1 h1 => by
  cases h1 <;> first | exact w1.elim | skip
  rename_i a xs ds h t
  refine ⟨_, rfl, ⟨_, h⟩, k _ H1 N1 ρ1 ds w1 n1 f1 r1 fun i H2 kp => ?_⟩
  have h2 := kp.t _ _ h
  refine ⟨fun hi => ?_, fun hi => ⟨_, h2, by rw [t.len]; exact hi⟩⟩
  have hx : i < xs.length := by rw [t.len]; exact hi
  refine ⟨⟨xs, xs[i], h2, List.getElem?_eq_getElem hx⟩, fun x H' y => ?_⟩
  obtain ⟨e, y⟩ := y
  subst e
  obtain ⟨d, e1, e2⟩ := t.at' (y xs h2)
  exact ⟨d, e1, fun σ ρ N n2 r => ⟨r.fr, r, e2.mono kp n2⟩⟩
/-- lo, lo + 1, .. -/
def upFrom (lo : Int) (n : Nat) : List PyData := (List.range n).map fun i => .int (lo + (i : Nat))
theorem upFrom_len {lo : Int} {n : Nat} : (upFrom lo n).length = n := by unfold upFrom; rw [List.length_map, List.length_range]
theorem iw_range {lo : Int} {n : Nat} {N1 : Addr → Prop} {H1 : Hp} : Iw C (Itr lo n) N1 H1 (upFrom lo n) := fun i H kp => by
  rw [upFrom_len]
  refine ⟨fun hi => ⟨hi, fun x H' y => ?_⟩, fun hi => hi⟩
  obtain ⟨e, y⟩ := y
  subst e y
  refine ⟨.int (lo + (i : Nat)), ?_, fun σ ρ N n2 r => ⟨r.fr, r, .int _⟩⟩
  unfold upFrom
  rw [List.getElem?_map, List.getElem?_range hi]
  rfl
def wItR1 (a : WA) : WI := fun ρ P => a ρ fun ds ρ1 => match ds with
  | [.int j] => -(2 ^ 62) ≤ j ∧ j < 2 ^ 62 ∧ P (upFrom 0 j.toNat) ρ1
  | _ => False
theorem fi_range1 {t : TA} {a : WA} (h : FA C t a) : FI C (iRng1 t) (wItR1 a) := fun σ H ρ N R P r w k => h σ H ρ N _ _ r w fun v H1 N1 ρ1 d w1 n1 f1 r1 h1 => by
  cases h1 with
  | nil => exact w1.elim
  | cons h t =>
    cases t with
    | cons _ _ => cases h <;> exact w1.elim
    | nil =>
      cases h <;> first | exact w1.elim | skip
      exact ⟨_, rfl, w1.1, w1.2.1, k _ H1 N1 ρ1 _ w1.2.2 n1 f1 r1 iw_range⟩
def wItR2 (a : WA) : WI := fun ρ P => a ρ fun ds ρ1 => match ds with
  | [.int i, .int j] => (-(2 ^ 62) ≤ i ∧ i < 2 ^ 62 ∧ -(2 ^ 62) ≤ j ∧ j < 2 ^ 62) ∧ P (upFrom i (j - i).toNat) ρ1
  | _ => False
theorem fi_range2 {t : TA} {a : WA} (h : FA C t a) : FI C (iRng2 t) (wItR2 a) := fun σ H ρ N R P r w k => h σ H ρ N _ _ r w fun v H1 N1 ρ1 d w1 n1 f1 r1 h1 => by
  cases h1 with
  | nil => exact w1.elim
  | cons h t =>
    cases t with
    | nil => cases h <;> exact w1.elim
    | cons h2 t2 =>
      cases t2 with
      | cons _ _ => cases h <;> cases h2 <;> exact w1.elim
      | nil =>
        cases h <;> first | exact w1.elim | skip
        cases h2 <;> first | exact w1.elim | skip
        exact ⟨_, _, rfl, w1.1, k _ H1 N1 ρ1 _ w1.2 n1 f1 r1 iw_range⟩
/-- (0, x), (1, y), .. -/
def numbered (ds : List PyData) : List PyData := ds.zipIdx.map fun p => .tuple [.int (p.2 : Nat), p.1]
theorem numbered_len {ds : List PyData} : (numbered ds).length = ds.length := by unfold numbered; rw [List.length_map, List.length_zipIdx]
theorem numbered_at {ds : List PyData} {i : Nat} {d : PyData} (h : ds[i]? = some d) : (numbered ds)[i]? = some (.tuple [.int (i : Nat), d]) := by
  unfold numbered
  rw [List.getElem?_map, List.getElem?_zipIdx, h, Nat.zero_add]
  rfl
def wItE (a : WA) : WI := fun ρ P => a ρ fun ds ρ1 => match ds with
  | [.list xs] => P (numbered xs) ρ1
  | _ => False
theorem fi_enum (ok : C.Ok) {t : TA} {a : WA} (h : FA C t a) : FI C (iEnum C.K t) (wItE a) := fun σ H ρ N R P r w k => h σ H ρ N _ _ r w fun v H1 N1 ρ1 d w1 n1 f1 r1 h1 => by
  cases h1 with
  | nil => exact w1.elim
  | cons h t =>
    cases t with
    | cons _ _ => cases h <;> exact w1.elim
    | nil =>
      cases h <;> first | exact w1.elim | skip
      rename_i a xs ds h n t
      refine ⟨_, _, rfl, SqL.of h, k _ H1 N1 ρ1 _ w1 n1 f1 r1 fun i H2 kp => ?_⟩
      have h2 := kp.n _ _ n h
      rw [numbered_len]
      refine ⟨fun hi => ?_, fun hi => ⟨_, SqL.of h2, by rw [t.len]; exact hi⟩⟩
      have hx : i < xs.length := by rw [t.len]; exact hi
      refine ⟨⟨xs, xs[i], SqL.of h2, List.getElem?_eq_getElem hx⟩, fun x H' y => ?_⟩
      obtain ⟨T, z, e1, e2, e3, y⟩ := y
      subst e1 e3
      obtain ⟨d, g1, g2⟩ := t.at' (y xs (SqL.of h2))
      refine ⟨_, numbered_at g1, fun σ ρ N n2 r => ⟨r.frA e2, r.alloc ok e2, .tup (SqT.of upd_same) (.cons (.int _) (.cons ((g2.mono kp n2).mono (.upd e2) fun _ h => h) .nil))⟩⟩
/-! ### for -/
def wLoop (g : WG) (b : WS) : List PyData → Env → (Fl → Prop) → Prop
  | [], ρ, P => P (.nx ρ)
  | d :: ds, ρ, P => g d ρ fun ρ1 => b ρ1 fun f => match f with
    | .nx ρ2 => wLoop g b ds ρ2 P
    | .ct ρ2 => wLoop g b ds ρ2 P
    | .bk ρ2 => P (.nx ρ2)
    | .rt z ρ2 => P (.rt z ρ2)
def wFor (a : WI) (g : WG) (b : WS) : WS := fun ρ P => a ρ fun ds ρ1 => wLoop g b ds ρ1 P
theorem fs_for {wi : TI} {g : TG} {tb : TS} {a : WI} {b : WG} {c : WS} {js : List Nat} (hi : FI C wi a) (hg : FG C js g b) (hb : FS C tb c) : FS C (tFor wi g tb) (wFor a b c) := fun D σ H ρ N P r w k =>
  hi σ H ρ N _ _ r w fun J H1 N1 ρ1 ds w1 n1 f1 r1 it => by
    refine ⟨fun i m σ' H' => m = ds.length - i ∧ i ≤ ds.length ∧ ∃ N' ρ', (∀ b, N1 b → N' b) ∧ Fr C σ ρ1 N1 σ' ρ' N' H1 H' ∧ Rep C σ' ρ' N' H' ∧ wLoop b c (ds.drop i) ρ' P, ⟨ds.length, by simp, Nat.zero_le _, N1, ρ1, fun _ h => h, r1.fr, r1, w1⟩, ?_⟩
    rintro i m σ2 H2 ⟨rfl, hi2, N2, ρ2, n2, f2, r2, w2⟩
    have ii := it i H2 (f2.kp r1)
    by_cases hlt : i < ds.length
    · obtain ⟨go, y⟩ := ii.1 hlt
      refine .inr ⟨go, fun σ' H' => i + 1 ≤ ds.length ∧ ∃ N' ρ', (∀ b, N1 b → N' b) ∧ Fr C σ ρ1 N1 σ' ρ' N' H1 H' ∧ Rep C σ' ρ' N' H' ∧ wLoop b c (ds.drop (i + 1)) ρ' P, fun σ' H' p => ⟨ds.length - (i + 1), by omega, rfl, p⟩, fun x H' yl => ?_⟩
      obtain ⟨d, e1, e2⟩ := y x H' yl
      obtain ⟨f3, r3, h3⟩ := e2 σ2 ρ2 N2 n2 r2
      have ed : ds.drop i = d :: ds.drop (i + 1) := by
        rw [List.drop_eq_getElem_cons hlt]
        rw [List.getElem?_eq_getElem hlt] at e1
        rw [Option.some.inj e1]
      rw [ed] at w2
      refine hg σ2 H' ρ2 N2 x d _ _ r3 h3 w2 fun σ4 H4 N4 ρ4 w4 n4 f4 r4 b4 => ?_
      have f5 := (f2.trans f3).trans f4
      have n5 : ∀ b, N1 b → N4 b := fun b h => n4 b (n2 b h)
      refine hb _ σ4 H4 ρ4 N4 _ r4 w4 {
        nx := fun σ6 H6 N6 ρ6 w6 n6 f6 r6 => ⟨hlt, N6, ρ6, fun b h => n6 b (n5 b h), f5.trans f6, r6, w6⟩
        ct := fun σ6 H6 N6 ρ6 w6 n6 f6 r6 => ⟨hlt, N6, ρ6, fun b h => n6 b (n5 b h), f5.trans f6, r6, w6⟩
        bk := fun σ6 H6 N6 ρ6 w6 n6 f6 r6 => k.nx σ6 H6 N6 ρ6 w6 (fun b h => n6 b (n5 b (n1 b h))) ((f1.trans f5).trans f6) r6
        rt := fun v H6 N6 ρ6 σ6 d w6 n6 f6 r6 h6 => k.rt v H6 N6 ρ6 σ6 d w6 (fun b h => n6 b (n5 b (n1 b h))) ((f1.trans f5).trans f6) r6 h6 }
    · have e : i = ds.length := by omega
      subst e
      rw [List.drop_length] at w2
      exact .inl ⟨ii.2 (Nat.le_refl _), k.nx σ2 H2 N2 ρ2 w2 (fun b h => n2 b (n1 b h)) (f1.trans f2) r2⟩
/-! ### while -/
def wWhile (c : WT) (b : WS) : WS := fun ρ P => ∃ I : Nat → Env → Prop, (∃ m, I m ρ) ∧ ∀ m ρ', I m ρ' → c ρ' fun k ρ1 => if k = true then b ρ1 fun f => match f with
    | .nx ρ2 => ∃ m', m' < m ∧ I m' ρ2
    | .ct ρ2 => ∃ m', m' < m ∧ I m' ρ2
    | .bk ρ2 => P (.nx ρ2)
    | .rt z ρ2 => P (.rt z ρ2)
  else P (.nx ρ1)
theorem fs_while {tc : TT} {tb : TS} {c : WT} {b : WS} (hc : FT C tc c) (hb : FS C tb b) : FS C (tWhile tc tb) (wWhile c b) := fun D σ H ρ N P r w k => by
  obtain ⟨I, ⟨m0, i0⟩, turn⟩ := w
  refine ⟨fun m σ' H' => ∃ N' ρ', (∀ b, N b → N' b) ∧ Fr C σ ρ N σ' ρ' N' H H' ∧ Rep C σ' ρ' N' H' ∧ I m ρ', ⟨m0, N, ρ, fun _ h => h, r.fr, r, i0⟩, ?_⟩
  rintro m σ1 H1 ⟨N1, ρ1, n1, f1, r1, i1⟩
  refine hc σ1 H1 ρ1 N1 _ _ r1 (turn m ρ1 i1) fun v H2 N2 ρ2 w2 n2 f2 r2 => ?_
  cases v with
  | false => exact k.nx σ1 H2 N2 ρ2 w2 (fun b h => n2 b (n1 b h)) (f1.trans f2) r2
  | true =>
    refine ⟨fun σ' H' => ∃ m', m' < m ∧ ∃ N' ρ', (∀ b, N b → N' b) ∧ Fr C σ ρ N σ' ρ' N' H H' ∧ Rep C σ' ρ' N' H' ∧ I m' ρ', fun σ' H' ⟨m', l, p⟩ => ⟨m', l, p⟩, ?_⟩
    exact hb _ σ1 H2 ρ2 N2 _ r2 w2 {
      nx := fun σ6 H6 N6 ρ6 w6 n6 f6 r6 => by
        obtain ⟨m', l, q⟩ := w6
        exact ⟨m', l, N6, ρ6, fun b h => n6 b (n2 b (n1 b h)), (f1.trans f2).trans f6, r6, q⟩
      ct := fun σ6 H6 N6 ρ6 w6 n6 f6 r6 => by
        obtain ⟨m', l, q⟩ := w6
        exact ⟨m', l, N6, ρ6, fun b h => n6 b (n2 b (n1 b h)), (f1.trans f2).trans f6, r6, q⟩
      bk := fun σ6 H6 N6 ρ6 w6 n6 f6 r6 => k.nx σ6 H6 N6 ρ6 w6 (fun b h => n6 b (n2 b (n1 b h))) ((f1.trans f2).trans f6) r6
      rt := fun v H6 N6 ρ6 σ6 d w6 n6 f6 r6 h6 => k.rt v H6 N6 ρ6 σ6 d w6 (fun b h => n6 b (n2 b (n1 b h))) ((f1.trans f2).trans f6) r6 h6 }
/-! ### a def, from its body -/
def ctxP (K : PySem.W.Frag) (H : Hp) (N : Addr → Prop) : Ctx := ⟨K, H, fun _ => False, N, fun _ _ _ => True, [], .non⟩
theorem ctxP_ok {K : PySem.W.Frag} {H : Hp} {N : Addr → Prop} : (ctxP K H N).Ok := ⟨fun _ _ => trivial⟩
/-- the names at the begin: the things handed in, then n others -/
def env0 (ds : List PyData) (n : Nat) : Env := ⟨ds.map .dat ++ List.replicate n .un, 0⟩
theorem env0_at {ds : List PyData} {n i : Nat} {d : PyData} (h : (env0 ds n).at i = .dat d) : ds[i]? = some d := by
  unfold Env.at env0 at h
  rw [List.getD_eq_getElem?_getD] at h
  by_cases hi : i < ds.length
  · rw [List.getElem?_append_left (by rw [List.length_map]; exact hi), List.getElem?_map] at h
    rw [List.getElem?_eq_getElem hi] at h ⊢
    cases h
    rfl
  · rw [List.getElem?_append_right (by rw [List.length_map]; omega)] at h
    by_cases hj : i - (ds.map En.dat).length < n
    · rw [List.getElem?_replicate_of_lt hj] at h
      cases h
    · rw [List.getElem?_eq_none_iff.mpr (by rw [List.length_replicate]; omega)] at h
      cases h
theorem env0_own {ds es : List PyData} {n i : Nat} (h : (env0 ds n).at i = .own es) : False := by
  unfold Env.at env0 at h
  rw [List.getD_eq_getElem?_getD] at h
  by_cases hi : i < ds.length
  · rw [List.getElem?_append_left (by rw [List.length_map]; exact hi), List.getElem?_map, List.getElem?_eq_getElem hi] at h
    cases h
  · rw [List.getElem?_append_right (by rw [List.length_map]; omega)] at h
    by_cases hj : i - (ds.map En.dat).length < n
    · rw [List.getElem?_replicate_of_lt hj] at h
      cases h
    · rw [List.getElem?_eq_none_iff.mpr (by rw [List.length_replicate]; omega)] at h
      cases h
theorem rep0 {K : PySem.W.Frag} {H : Hp} {N : Addr → Prop} {vs : List V} {ds : List PyData} {n : Nat} (t : Dns K H N vs ds) (hN : ∀ b, N b → H b ≠ none) :
    Rep (ctxP K H N) (vs.map some ++ List.replicate n none) (env0 ds n) N H where
  len := by show (vs.map some ++ List.replicate n none).length = (ds.map En.dat ++ List.replicate n En.un).length; rw [List.length_append, List.length_append, List.length_map, List.length_map, List.length_replicate, List.length_replicate, t.len]
  dat := fun i d e => by
    obtain ⟨v, h1, h2⟩ := t.at (env0_at e)
    refine ⟨v, ?_, h2⟩
    have hi := (List.getElem?_eq_some_iff.mp h1).1
    rw [List.getElem?_append_left (by rw [List.length_map]; exact hi), List.getElem?_map, h1]
    rfl
  own := fun i es e => (env0_own e).elim
  sep := fun i j es fs a _ e _ _ _ => env0_own e
  fix := fun p hp => by cases hp
  old := fun b o e _ => e
  new := fun b n => ⟨.inl n, fun z => z⟩
  has := hN
  mh := fun b z => z.elim
  j := ⟨N, fun _ h => h, trivial⟩
/-- what a body tells -/
def wBody (n : Nat) (W : WS) : W1 := fun ds P => W (env0 ds n) fun f => match f with
  | .nx _ => P .none
  | .rt d _ => P d
  | _ => False
theorem body_ok {K : PySem.W.Frag} {t : TS} {W : WS} {n : Nat} {N : Addr → Prop} {H : Hp} {vs : List V} {ds : List PyData} {P : PyData → Prop} {Q : VK} (h : FS (ctxP K H N) t W) (hd : Dns K H N vs ds) (hN : ∀ b, N b → H b ≠ none) (w : wBody n W ds P)
    (q : ∀ v H' N' z, P z → (∀ b, N b → N' b) → (∀ b, N' b → N b ∨ H b = none) → (∀ b, N' b → H' b ≠ none) → Same H H' → Dn K H' N' v z → Q v H') :
    t { nx := fun _ H' => Q .non H', rt := Q } (vs.map some ++ List.replicate n none) H := by
  have fin : ∀ {σ' ρ' N' H'}, Rep (ctxP K H N) σ' ρ' N' H' → (∀ b, N' b → N b ∨ H b = none) ∧ (∀ b, N' b → H' b ≠ none) ∧ Same H H' := fun {σ' ρ' N' H'} r => ⟨fun b n => (r.new b n).1, r.has, fun b o e => r.old b o e fun z => z⟩
  exact h _ _ H _ N _ (rep0 hd hN) w {
    nx := fun σ' H' N' ρ' p n f r => by
      obtain ⟨g1, g2, g3⟩ := fin r
      exact q .non H' N' .none p n g1 g2 g3 .non
    rt := fun v H' N' ρ' σ' d p n f r hd => by
      obtain ⟨g1, g2, g3⟩ := fin r
      exact q v H' N' d p n g1 g2 g3 hd
    bk := fun σ' H' N' ρ' p n f r => p
    ct := fun σ' H' N' ρ' p n f r => p }
end WD
namespace WD
open PySem PySem.Spec PyProof.Rows L2
variable {C : Ctx}
/-! ### new lists that nobody else has yet -/
abbrev WO := Env → (List PyData → Env → Prop) → Prop
def FO (C : Ctx) (t : TE) (W : WO) : Prop := ∀ σ H ρ N (Q : VK) (P : List PyData → Env → Prop), Rep C σ ρ N H → W ρ P →
  (∀ a vs H' N' ρ' ds, P ds ρ' → (∀ b, N b → N' b) → Fr C σ ρ N σ ρ' N' H H' → Rep C σ ρ' N' H' → H' a = some (.lst vs) → Dns C.K H' N' vs ds → ¬ N' a → H a = none → C.H0 a = none → ¬ C.M a → ¬ OwnA σ ρ' a → Q (.ref a) H') → t σ H Q
def wTell (W : WO) : WE := fun ρ P => W ρ fun ds ρ1 => P (.list ds) ρ1
theorem fe_o {t : TE} {W : WO} (h : FO C t W) : FE C t (wTell W) := fun σ H ρ N Q P r w k =>
  h σ H ρ N _ _ r w fun a vs H' N' ρ' ds w1 n1 f1 r1 ha hd hn h1 h2 h3 h4 => by
    refine k (.ref a) H' (fun b => N' b ∨ b = a) ρ' (.list ds) w1 (fun b h => .inl (n1 b h)) ⟨f1.keep, f1.own, f1.dom, fun b h => by
      rcases h with h | h
      · exact f1.up b h
      · exact .inr (.inl (by rw [h]; exact h1))⟩ ?_ (.lst ha (.inr rfl) (hd.mono .refl fun _ h => .inl h))
    exact r1.more h2 h3 (by rw [ha]; exact fun z => nomatch z) fun i ds e z => h4 ⟨i, ds, e, z⟩
/-- what is new is no own list -/
theorem Rep.notOwn {σ : L2.St} {ρ : Env} {N : Addr → Prop} {H : Hp} {p : Addr} (r : Rep C σ ρ N H) (hp : H p = none) : ¬ OwnA σ ρ p := fun z => by
  obtain ⟨_, _, _, xs, e⟩ := r.ownA z
  rw [hp] at e
  cases e
theorem Rep.notN {σ : L2.St} {ρ : Env} {N : Addr → Prop} {H : Hp} {p : Addr} (r : Rep C σ ρ N H) (hp : H p = none) : ¬ N p := fun z => r.has p z hp
theorem fo_lst {t : TA} {a : WA} (ok : C.Ok) (h : FA C t a) : FO C (tLst t) (fun ρ P => a ρ fun ds ρ1 => ds.length ≤ 16777216 ∧ P ds ρ1) := fun σ H ρ N Q P r w k =>
  h σ H ρ N _ _ r w fun vs H1 N1 ρ1 ds ⟨l, w1⟩ n1 k1 r1 h1 => by
    refine ⟨by rw [szl, h1.len]; exact l, fun p hp => ?_⟩
    obtain ⟨q1, q2⟩ := r1.h0 hp
    exact k p vs _ N1 ρ1 ds w1 n1 (k1.trans (r1.frA hp)) (r1.alloc ok hp) upd_same (h1.mono (.upd hp) fun _ h => h) (r1.notN hp) (k1.back hp) q1 q2 (r1.notOwn hp)
theorem fo_listOf (ok : C.Ok) {t : TA} {a : WA} (h : FA C t a) : FO C (tCB (fun xs H Q => ∃ p ys, xs = [V.ref p] ∧ (SqL C.K H p ys ∨ SqT C.K H p ys) ∧ ∀ (l : Addr), H l = none → Q (V.ref l) (upd H l (HO.lst ys))) t) (fun ρ P => a ρ fun ds ρ1 => match ds with
  | [.list xs] => P xs ρ1
  | [.tuple xs] => P xs ρ1
  | _ => False) := fun σ H ρ N Q P r w k => h σ H ρ N _ _ r w fun vs H1 N1 ρ1 ds w1 n1 k1 r1 h1 => by
  cases h1 with
  | nil => exact w1.elim
  | cons h t =>
    cases t with
    | cons h2 t2 => cases h <;> exact w1.elim
    | nil =>
      cases h <;> first | exact w1.elim | skip
      · rename_i a xs ds h n t
        refine ⟨_, _, rfl, .inl (SqL.of h), fun l hl => ?_⟩
        obtain ⟨q1, q2⟩ := r1.h0 hl
        exact k l _ _ N1 ρ1 _ w1 n1 (k1.trans (r1.frA hl)) (r1.alloc ok hl) upd_same (t.mono (.upd hl) fun _ h => h) (r1.notN hl) (k1.back hl) q1 q2 (r1.notOwn hl)
      · rename_i a xs ds h t
        refine ⟨_, _, rfl, .inr h, fun l hl => ?_⟩
        obtain ⟨q1, q2⟩ := r1.h0 hl
        exact k l _ _ N1 ρ1 _ w1 n1 (k1.trans (r1.frA hl)) (r1.alloc ok hl) upd_same (t.mono (.upd hl) fun _ h => h) (r1.notN hl) (k1.back hl) q1 q2 (r1.notOwn hl)
/-- a name gets a new list as its own -/
theorem fs_own {t : TE} {W : WO} {i : Nat} (h : FO C t W) : FS C (tAsg t (gName i)) (fun ρ P => W ρ fun ds ρ1 => (C.fx.all fun p => p != i) = true ∧ i < ρ1.sl.length ∧ P (.nx (ρ1.put i (.own ds)))) := fun D σ H ρ N P r w k =>
  h σ H ρ N _ _ r w fun a vs H1 N1 ρ1 ds ⟨hf, hi, w1⟩ n1 f1 r1 ha hd hn hp h2 h3 h4 => by
    have hs : i < σ.length := by rw [r1.len]; exact hi
    have get : ∀ j, j ≠ i → (σ.set i (some (.ref a)))[j]? = σ[j]? := fun j z => List.getElem?_set_ne (Ne.symm z)
    have self : (σ.set i (some (V.ref a)))[i]? = some (some (.ref a)) := List.getElem?_set_self hs
    have ow : ∀ b, OwnA (σ.set i (some (.ref a))) (ρ1.put i (.own ds)) b → OwnA σ ρ1 b ∨ b = a := fun b ⟨j, es, q1, q2⟩ => by
      by_cases z : j = i
      · subst z
        rw [self] at q2
        cases q2
        exact .inr rfl
      · rw [at_put hi, if_neg z] at q1
        rw [get j z] at q2
        exact .inl ⟨j, es, q1, q2⟩
    refine k.nx _ H1 N1 _ w1 n1 ⟨f1.keep, fun b z => ?_, f1.dom, f1.up⟩ ?_
    · rcases ow b z with z | z
      · exact f1.own b z
      · subst z
        exact ⟨h3, .inr hp⟩
    · exact {
        len := by show (σ.set i _).length = (ρ1.sl.set i _).length; rw [List.length_set, List.length_set]; exact r1.len
        dat := fun j e q => by
          rw [at_put hi] at q
          by_cases z : j = i
          · rw [if_pos z] at q; cases q
          · rw [if_neg z] at q
            rw [get j z]
            exact r1.dat j e q
        own := fun j es q => by
          rw [at_put hi] at q
          by_cases z : j = i
          · rw [if_pos z] at q
            cases q
            subst z
            exact ⟨a, vs, self, ha, hd, hn, h2, h3⟩
          · rw [if_neg z] at q
            rw [get j z]
            exact r1.own j es q
        sep := fun j k es fs b z q1 q2 g1 g2 => by
          rw [at_put hi] at q1 q2
          by_cases y : j = i
          · subst y
            rw [self] at g1
            cases g1
            rw [if_neg (Ne.symm z)] at q2
            rw [get k (Ne.symm z)] at g2
            exact h4 ⟨k, fs, q2, g2⟩
          by_cases x : k = i
          · subst x
            rw [self] at g2
            cases g2
            rw [if_neg z] at q1
            rw [get j z] at g1
            exact h4 ⟨j, es, q1, g1⟩
          rw [if_neg y] at q1
          rw [if_neg x] at q2
          rw [get j y] at g1
          rw [get k x] at g2
          exact r1.sep j k es fs b z q1 q2 g1 g2
        fix := fun p hp => by
          obtain ⟨g1, g2⟩ := r1.fix p hp
          have ne : p ≠ i := by
            have := List.all_eq_true.mp hf p hp
            simpa using this
          rw [get _ ne, at_put hi, if_neg ne]
          exact ⟨g1, g2⟩
        old := r1.old
        new := r1.new
        has := r1.has
        mh := r1.mh
        j := r1.j }
/-! ### own lists, changed -/
/-- an own list is written -/
theorem Rep.write (ok : C.Ok) {σ : L2.St} {ρ : Env} {N : Addr → Prop} {H : Hp} {i : Nat} {ds es : List PyData} {a : Addr} {us vs : List V} (r : Rep C σ ρ N H) (e : ρ.at i = .own ds) (ha : σ[i]? = some (some (.ref a))) (hv : H a = some (.lst vs)) (hd : Dns C.K H N us es) :
    Rep C σ (ρ.put i (.own es)) N (upd H a (.lst us)) ∧ Fr C σ ρ N σ (ρ.put i (.own es)) N H (upd H a (.lst us)) := by
  have hi : i < ρ.sl.length := at_lt (by rw [e]; exact fun z => nomatch z)
  obtain ⟨a', vs', h1, h2, h3, h4, h5, h6⟩ := r.own i ds e
  rw [ha] at h1
  cases h1
  have kp : Kp C.K N H (upd H a (.lst us)) := .set hv h4
  have ow : ∀ b, OwnA σ (ρ.put i (.own es)) b → OwnA σ ρ b := fun b ⟨j, fs, q1, q2⟩ => by
    rw [at_put hi] at q1
    by_cases z : j = i
    · subst z
      exact ⟨j, ds, e, q2⟩
    · rw [if_neg z] at q1
      exact ⟨j, fs, q1, q2⟩
  have dom : ∀ b, H b ≠ none → upd H a (.lst us) b ≠ none := fun b h => by
    by_cases z : b = a
    · rw [z, upd_same]; exact fun z => nomatch z
    · rw [upd_ne z]; exact h
  refine ⟨?_, ⟨fun b o h m n => ?_, fun b z => ⟨(r.ownA (ow b z)).1, .inl (ow b z)⟩, dom, fun _ h => .inl h⟩⟩
  · exact {
      len := by show σ.length = (ρ.sl.set i _).length; rw [List.length_set]; exact r.len
      dat := fun j d q => by
        rw [at_put hi] at q
        by_cases z : j = i
        · rw [if_pos z] at q; cases q
        · rw [if_neg z] at q
          obtain ⟨v, g1, g2⟩ := r.dat j d q
          exact ⟨v, g1, g2.mono kp fun _ h => h⟩
      own := fun j fs q => by
        rw [at_put hi] at q
        by_cases z : j = i
        · rw [if_pos z] at q
          cases q
          subst z
          exact ⟨a, us, ha, upd_same, hd.mono kp fun _ h => h, h4, h5, h6⟩
        · rw [if_neg z] at q
          obtain ⟨b, ws, g1, g2, g3, g4⟩ := r.own j fs q
          have ne : b ≠ a := fun y => r.sep j i fs ds a z q e (by rw [← y]; exact g1) ha
          exact ⟨b, ws, g1, by rw [upd_ne ne]; exact g2, g3.mono kp fun _ h => h, g4⟩
      sep := fun j k es' fs b z q1 q2 g1 g2 => by
        rw [at_put hi] at q1 q2
        by_cases y : j = i
        · subst y
          rw [if_neg (Ne.symm z)] at q2
          exact r.sep j k ds fs b z e q2 g1 g2
        by_cases x : k = i
        · subst x
          rw [if_neg z] at q1
          exact r.sep j k es' ds b z q1 e g1 g2
        rw [if_neg y] at q1
        rw [if_neg x] at q2
        exact r.sep j k es' fs b z q1 q2 g1 g2
      fix := fun p hp => by
        obtain ⟨g1, g2⟩ := r.fix p hp
        refine ⟨g1, ?_⟩
        rw [at_put hi, if_neg (fun z => by rw [z, e] at g2; cases g2)]
        exact g2
      old := fun b o h m => by
        have ne : b ≠ a := fun z => by rw [z, h5] at h; cases h
        rw [upd_ne ne]
        exact r.old b o h m
      new := r.new
      has := fun b n => dom b (r.has b n)
      mh := fun b m => by
        obtain ⟨xs, q⟩ := r.mh b m
        have ne : b ≠ a := fun z => h6 (by rw [← z]; exact m)
        exact ⟨xs, by rw [upd_ne ne]; exact q⟩
      j := r.j.imp fun _ q => ⟨q.1, ok.jm (.set hv fun z => z.elim (fun z => h4 (q.1 _ z)) h6) q.2⟩ }
  · have ne : b ≠ a := fun z => n ⟨i, ds, e, by rw [z]; exact ha⟩
    rw [upd_ne ne]
    exact h
def ownOf : En → Option (List PyData)
  | .own ds => some ds
  | _ => none
theorem ownOf_eq : ∀ {e : En} {ds : List PyData}, ownOf e = some ds → e = .own ds
  | .own ds, _, h => by cases h; rfl
  | .un, _, h => nomatch h
  | .dat _, _, h => nomatch h
/-- x.append(e), x own -/
def wAppend (i : Nat) (a : WE) : WE := fun ρ P => (ownOf (ρ.at i)).isSome = true ∧ a ρ fun d ρ1 => ∃ ds, ownOf (ρ1.at i) = some ds ∧ ds.length < 16777216 ∧ P .none (ρ1.put i (.own (ds ++ [d])))
theorem fe_append (ok : C.Ok) {i : Nat} {t : TE} {a : WE} (h : FE C t a) : FE C (tBM C.K "list" rAppend (tVar i) (tCons t tNil)) (wAppend i a) := fun σ H ρ N Q P r w k => by
  obtain ⟨w0, w⟩ := w
  obtain ⟨ds0, e0⟩ := Option.isSome_iff_exists.mp w0
  obtain ⟨p, vs, h1, h2, _⟩ := r.own i ds0 (ownOf_eq e0)
  refine ⟨.ref p, h1, .inl ⟨rfl, vs, SqL.of h2⟩, ?_⟩
  refine h σ H ρ N _ _ r w fun v H1 N1 ρ1 d w1 n1 f1 r1 hd => ?_
  obtain ⟨ds, e1, l, w1⟩ := w1
  have e1 := ownOf_eq e1
  obtain ⟨p', vs', g1, g2, g3, g4⟩ := r1.own i ds e1
  rw [h1] at g1
  cases g1
  refine ⟨p, vs', v, rfl, rfl, g2, by rw [szl, g3.len]; exact l, ?_⟩
  obtain ⟨r2, f2⟩ := r1.write ok e1 h1 g2 (g3.append (.cons hd .nil))
  exact k .non _ N1 _ .none w1 n1 (f1.trans f2) r2 .non
/-- x.pop(), x own -/
def wPop (i : Nat) : WE := fun ρ P => ∃ ds d, ownOf (ρ.at i) = some ds ∧ ds[ds.length - 1]? = some d ∧ P d (ρ.put i (.own ds.dropLast))
theorem Dns.dropLast {K : PySem.W.Frag} {H : Hp} {N : Addr → Prop} {vs : List V} {ds : List PyData} (t : Dns K H N vs ds) : Dns K H N vs.dropLast ds.dropLast := by
  rw [List.dropLast_eq_take, List.dropLast_eq_take, t.len]
  exact t.take _
theorem fe_pop (ok : C.Ok) {i : Nat} : FE C (tBM0 C.K "list" rPop (tVar i)) (wPop i) := fun σ H ρ N Q P r w k => by
  obtain ⟨ds, d, e, hl, w⟩ := w
  have e := ownOf_eq e
  obtain ⟨p, vs, h1, h2, h3, h4⟩ := r.own i ds e
  obtain ⟨v, g1, g2⟩ := h3.at hl
  refine ⟨.ref p, h1, .inl ⟨rfl, vs, SqL.of h2⟩, p, vs, v, rfl, rfl, h2, by rw [h3.len]; exact g1, ?_⟩
  obtain ⟨r2, f2⟩ := r.write ok e h1 h2 h3.dropLast
  exact k v _ N _ d w (fun _ h => h) f2 r2 (g2.mono (.set h2 h4.1) fun _ h => h)
/-- x.pop(e), x own -/
def wPopAt (i : Nat) (a : WE) : WE := fun ρ P => (ownOf (ρ.at i)).isSome = true ∧ a ρ fun z ρ1 => ∃ ds m d, ownOf (ρ1.at i) = some ds ∧ z = .int (m : Nat) ∧ ds[m]? = some d ∧ ds.length < 2 ^ 62 ∧ P d (ρ1.put i (.own (ds.eraseIdx m)))
theorem fe_popAt (ok : C.Ok) {i : Nat} {t : TE} {a : WE} (h : FE C t a) : FE C (tBM C.K "list" rPopAt (tVar i) (tCons t tNil)) (wPopAt i a) := fun σ H ρ N Q P r w k => by
  obtain ⟨w0, w⟩ := w
  obtain ⟨ds0, e0⟩ := Option.isSome_iff_exists.mp w0
  obtain ⟨p, vs, h1, h2, _⟩ := r.own i ds0 (ownOf_eq e0)
  refine ⟨.ref p, h1, .inl ⟨rfl, vs, SqL.of h2⟩, ?_⟩
  refine h σ H ρ N _ _ r w fun v H1 N1 ρ1 d w1 n1 f1 r1 hd => ?_
  obtain ⟨ds, m, y, e1, rfl, hy, l, w1⟩ := w1
  have e1 := ownOf_eq e1
  obtain ⟨p', vs', g1, g2, g3, g4⟩ := r1.own i ds e1
  rw [h1] at g1
  cases g1
  obtain ⟨x, u1, u2⟩ := g3.at hy
  have hm : m < ds.length := (List.getElem?_eq_some_iff.mp hy).1
  have hml : m < vs'.length := by rw [g3.len]; exact hm
  cases hd
  refine ⟨p, vs', (m : Nat), m, x, rfl, rfl, g2, by omega, by omega, ?_, u1, ?_⟩
  · unfold seqIndex?
    simp only [Int.natCast_nonneg, Int.toNat_natCast]
    split <;> simp_all <;> omega
  obtain ⟨r2, f2⟩ := r1.write ok e1 h1 g2 (g3.erase m)
  exact k x _ N1 _ y w1 n1 (f1.trans f2) r2 (u2.mono (.set g2 g4.1) fun _ h => h)
/-- the truth of an own list -/
def wTruOwn (i : Nat) : WT := fun ρ P => ∃ ds, ownOf (ρ.at i) = some ds ∧ P (!ds.isEmpty) ρ
theorem ft_truOwn {i : Nat} : FT C (fun σ H Q => tVar i σ H fun x H' => ∃ k, TruV C.K x H' k ∧ Q k H') (wTruOwn i) := fun σ H ρ N Q P r w k => by
  obtain ⟨ds, e, w⟩ := w
  obtain ⟨p, vs, h1, h2, h3, h4⟩ := r.own i ds (ownOf_eq e)
  exact ⟨.ref p, h1, _, .inl ⟨vs, SqL.of h2, rfl⟩, k _ H N ρ (by rw [h3.emp]; exact w) (fun _ h => h) r.fr r⟩
/-- len of an own list -/
def wLenOwn (i : Nat) : WE := fun ρ P => ∃ ds, ownOf (ρ.at i) = some ds ∧ P (.int (ds.length : Nat)) ρ
theorem fe_lenOwn {i : Nat} : FE C (tCB (fun xs H Q => ∃ p ys, xs = [V.ref p] ∧ (SqL C.K H p ys ∨ SqT C.K H p ys) ∧ Q (V.int (ys.length : Nat)) H) (tCons (tVar i) tNil)) (wLenOwn i) := fun σ H ρ N Q P r w k => by
  obtain ⟨ds, e, w⟩ := w
  obtain ⟨p, vs, h1, h2, h3, h4⟩ := r.own i ds (ownOf_eq e)
  refine ⟨.ref p, h1, p, vs, rfl, .inl (SqL.of h2), k _ H N ρ _ w (fun _ h => h) r.fr r ?_⟩
  rw [h3.len]
  exact .int _
/-- x != [], x own -/
def wNeNil (i : Nat) : WE := fun ρ P => ∃ ds, ownOf (ρ.at i) = some ds ∧ noDicts ds = true ∧ SeqAt.shaped (.list ds) = true ∧ P (.bool (!ds.isEmpty)) ρ
theorem fe_neNil (ok : C.Ok) {i : Nat} : FE C (tOp (rNeD C.K) (tVar i) (tLst tNil)) (wNeNil i) := fun σ H ρ N Q P r w k => by
  obtain ⟨ds, e, nd, sh, w⟩ := w
  obtain ⟨p, vs, h1, h2, h3, h4⟩ := r.own i ds (ownOf_eq e)
  refine ⟨.ref p, h1, by show 0 ≤ sizeLine; decide, fun q hq => ?_⟩
  have hs := same_upd (o := .lst []) hq
  refine ⟨.list ds, .list [], .lst (SqL.of (hs _ _ h2)) (Dns.dp nd (h3.mono (.same hs) fun _ h => h)), .lst (SqL.of upd_same) .nil, sh, by decide +kernel, ?_⟩
  refine k _ _ N ρ (.bool (!ds.isEmpty)) w (fun _ h => h) (r.frA hq) (r.alloc ok hq) ?_
  have : PyData.eqv (.list ds) (.list []) = ds.isEmpty := by
    cases ds <;> simp [PyData.eqv, PyData.eqvAll]
  rw [this]
  exact .bl _
end WD
namespace WD
open PySem PySem.Spec PyProof.Rows L2
variable {C : Ctx}
/-! ### comprehensions -/
def wipeE (sl : List En) : List Nat → List En
  | [] => sl
  | v :: vs => (wipeE sl vs).set v .un
theorem wipeE_length (sl : List En) : ∀ vs, (wipeE sl vs).length = sl.length
  | [] => rfl
  | v :: vs => by
    show ((wipeE sl vs).set v .un).length = sl.length
    rw [List.length_set]
    exact wipeE_length sl vs
theorem wipeE_at (sl : List En) {i : Nat} : ∀ {vs : List Nat}, (wipeE sl vs).getD i .un = if i ∈ vs then .un else sl.getD i .un
  | [] => by simp [wipeE]
  | v :: vs => by
    show ((wipeE sl vs).set v .un).getD i .un = _
    simp only [List.getD_eq_getElem?_getD]
    by_cases e : v = i
    · subst e
      rw [if_pos List.mem_cons_self]
      by_cases h : v < (wipeE sl vs).length
      · rw [List.getElem?_set_self h]; rfl
      · rw [List.getElem?_eq_none_iff.mpr (by rw [List.length_set]; omega)]; rfl
    · rw [List.getElem?_set_ne e]
      have := wipeE_at sl (i := i) (vs := vs)
      simp only [List.getD_eq_getElem?_getD] at this
      rw [this]
      by_cases h : i ∈ vs
      · rw [if_pos h, if_pos (List.mem_cons_of_mem _ h)]
      · rw [if_neg h, if_neg (fun z => by rcases List.mem_cons.mp z with z | z; exact e z.symm; exact h z)]
theorem wipe_at (σ : L2.St) {i : Nat} : ∀ {vs : List Nat}, (wipe σ vs)[i]? = if i ∈ vs then (if i < σ.length then some none else none) else σ[i]?
  | [] => by simp [wipe]
  | v :: vs => by
    show ((wipe σ vs).set v none)[i]? = _
    by_cases e : v = i
    · subst e
      rw [if_pos List.mem_cons_self]
      by_cases l : v < σ.length
      · rw [List.getElem?_set_self (by rw [wipe_length]; exact l), if_pos l]
      · rw [List.getElem?_eq_none_iff.mpr (by rw [List.length_set, wipe_length]; omega), if_neg l]
    · rw [List.getElem?_set_ne e, wipe_at σ (i := i) (vs := vs)]
      by_cases h : i ∈ vs
      · rw [if_pos h, if_pos (List.mem_cons_of_mem _ h)]
      · rw [if_neg h, if_neg (fun z => by rcases List.mem_cons.mp z with z | z; exact e z.symm; exact h z)]
theorem wipe_get {σ : L2.St} {i : Nat} {vs : List Nat} (h : i ∉ vs) : (wipe σ vs)[i]? = σ[i]? := by rw [wipe_at, if_neg h]
/-- names stand as at the begin -/
theorem Rep.swap {σ σ2 : L2.St} {sl sl2 : List En} {n : Nat} {vs : List Nat} {N : Addr → Prop} {H : Hp} (r : Rep C σ2 ⟨sl2, n⟩ N H) (es : wipe σ2 vs = wipe σ vs) (ee : wipeE sl2 vs = sl) (el : σ2.length = σ.length) (hf : (C.fx.all fun p => !vs.contains p) = true) : Rep C σ ⟨sl, n⟩ N H ∧ ∀ b, OwnA σ ⟨sl, n⟩ b → OwnA σ2 ⟨sl2, n⟩ b := by
  have at_ : ∀ i, (⟨sl, n⟩ : Env).at i ≠ .un → i ∉ vs ∧ (⟨sl2, n⟩ : Env).at i = (⟨sl, n⟩ : Env).at i := fun i h => by
    unfold Env.at at h ⊢
    rw [← ee, wipeE_at] at h ⊢
    by_cases q : i ∈ vs
    · rw [if_pos q] at h; exact absurd rfl h
    · rw [if_neg q]
      exact ⟨q, rfl⟩
  have get : ∀ i, i ∉ vs → σ[i]? = σ2[i]? := fun i h => by rw [← wipe_get h, ← es, wipe_get h]
  refine ⟨?_, fun b ⟨i, ds, e, q⟩ => ?_⟩
  · exact {
      len := by show σ.length = sl.length; rw [← el, ← ee, wipeE_length]; exact r.len
      dat := fun i d e => by
        obtain ⟨q1, q2⟩ := at_ i (by rw [e]; exact fun z => nomatch z)
        rw [get i q1]
        exact r.dat i d (q2.trans e)
      own := fun i d e => by
        obtain ⟨q1, q2⟩ := at_ i (by rw [e]; exact fun z => nomatch z)
        rw [get i q1]
        exact r.own i d (q2.trans e)
      sep := fun i j ds es a z e1 e2 => by
        obtain ⟨q1, q2⟩ := at_ i (by rw [e1]; exact fun z => nomatch z)
        obtain ⟨q3, q4⟩ := at_ j (by rw [e2]; exact fun z => nomatch z)
        rw [get i q1, get j q3]
        exact r.sep i j ds es a z (q2.trans e1) (q4.trans e2)
      fix := fun p hp => by
        obtain ⟨g1, g2⟩ := r.fix p hp
        have ne : p ∉ vs := by
          have := List.all_eq_true.mp hf p hp
          simpa using this
        refine ⟨by rw [get _ ne]; exact g1, ?_⟩
        cases e : (⟨sl, n⟩ : Env).at p with
        | un => rfl
        | dat d =>
          obtain ⟨_, q2⟩ := at_ p (by rw [e]; exact fun z => nomatch z)
          rw [e] at q2
          rw [q2] at g2
          cases g2
        | own d =>
          obtain ⟨_, q2⟩ := at_ p (by rw [e]; exact fun z => nomatch z)
          rw [e] at q2
          rw [q2] at g2
          cases g2
      old := r.old
      new := r.new
      has := r.has
      mh := r.mh
      j := r.j }
  · obtain ⟨q1, q2⟩ := at_ i (by rw [e]; exact fun z => nomatch z)
    exact ⟨i, ds, q2.trans e, by rw [← get i q1]; exact q⟩
theorem Rep.wiped {σ : L2.St} {sl : List En} {n : Nat} {vs : List Nat} {N : Addr → Prop} {H : Hp} (r : Rep C σ ⟨sl, n⟩ N H) (hs : wipeE sl vs = sl) (hf : (C.fx.all fun p => !vs.contains p) = true) : Rep C (wipe σ vs) ⟨sl, n⟩ N H ∧ ∀ b, OwnA (wipe σ vs) ⟨sl, n⟩ b → OwnA σ ⟨sl, n⟩ b := by
  refine r.swap (vs := vs) ?_ hs (wipe_length σ vs).symm hf
  apply List.ext_getElem?
  intro i
  rw [wipe_at, wipe_at, wipe_at, wipe_length]
  by_cases h : i ∈ vs
  · rw [if_pos h, if_pos h]
  · rw [if_neg h, if_neg h]
theorem but_wipe {σ σ2 : L2.St} {js vs : List Nat} (h : But js (wipe σ vs) σ2) (hj : ∀ j ∈ js, j ∈ vs) : wipe σ2 vs = wipe σ vs ∧ σ2.length = σ.length := by
  have hl := h.1.trans (wipe_length σ vs)
  refine ⟨?_, hl⟩
  apply List.ext_getElem?
  intro i
  rw [wipe_at, wipe_at, hl]
  by_cases q : i ∈ vs
  · rw [if_pos q, if_pos q]
  · rw [if_neg q, if_neg q, h.2 i (fun z => q (hj i z)), wipe_get q]
/-- a list that nobody has is written -/
theorem Rep.side {σ : L2.St} {ρ : Env} {N : Addr → Prop} {H : Hp} {D : Addr} {us ws : List V} (r : Rep C σ ρ N H) (hD : H D = some (.lst us)) (nD : ¬ N D) (oD : ¬ OwnA σ ρ D) (d1 : C.H0 D = none) (d2 : ¬ C.M D) (ok : C.Ok) : Rep C σ ρ N (upd H D (.lst ws)) where
  len := r.len
  dat := fun i d e => by
    obtain ⟨v, h1, h2⟩ := r.dat i d e
    exact ⟨v, h1, h2.mono (.set hD nD) fun _ h => h⟩
  own := fun i ds e => by
    obtain ⟨a, vs, h1, h2, h3, h4⟩ := r.own i ds e
    have ne : a ≠ D := fun z => oD ⟨i, ds, e, by rw [← z]; exact h1⟩
    exact ⟨a, vs, h1, by rw [upd_ne ne]; exact h2, h3.mono (.set hD nD) fun _ h => h, h4⟩
  sep := r.sep
  fix := r.fix
  old := fun b o h m => by
    have ne : b ≠ D := fun z => by rw [z, d1] at h; cases h
    rw [upd_ne ne]
    exact r.old b o h m
  new := r.new
  has := fun b n => by
    have ne : b ≠ D := fun z => nD (by rw [← z]; exact n)
    rw [upd_ne ne]
    exact r.has b n
  mh := fun b m => by
    obtain ⟨xs, e⟩ := r.mh b m
    have ne : b ≠ D := fun z => d2 (by rw [← z]; exact m)
    exact ⟨xs, by rw [upd_ne ne]; exact e⟩
  j := r.j.imp fun _ q => ⟨q.1, ok.jm (.set hD fun z => z.elim (fun z => nD (q.1 _ z)) d2) q.2⟩
/-- [c for b in .. if tt] -/
def wComp (b : WG) (tt : WT) (c : WE) (vs : List Nat) : List PyData → List En → Nat → List PyData → (List PyData → Env → Prop) → Prop
  | [], sl, n, acc, P => P acc ⟨sl, n⟩
  | d :: ds, sl, n, acc, P => b d ⟨sl, n⟩ fun ρ2 => tt ρ2 fun k ρ3 => if k = true then c ρ3 fun z ρ4 => wipeE ρ4.sl vs = sl ∧ acc.length < 16777216 ∧ wComp b tt c vs ds sl ρ4.went (acc ++ [z]) P
      else wipeE ρ3.sl vs = sl ∧ wComp b tt c vs ds sl ρ3.went acc P
def wLc (fx : List Nat) (a : WI) (b : WG) (tt : WT) (c : WE) (vs : List Nat) : WO := fun ρ P => a ρ fun ds ρ1 => ((fx.all fun p => !vs.contains p) = true ∧ wipeE ρ1.sl vs = ρ1.sl) ∧ wComp b tt c vs ds ρ1.sl ρ1.went [] P
theorem fo_lc (ok : C.Ok) {wi : TI} {g : TG} {tt : TT} {te : TE} {vs js : List Nat} {a : WI} {b : WG} {wt : WT} {c : WE} (hi : FI C wi a) (hg : FG C js g b) (hj : ∀ j ∈ js, j ∈ vs) (ht : FT C tt wt) (he : FE C te c) :
    FO C (tLc wi g tt te vs) (wLc C.fx a b wt c vs) := fun σ H ρ N Q P r w k => hi σ H ρ N _ _ r w fun J H1 N1 ρ1 ds w1 n1 f1 r1 it => by
  obtain ⟨⟨hf, hw⟩, w1⟩ := w1
  obtain ⟨sl, nw⟩ := ρ1
  have hw : wipeE sl vs = sl := hw
  intro D hD
  obtain ⟨d1, d2⟩ := r1.h0 hD
  have up := same_upd (o := .lst []) hD
  refine ⟨fun i m H' => m = ds.length - i ∧ i ≤ ds.length ∧ ∃ N' n us acc, (∀ b, N1 b → N' b) ∧ Fr C σ ⟨sl, nw⟩ N1 σ ⟨sl, n⟩ N' H1 H' ∧ Rep C σ ⟨sl, n⟩ N' H' ∧ H' D = some (.lst us) ∧ Dns C.K H' N' us acc ∧ ¬ N' D ∧ ¬ OwnA σ ⟨sl, n⟩ D ∧ wComp b wt c vs (ds.drop i) sl n acc P,
    ⟨ds.length, by simp, Nat.zero_le _, N1, nw, [], [], fun _ h => h, r1.frA hD, r1.alloc ok hD, upd_same, .nil, r1.notN hD, r1.notOwn hD, w1⟩, ?_⟩
  rintro i m H2 ⟨rfl, hi2, N2, n, us, acc, n2, f2, r2, hD2, hacc, nD, oD, w2⟩
  have ii := it i H2 (f2.kp r1)
  by_cases hlt : i < ds.length
  · obtain ⟨go, y⟩ := ii.1 hlt
    refine .inr ⟨go, fun H' => i + 1 ≤ ds.length ∧ ∃ N' n us acc, (∀ b, N1 b → N' b) ∧ Fr C σ ⟨sl, nw⟩ N1 σ ⟨sl, n⟩ N' H1 H' ∧ Rep C σ ⟨sl, n⟩ N' H' ∧ H' D = some (.lst us) ∧ Dns C.K H' N' us acc ∧ ¬ N' D ∧ ¬ OwnA σ ⟨sl, n⟩ D ∧ wComp b wt c vs (ds.drop (i + 1)) sl n acc P, fun H' p => ⟨ds.length - (i + 1), by omega, rfl, p⟩, fun x H' yl => ?_⟩
    obtain ⟨d, e1, e2⟩ := y x H' yl
    obtain ⟨f3, r3, h3⟩ := e2 σ _ N2 n2 r2
    have ed : ds.drop i = d :: ds.drop (i + 1) := by
      rw [List.drop_eq_getElem_cons hlt]
      rw [List.getElem?_eq_getElem hlt] at e1
      rw [Option.some.inj e1]
    rw [ed] at w2
    obtain ⟨r4, o4⟩ := r3.wiped hw hf
    have hD3 := f3.keep D _ hD2 d2 oD
    have hacc3 := hacc.mono (f3.kp r2) fun _ h => h
    refine hg _ H' _ N2 x d _ _ r4 h3 w2 fun σ5 H5 N5 ρ5 w5 n5 f5 r5 b5 => ?_
    obtain ⟨ew, el⟩ := but_wipe b5 hj
    have oD4 : ¬ OwnA (wipe σ vs) ⟨sl, n⟩ D := fun z => oD (o4 D z)
    have hD5 := f5.keep D _ hD3 d2 oD4
    have hacc5 := hacc3.mono (f5.kp r4) n5
    have oD5 : ¬ OwnA σ5 ρ5 D := fun z => by
      rcases (f5.own D z).2 with q | q
      · exact oD4 q
      · rw [hD3] at q; cases q
    -- what the begin had, seen through the block
    refine ⟨ew, ht σ5 H5 ρ5 N5 _ _ r5 w5 fun kk H6 N6 ρ6 w6 n6 f6 r6 => ?_⟩
    have fin : ∀ {H7 : Hp} {N7 : Addr → Prop} {ρ7 : Env}, Fr C σ5 ρ5 N5 σ5 ρ7 N7 H5 H7 → Rep C σ5 ρ7 N7 H7 → wipeE ρ7.sl vs = sl →
        Rep C σ ⟨sl, ρ7.went⟩ N7 H7 ∧ Fr C σ ⟨sl, nw⟩ N1 σ ⟨sl, ρ7.went⟩ N7 H1 H7 ∧ ¬ OwnA σ ⟨sl, ρ7.went⟩ D ∧ ¬ N7 D := fun {H7 N7 ρ7} f7 r7 e7 => by
      obtain ⟨sl7, n7⟩ := ρ7
      obtain ⟨q1, q2⟩ := r7.swap (σ := σ) ew e7 el hf
      have f8 := f5.trans f7
      have f9 : Fr C σ ⟨sl, n⟩ N2 σ ⟨sl, n7⟩ N7 H2 H7 := {
        keep := fun b o h mm nn => f8.keep b o (f3.keep b o h mm nn) mm fun z => nn (o4 b z)
        own := fun b z => by
          obtain ⟨m8, q⟩ := f8.own b (q2 b z)
          refine ⟨m8, ?_⟩
          rcases q with q | q
          · exact .inl (o4 b q)
          · exact .inr (f3.back q)
        dom := fun b h => f8.dom b (f3.dom b h)
        up := fun b h => by
          rcases f8.up b h with q | q | q
          · exact .inl q
          · exact .inr (.inl (f3.back q))
          · exact .inr (.inr (o4 b q)) }
      refine ⟨q1, f2.trans f9, fun z => ?_, fun z => ?_⟩
      · rcases (f9.own D z).2 with q | q
        · exact oD q
        · rw [hD2] at q; cases q
      · rcases f9.up D z with q | q | q
        · exact nD q
        · rw [hD2] at q; cases q
        · exact oD q
    have hD6 := f6.keep D _ hD5 d2 oD5
    have oD6 : ¬ OwnA σ5 ρ6 D := fun z => by
      rcases (f6.own D z).2 with q | q
      · exact oD5 q
      · rw [hD5] at q; cases q
    have hacc6 := hacc5.mono (f6.kp r5) n6
    cases kk with
    | false =>
      obtain ⟨e6, w6⟩ := w6
      obtain ⟨q1, q2, q3, q4⟩ := fin f6 r6 e6
      exact ⟨hlt, N6, ρ6.went, us, acc, fun b h => n6 b (n5 b (n2 b h)), q2, q1, hD6, hacc6, q4, q3, w6⟩
    | true =>
      refine he σ5 H6 ρ6 N6 _ _ r6 w6 fun v H7 N7 ρ7 z w7 n7 f7 r7 h7 => ?_
      obtain ⟨e7, l7, w7⟩ := w7
      have hD7 := f7.keep D _ hD6 d2 oD6
      have hacc7 := hacc6.mono (f7.kp r6) n7
      obtain ⟨q1, q2, q3, q4⟩ := fin (f6.trans f7) r7 e7
      refine ⟨us, hD7, by rw [szl, hacc7.len]; exact l7, hlt, N7, ρ7.went, us ++ [v], acc ++ [z], fun b h => n7 b (n6 b (n5 b (n2 b h))), ?_, ?_, upd_same, ?_, q4, q3, w7⟩
      · exact {
          keep := fun b o h mm nn => by
            have ne : b ≠ D := fun y => by rw [y, hD] at h; cases h
            rw [upd_ne ne]
            exact q2.keep b o h mm nn
          own := q2.own
          dom := fun b h => by
            have ne : b ≠ D := fun y => h (by rw [y]; exact hD)
            rw [upd_ne ne]
            exact q2.dom b h
          up := q2.up }
      · exact q1.side hD7 q4 q3 d1 d2 ok
      · exact (hacc7.append (.cons h7 .nil)).mono (.set hD7 q4) fun _ h => h
  · have e : i = ds.length := by omega
    subst e
    rw [List.drop_length] at w2
    exact .inl ⟨ii.2 (Nat.le_refl _), k D us H2 N2 _ acc w2 (fun b h => n2 b (n1 b h)) (f1.trans f2) r2 hD2 hacc nD (f1.back hD) d1 d2 oD⟩
end WD
namespace WD
open PySem PySem.Spec PyProof.Rows L2
/-! ### a table of the top, asked by get -/
section
variable {X : Cx} {d : Addr} {es : Array DictEntry} {n : Nat} {o e f : Expr} {apos cpos : Pos} {td ty tx : TE}
theorem kd_dict {pins : List (Addr × Obj)} {σ : L2.St} {H : Hp} {s : Shared} (D : KDict X.K X.w d es n) (I : Inv X pins σ H s) : ∀ b, Value.ref d = .ref b → ∃ ob, s.heap.get? b = some ob ∧ ob.dict = none := fun b q => by
  cases q
  exact ⟨_, I.kIn _ _ D.at_, rfl⟩
theorem pe_kget1 (D : KDict X.K X.w d es n) (ho : PE X o td) (he : PE X e ty) (m : M1 X o "get" apos e cpos) : PE X (.Call (.Attribute o "get" apos) [e] [] cpos) (fun σ H Q => td σ H fun x H1 => x = .ref d ∧ ty σ H1 fun y H2 => ∃ (z : Str) (r : Option Value) (v : V), y = .str z ∧ PySem.W.nsIn X.K d z = some r ∧ RelV v (r.getD Value.none) ∧ Q v H2) := by
  refine ⟨fun pins s σ H Q I h => ?_⟩
  refine wpAny_Call_method m.base m.few m.line PySem.F.plainAttrs_dict PySem.F.slot_dict_get PySem.F.type_dict_get (thn (ho.run pins s σ H _ I h) fun u s1 ⟨x, H1, I1, rx, ex, q1⟩ => ?_)
  subst ex
  obtain rfl : u = Value.ref d := rx
  refine ⟨kd_type D I1, kd_dict D I1, ?_⟩
  rw [m.trees]
  refine Calls.callWith_builtin rfl (Calls.evalArgs_plain (Calls.spliced_cons (thn (he.run pins s1 σ H1 _ I1 q1) fun iv s2 ⟨y, H2, I2, ry, z, r, v, ey, e0, rv, q2⟩ => Calls.spliced_nil ?_)))
  subst ey
  obtain ⟨t, rfl⟩ := ry
  refine call_meetsIn PySem.F.slot_dict_get (kd_type D I2) PySem.F.entry_dict_get (PySem.F.args_dict_get_2 _ _) (meets_dict_get (strKind X.prog X.w) d (PySem.strKind_is X.prog X.w z t) D.low) ⟨_, PySem.W.mapOf_K (prog := X.prog) I2.kIn D.at_ D.lit, ?_⟩
  rw [PySem.W.find_K D.at_ e0]
  exact ⟨v, H2, I2.tok _, rv, q2⟩
theorem pe_kget2 (D : KDict X.K X.w d es n) (ho : PE X o td) (he : PE X e ty) (hf : PE X f tx) (m : M2 X o "get" apos e f cpos) : PE X (.Call (.Attribute o "get" apos) [e, f] [] cpos) (fun σ H Q => td σ H fun x H1 => x = .ref d ∧ ty σ H1 fun y H2 => tx σ H2 fun g H3 => ∃ (z : Str) (r : Option Value) (v : V), y = .str z ∧ PySem.W.nsIn X.K d z = some r ∧ (∀ u, r = some u → RelV v u) ∧ (r = none → v = g) ∧ Q v H3) := by
  refine ⟨fun pins s σ H Q I h => ?_⟩
  refine wpAny_Call_method m.base m.few m.line PySem.F.plainAttrs_dict PySem.F.slot_dict_get PySem.F.type_dict_get (thn (ho.run pins s σ H _ I h) fun u s1 ⟨x, H1, I1, rx, ex, q1⟩ => ?_)
  subst ex
  obtain rfl : u = Value.ref d := rx
  refine ⟨kd_type D I1, kd_dict D I1, ?_⟩
  rw [m.trees]
  refine Calls.callWith_builtin rfl (Calls.evalArgs_plain (Calls.spliced_cons (thn (he.run pins s1 σ H1 _ I1 q1) fun iv s2 ⟨y, H2, I2, ry, q2⟩ =>
    Calls.spliced_cons (thn (hf.run pins s2 σ H2 _ I2 q2) fun fv s3 ⟨g, H3, I3, rz, z, r, v, ey, e0, e1, e2, q3⟩ => Calls.spliced_nil ?_))))
  subst ey
  obtain ⟨t, rfl⟩ := ry
  refine call_meetsIn PySem.F.slot_dict_get (kd_type D I3) PySem.F.entry_dict_get (PySem.F.args_dict_get_3 _ _ _) (meets_dict_get_default (strKind X.prog X.w) d (PySem.strKind_is X.prog X.w z t) D.low fv) ⟨_, PySem.W.mapOf_K (prog := X.prog) I3.kIn D.at_ D.lit, ?_⟩
  rw [PySem.W.find_K D.at_ e0]
  refine ⟨v, H3, I3.tok _, ?_, q3⟩
  cases r with
  | none =>
    rw [e2 rfl]
    exact rz
  | some u => exact e1 u rfl
end
variable {C : Ctx}
/-- what a table of the top holds -/
structure Tab (K : PySem.W.Frag) (a : Addr) (kvs : List (Str × PyData)) : Prop where
  has : ∀ x d, kvs.lookup x = some d → ∃ u v, PySem.W.nsIn K a x = some (some u) ∧ RelV v u ∧ ∀ H N, Dn K H N v d
  non : ∀ x, kvs.lookup x = none → PySem.W.nsIn K a x = some none
def wTabGet (kvs : List (Str × PyData)) (a : WE) : WE := fun ρ P => a ρ fun d ρ1 => match d with
  | .str x => P ((kvs.lookup x).getD .none) ρ1
  | _ => False
theorem fe_tabGet {p : Addr} {kvs : List (Str × PyData)} (T : Tab C.K p kvs) {t : TE} {a : WE} (h : FE C t a) :
    FE C (fun σ H Q => (tC (.ref p)) σ H fun x H1 => x = .ref p ∧ t σ H1 fun y H2 => ∃ (z : Str) (r : Option Value) (v : V), y = .str z ∧ PySem.W.nsIn C.K p z = some r ∧ RelV v (r.getD Value.none) ∧ Q v H2) (wTabGet kvs a) := fun σ H ρ N Q P r w k =>
  ⟨rfl, h σ H ρ N _ _ r w fun v H1 N1 ρ1 d w1 n1 f1 r1 h1 => by
    cases h1 <;> first | exact w1.elim | skip
    rename_i x
    cases e : kvs.lookup x with
    | none =>
      have w1 : P ((kvs.lookup x).getD .none) ρ1 := w1
      rw [e] at w1
      exact ⟨x, none, .non, rfl, T.non x e, rfl, k .non H1 N1 ρ1 .none w1 n1 f1 r1 .non⟩
    | some z =>
      have w1 : P ((kvs.lookup x).getD .none) ρ1 := w1
      rw [e] at w1
      obtain ⟨u, v, q1, q2, q3⟩ := T.has x z e
      exact ⟨x, some u, v, rfl, q1, q2, k v H1 N1 ρ1 z w1 n1 f1 r1 (q3 _ _)⟩⟩
def wTabGet2 (kvs : List (Str × PyData)) (a b : WE) : WE := fun ρ P => a ρ fun d ρ1 => b ρ1 fun e ρ2 => match d with
  | .str x => P ((kvs.lookup x).getD e) ρ2
  | _ => False
theorem fe_tabGet2 {p : Addr} {kvs : List (Str × PyData)} (T : Tab C.K p kvs) {t u : TE} {a b : WE} (h : FE C t a) (g : FE C u b) :
    FE C (fun σ H Q => (tC (.ref p)) σ H fun x H1 => x = .ref p ∧ t σ H1 fun y H2 => u σ H2 fun g H3 => ∃ (z : Str) (r : Option Value) (v : V), y = .str z ∧ PySem.W.nsIn C.K p z = some r ∧ (∀ u, r = some u → RelV v u) ∧ (r = none → v = g) ∧ Q v H3) (wTabGet2 kvs a b) := fun σ H ρ N Q P r w k =>
  ⟨rfl, h σ H ρ N _ _ r w fun v H1 N1 ρ1 d w1 n1 f1 r1 h1 => g σ H1 ρ1 N1 _ _ r1 w1 fun v2 H2 N2 ρ2 d2 w2 n2 f2 r2 h2 => by
    cases h1 <;> first | exact w2.elim | skip
    rename_i x
    have w2 : P ((kvs.lookup x).getD d2) ρ2 := w2
    cases e : kvs.lookup x with
    | none =>
      rw [e] at w2
      exact ⟨x, none, v2, rfl, T.non x e, (fun u z => by cases z), (fun _ => rfl), k v2 H2 N2 ρ2 d2 w2 (fun b h => n2 b (n1 b h)) (f1.trans f2) r2 h2⟩
    | some z =>
      rw [e] at w2
      obtain ⟨u, v, q1, q2, q3⟩ := T.has x z e
      exact ⟨x, some u, v, rfl, q1, fun u' e' => by cases e'; exact q2, (fun z => nomatch z), k v H2 N2 ρ2 z w2 (fun b h => n2 b (n1 b h)) (f1.trans f2) r2 (q3 _ _)⟩⟩
/-- x in TABLE, TABLE[x] -/
def wInTab (neg : Bool) (kvs : List (Str × PyData)) (a : WE) : WE := fun ρ P => a ρ fun d ρ1 => match d with
  | .str x => P (.bool (xor neg (kvs.lookup x).isSome)) ρ1
  | _ => False
theorem fe_inTab {p : Addr} {kvs : List (Str × PyData)} (T : Tab C.K p kvs) {t : TE} {a : WE} (h : FE C t a) :
    FE C (tOp (fun x y H Q => ∃ (z : Str) (r : Option Value), x = .str z ∧ y = .ref p ∧ PySem.W.nsIn C.K p z = some r ∧ Q (.bl r.isSome) H) t (tC (.ref p))) (wInTab false kvs a) := fun σ H ρ N Q P r w k =>
  h σ H ρ N _ _ r w fun v H1 N1 ρ1 d w1 n1 f1 r1 h1 => by
    cases h1 <;> first | exact w1.elim | skip
    rename_i x
    cases e : kvs.lookup x with
    | none =>
      have w1 : P (.bool (xor false (kvs.lookup x).isSome)) ρ1 := w1
      rw [e] at w1
      exact ⟨x, none, rfl, rfl, T.non x e, k _ H1 N1 ρ1 _ w1 n1 f1 r1 (.bl false)⟩
    | some z =>
      have w1 : P (.bool (xor false (kvs.lookup x).isSome)) ρ1 := w1
      rw [e] at w1
      obtain ⟨u, v, q1, q2, q3⟩ := T.has x z e
      exact ⟨x, some u, rfl, rfl, q1, k _ H1 N1 ρ1 _ w1 n1 f1 r1 (.bl true)⟩
def wIxTab (kvs : List (Str × PyData)) (a : WE) : WE := fun ρ P => a ρ fun d ρ1 => match d with
  | .str x => ∃ z, kvs.lookup x = some z ∧ P z ρ1
  | _ => False
theorem fe_ixTab {w : World} {p : Addr} {kvs : List (Str × PyData)} {es : Array DictEntry} {n : Nat} (D : KDict C.K w p es n) (T : Tab C.K p kvs) {t : TE} {a : WE} (h : FE C t a) :
    FE C (tOp (rIxD C.K w) (tC (.ref p)) t) (wIxTab kvs a) := fun σ H ρ N Q P r w1 k =>
  h σ H ρ N _ _ r w1 fun v H1 N1 ρ1 d w1 n1 f1 r1 h1 => by
    cases h1 <;> first | exact w1.elim | skip
    rename_i x
    obtain ⟨z, e, w1⟩ := w1
    obtain ⟨u, v, q1, q2, q3⟩ := T.has x z e
    exact ⟨p, x, v, rfl, rfl, ⟨_, _, u, D.at_, D.lit, q1, q2⟩, k _ H1 N1 ρ1 _ w1 n1 f1 r1 (q3 _ _)⟩
/-! ### others -/
/-- a < b < c -/
def wChain (f g : W2) (a b c : WE) : WE := fun ρ P => a ρ fun x ρ1 => b ρ1 fun y ρ2 => f x y fun k => match k with
  | .bool true => c ρ2 fun z ρ3 => g y z fun k2 => P k2 ρ3
  | .bool false => P (.bool false) ρ2
  | _ => False
theorem fe_chain {r r' : R2} {f g : W2} {ta tb tc : TE} {a b c : WE} (hf : FR2 C r f) (hg : FR2 C r' g) (ha : FE C ta a) (hb : FE C tb b) (hc : FE C tc c) : FE C (tChain r r' ta tb tc) (wChain f g a b c) := fun σ H ρ N Q P rp w k =>
  ha σ H ρ N _ _ rp w fun x H1 N1 ρ1 d w1 n1 k1 r1 h1 => hb σ H1 ρ1 N1 _ _ r1 w1 fun y H2 N2 ρ2 e w2 n2 k2 r2 h2 =>
    hf σ H2 ρ2 N2 _ _ x y d e r2 (h1.mono (k2.kp r1) n2) h2 w2 fun v H3 N3 z w3 n3 k3 r3 h3 => by
      cases h3 <;> first | exact w3.elim | skip
      rename_i kk
      refine ⟨kk, rfl, ?_⟩
      cases kk with
      | false => exact k _ H3 N3 ρ2 _ w3 (fun b h => n3 b (n2 b (n1 b h))) ((k1.trans k2).trans k3) r3 (.bl _)
      | true =>
        refine hc σ H3 ρ2 N3 _ _ r3 w3 fun v4 H4 N4 ρ4 d4 w4 n4 k4 r4 h4 => ?_
        refine hg σ H4 ρ4 N4 _ _ y v4 e d4 r4 ((h2.mono (k3.kp r2) n3).mono (k4.kp r3) n4) h4 w4 fun v5 H5 N5 z5 w5 n5 k5 r5 h5 => ?_
        exact k v5 H5 N5 ρ4 z5 w5 (fun b h => n5 b (n4 b (n3 b (n2 b (n1 b h))))) ((((k1.trans k2).trans k3).trans k4).trans k5) r5 h5
/-- (*a, b), [*a, b] -/
def wStar (a : WE) (t : WA) : WA := fun ρ P => a ρ fun d ρ1 => match d with
  | .tuple ds => t ρ1 fun es ρ2 => P (ds ++ es) ρ2
  | .list ds => t ρ1 fun es ρ2 => P (ds ++ es) ρ2
  | _ => False
theorem fa_star {te : TE} {t : TA} {a : WE} {b : WA} (ha : FE C te a) (hb : FA C t b) : FA C (StX.tStar C.K te t) (wStar a b) := fun σ H ρ N Q P r w k =>
  ha σ H ρ N _ _ r w fun v H1 N1 ρ1 d w1 n1 k1 r1 h1 => by
    cases h1 <;> first | exact w1.elim | skip
    · rename_i p xs ds h n t
      refine ⟨_, _, rfl, .inr (SqL.of h), hb σ H1 ρ1 N1 _ _ r1 w1 fun vs H2 N2 ρ2 ds w2 n2 k2 r2 h2 => ?_⟩
      exact k _ H2 N2 ρ2 _ w2 (fun b h => n2 b (n1 b h)) (k1.trans k2) r2 ((t.mono (k2.kp r1) n2).append h2)
    · rename_i p xs ds h t
      refine ⟨_, _, rfl, .inl h, hb σ H1 ρ1 N1 _ _ r1 w1 fun vs H2 N2 ρ2 ds w2 n2 k2 r2 h2 => ?_⟩
      exact k _ H2 N2 ρ2 _ w2 (fun b h => n2 b (n1 b h)) (k1.trans k2) r2 ((t.mono (k2.kp r1) n2).append h2)
/-- x.strip(signs) -/
def wStrip (a b : WE) : WE := fun ρ P => a ρ fun d ρ1 => match d with
  | .str x => b ρ1 fun e ρ2 => match e with
    | .str y => x.length ≤ 16777216 ∧ P (.str (Txt.stripChars x y)) ρ2
    | _ => False
  | _ => False
theorem fe_strip {t u : TE} {a b : WE} (ha : FE C t a) (hb : FE C u b) : FE C (tBM C.K "str" (fun x xs H Q => ∃ a b, x = V.str a ∧ xs = [V.str b] ∧ a.length ≤ sizeLine ∧ Q (.str (Txt.stripChars a b)) H) t (tCons u tNil)) (wStrip a b) := fun σ H ρ N Q P r w k =>
  ha σ H ρ N _ _ r w fun v H1 N1 ρ1 d w1 n1 k1 r1 h1 => by
    cases h1 <;> first | exact w1.elim | skip
    refine ⟨rfl, hb σ H1 ρ1 N1 _ _ r1 w1 fun v2 H2 N2 ρ2 d2 w2 n2 k2 r2 h2 => ?_⟩
    cases h2 <;> first | exact w2.elim | skip
    exact ⟨_, _, rfl, rfl, by rw [szl]; exact w2.1, k _ H2 N2 ρ2 _ w2.2 (fun b h => n2 b (n1 b h)) (k1.trans k2) r2 (.str _)⟩
/-- ("1", "2")[x], one sign of a text -/
def fIxS : W2 := fun d e P => match d, e with
  | .str x, .int i => x.length ≤ 16777216 ∧ ∃ c, atI x.cps.toList i = some c ∧ P (.str ⟨#[c]⟩)
  | _, _ => False
theorem fr_ixS : FR2 C rIxS fIxS := fr2_pure fun H N Q P x y d e hx hy w k => by
  cases hx <;> cases hy <;> first | exact w.elim | skip
  obtain ⟨l, c, h, w⟩ := w
  exact ⟨_, _, c, rfl, rfl, by rw [szl]; exact l, h, k _ _ w (.str _)⟩
/-- a, b = x, y -/
def wPar (i j : Nat) (fx : List Nat) (a : WA) : WS := fun ρ P => a ρ fun ds ρ1 => match ds with
  | [d, e] => (fx.all fun p => p != i) = true ∧ (fx.all fun p => p != j) = true ∧ i < ρ1.sl.length ∧ j < ρ1.sl.length ∧ P (.nx ((ρ1.put i (.dat d)).put j (.dat e)))
  | _ => False
theorem fs_par {i j : Nat} {t : TA} {a : WA} (h : FA C t a) : FS C (tPar i j t) (wPar i j C.fx a) := fun D σ H ρ N P r w k =>
  h σ H ρ N _ _ r w fun vs H1 N1 ρ1 ds w1 n1 f1 r1 h1 => by
    cases h1 with
    | nil => exact w1.elim
    | cons h t =>
      cases t with
      | nil => exact w1.elim
      | cons h2 t2 =>
        cases t2 with
        | cons _ _ => exact w1.elim
        | nil =>
          obtain ⟨e1, e2, l1, l2, w1⟩ := w1
          obtain ⟨r2, f2⟩ := r1.put e1 l1 h
          obtain ⟨r3, f3⟩ := r2.put (i := j) e2 (by show j < (ρ1.sl.set i _).length; rw [List.length_set]; exact l2) h2
          exact ⟨_, _, rfl, k.nx _ H1 N1 _ w1 n1 ((f1.trans f2).trans f3) r3⟩
/-- x += e, x -= e (numbers) -/
def wAug (g : Int → Int → Int) (i : Nat) (fx : List Nat) (a : WE) : WS := fun ρ P => ∃ n, ρ.at i = .dat (.int n) ∧ a ρ fun d ρ1 => match d with
  | .int m => (fx.all fun p => p != i) = true ∧ i < ρ1.sl.length ∧ P (.nx (ρ1.put i (.dat (.int (g n m)))))
  | _ => False
theorem fs_aug {g : Int → Int → Int} {i : Nat} {t : TE} {a : WE} (h : FE C t a) : FS C (tAug i t (ipI g)) (wAug g i C.fx a) := fun D σ H ρ N P r w k => by
  obtain ⟨n, e, w⟩ := w
  obtain ⟨v, h1, h2⟩ := r.dat i _ e
  cases h2
  refine ⟨_, h1, h σ H ρ N _ _ r w fun v H1 N1 ρ1 d w1 n1 f1 r1 hd => ?_⟩
  cases hd <;> first | exact w1.elim | skip
  obtain ⟨r2, f2⟩ := r1.put w1.1 w1.2.1 (Dn.int (g n _))
  exact ⟨_, _, rfl, rfl, k.nx _ H1 N1 _ w1.2.2 n1 (f1.trans f2) r2⟩
end WD
namespace WK
/-- the sign at place i of the row that head and again tell -/
def row (h a : List Nat) (i : Nat) : Nat := if i < h.length then h.getD i 0 else a.getD ((i - h.length) % a.length) 0
def Per (R : Nat → Nat) (c p : Nat) : Prop := 0 < p ∧ ∀ i, c ≤ i → R (i + p) = R i
structure Tells (R : Nat → Nat) (x y : List Nat) : Prop where
  pos : 0 < y.length
  eq : ∀ i, row x y i = R i
structure Lst (R : Nat → Nat) (x y : List Nat) : Prop where
  tells : Tells R x y
  head : ∀ c p, Per R c p → x.length ≤ c
  again : ∀ c p, Per R c p → y.length ≤ p
theorem row_head {h a : List Nat} {i : Nat} (hi : i < h.length) : row h a i = h.getD i 0 := if_pos hi
theorem row_again {h a : List Nat} {i : Nat} (hi : h.length ≤ i) : row h a i = a.getD ((i - h.length) % a.length) 0 := if_neg (by omega)
theorem row_per {h a : List Nat} (ha : 0 < a.length) : Per (row h a) h.length a.length := by
  refine ⟨ha, fun i hi => ?_⟩
  rw [row_again (by omega), row_again hi, show i + a.length - h.length = (i - h.length) + a.length by omega, Nat.add_mod_right]
theorem Per.mul {R : Nat → Nat} {c p : Nat} (P : Per R c p) : ∀ (k i : Nat), c ≤ i → R (i + k * p) = R i
  | 0, i, _ => by rw [Nat.zero_mul, Nat.add_zero]
  | k + 1, i, hi => by
    rw [Nat.succ_mul, ← Nat.add_assoc, P.2 (i + k * p) (by omega), Per.mul P k i hi]
theorem Per.mod {R : Nat → Nat} {c p : Nat} (P : Per R c p) {i j : Nat} (hi : c ≤ i) (hj : c ≤ j) (e : (i - c) % p = (j - c) % p) : R i = R j := by
  have h1 := Nat.div_add_mod (i - c) p
  have h2 := Nat.div_add_mod (j - c) p
  have k1 : R i = R (c + (i - c) % p) := by
    have := P.mul ((i - c) / p) (c + (i - c) % p) (by omega)
    rw [← this, Nat.mul_comm]
    congr 1
    omega
  have k2 : R j = R (c + (j - c) % p) := by
    have := P.mul ((j - c) / p) (c + (j - c) % p) (by omega)
    rw [← this, Nat.mul_comm]
    congr 1
    omega
  rw [k1, k2, e]
/-- a period behind one place is one behind each place from which on there is one -/
theorem Per.down {R : Nat → Nat} {c p c' p' : Nat} (P : Per R c p) (P' : Per R c' p') : Per R c p' := by
  refine ⟨P'.1, fun i hi => ?_⟩
  have h1 := P.1
  have k : c' ≤ i + c' * p := by
    have : c' * 1 ≤ c' * p := Nat.mul_le_mul_left _ h1
    omega
  have e1 := P.mul c' (i + p') (by omega)
  have e2 := P.mul c' i hi
  have e3 := P'.2 (i + c' * p) k
  rw [← e1, ← e2, ← e3]
  congr 1
  omega
theorem Tells.per {R : Nat → Nat} {x y : List Nat} (T : Tells R x y) : Per R x.length y.length := by
  have h := row_per (h := x) T.pos
  exact ⟨h.1, fun i hi => by rw [← T.eq, ← T.eq]; exact h.2 i hi⟩
theorem getD_ext {x y : List Nat} (hl : x.length = y.length) (h : ∀ i, i < x.length → x.getD i 0 = y.getD i 0) : x = y := by
  apply List.ext_getElem hl
  intro i h1 h2
  have := h i h1
  rw [List.getD_eq_getElem?_getD, List.getD_eq_getElem?_getD, List.getElem?_eq_getElem h1, List.getElem?_eq_getElem h2] at this
  exact this
theorem Lst.uniq {R : Nat → Nat} {x y x' y' : List Nat} (L : Lst R x y) (L' : Lst R x' y') : x = x' ∧ y = y' := by
  have e1 : x.length = x'.length := Nat.le_antisymm (L.head _ _ L'.tells.per) (L'.head _ _ L.tells.per)
  have e2 : y.length = y'.length := Nat.le_antisymm (L.again _ _ L'.tells.per) (L'.again _ _ L.tells.per)
  refine ⟨getD_ext e1 fun i hi => ?_, getD_ext e2 fun i hi => ?_⟩
  · rw [← row_head (a := y) hi, ← row_head (h := x') (a := y') (by omega), L.tells.eq, L'.tells.eq]
  · have h1 := row_again (h := x) (a := y) (i := x.length + i) (by omega)
    have h2 := row_again (h := x') (a := y') (i := x'.length + i) (by omega)
    rw [show x.length + i - x.length = i by omega, Nat.mod_eq_of_lt hi] at h1
    rw [show x'.length + i - x'.length = i by omega, Nat.mod_eq_of_lt (by omega)] at h2
    rw [← h1, ← h2, L.tells.eq, L'.tells.eq, e1]
/-- a row with least places and a least period -/
theorem Lst.of {R : Nat → Nat} {x y : List Nat} (T : Tells R x y) (hc : ∀ c p, Per R c p → x.length ≤ c) (hp : ∀ p, Per R x.length p → y.length ≤ p) : Lst R x y :=
  ⟨T, hc, fun _ _ P => hp _ (T.per.down P)⟩
theorem row_ext {h a h' a' : List Nat} (e : ∀ i, row h a i = row h' a' i) : row h a = row h' a' := funext e
end WK
namespace WK
open PySem PySem.Spec PyProof.Rows L2

/-! ### texts as lists of codes -/
def tx (l : List Nat) : Str := ⟨l.toArray⟩
theorem tx_toList (l : List Nat) : (tx l).cps.toList = l := rfl
theorem tx_len (l : List Nat) : (tx l).length = l.length := by
  show l.toArray.size = l.length
  exact List.size_toArray
theorem tx_inj {a b : List Nat} (h : tx a = tx b) : a = b := by
  have := congrArg (fun z : Str => z.cps.toList) h
  exact this
theorem tx_eq (a b : List Nat) : decide (V.str (tx a) = V.str (tx b)) = decide (a = b) := by
  by_cases e : a = b
  · subst e; simp
  · rw [decide_eq_false e, decide_eq_false]
    intro z
    exact e (tx_inj (V.str.inj z))
theorem tx_add (a b : List Nat) : tx a ++ tx b = tx (a ++ b) := by
  show (⟨a.toArray ++ b.toArray⟩ : Str) = ⟨(a ++ b).toArray⟩
  congr 1
  simp
def cutL (l : List Nat) (lo hi : Nat) : List Nat := (l.drop lo).take (hi - lo)
theorem cut_nn (l : List Nat) (lo hi : Nat) : cutS (tx l) (some (lo : Int)) (some (hi : Int)) = tx (cutL l (min lo l.length) (min hi l.length)) := by
  have e : ∀ n, n = l.length → (⟨(List.take (HT.sIx n n (some (hi : Int)) - HT.sIx n 0 (some (lo : Int))) (List.drop (HT.sIx n 0 (some (lo : Int))) l)).toArray⟩ : Str) = tx (cutL l (min lo l.length) (min hi l.length)) := fun n en => by
    subst en
    rw [HT.sIx_nat, HT.sIx_nat]
    rfl
  exact e _ (tx_len l)
theorem cut_n0 (l : List Nat) (lo : Nat) : cutS (tx l) (some (lo : Int)) none = tx (l.drop lo) := by
  show (⟨_⟩ : Str) = ⟨_⟩
  congr 1
  rw [tx_len]
  show (List.take _ (List.drop _ l)).toArray = _
  rw [HT.sIx_nat, HT.sIx_none]
  by_cases h : lo ≤ l.length
  · rw [Nat.min_eq_left h, List.take_of_length_le (by rw [List.length_drop]; omega)]
  · rw [Nat.min_eq_right (by omega), List.drop_of_length_le (by omega), List.drop_of_length_le (show l.length ≤ lo by omega)]
    simp
theorem cut_0n (l : List Nat) (hi : Nat) : cutS (tx l) none (some (hi : Int)) = tx (l.take hi) := by
  show (⟨_⟩ : Str) = ⟨_⟩
  congr 1
  rw [tx_len]
  show (List.take _ (List.drop _ l)).toArray = _
  rw [HT.sIx_nat, HT.sIx_none, List.drop_zero, Nat.sub_zero]
  by_cases h : hi ≤ l.length
  · rw [Nat.min_eq_left h]
  · rw [Nat.min_eq_right (by omega), List.take_of_length_le (by omega), List.take_of_length_le (by omega)]
/-- the list n times -/
def rep (a : List Nat) (n : Nat) : List Nat := (List.replicate n a).flatten
theorem rep_zero (a : List Nat) : rep a 0 = [] := rfl
theorem rep_succ (a : List Nat) (n : Nat) : rep a (n + 1) = a ++ rep a n := by
  unfold rep
  rw [List.replicate_succ, List.flatten_cons]
theorem rep_len (a : List Nat) : ∀ n, (rep a n).length = n * a.length
  | 0 => by rw [rep_zero, Nat.zero_mul]; rfl
  | n + 1 => by rw [rep_succ, List.length_append, rep_len a n, Nat.succ_mul, Nat.add_comm]
theorem foldl_app (a : List Nat) : ∀ (n : Nat) (acc : List Nat), List.foldl (fun x1 x2 => x1 ++ x2) acc.toArray (List.replicate n a.toArray) = (acc ++ rep a n).toArray
  | 0, acc => by rw [rep_zero, List.append_nil]; rfl
  | n + 1, acc => by
    rw [List.replicate_succ, List.foldl_cons, rep_succ]
    have e : acc.toArray ++ a.toArray = (acc ++ a).toArray := by simp
    rw [e, foldl_app a n (acc ++ a), List.append_assoc]
theorem tx_mul (a : List Nat) (n : Nat) : Txt.mul (tx a) (n : Int) = tx (rep a n) := by
  unfold Txt.mul
  by_cases h0 : n = 0
  · subst h0
    rfl
  · rw [if_neg (by omega)]
    by_cases h1 : ((n : Int) == 1 || (tx a).length == 0) = true
    · rw [if_pos h1]
      rw [Bool.or_eq_true, beq_iff_eq, beq_iff_eq, tx_len] at h1
      rcases h1 with h1 | h1
      · have : n = 1 := by omega
        subst this
        rw [rep_succ, rep_zero, List.append_nil]
      · have : a = [] := List.length_eq_zero_iff.mp h1
        subst this
        have : rep [] n = [] := List.length_eq_zero_iff.mp (by rw [rep_len]; simp)
        rw [this]
    · rw [if_neg h1, Int.toNat_natCast]
      show (⟨_⟩ : Str) = ⟨_⟩
      congr 1
      have := foldl_app a n []
      rw [List.nil_append] at this
      exact this
theorem mulOk (a : List Nat) (n : Nat) (h : a.length * n ≤ 1000000) (h2 : n ≤ 1000000) : PySem.MulOk (tx a) (n : Int) := by
  refine ⟨?_, fun h1 _ => ?_, fun h1 _ => ?_⟩
  · rw [Bool.or_eq_false_iff, decide_eq_false_iff_not, decide_eq_false_iff_not]
    constructor <;> omega
  · rw [tx_len]
    have h3 : (a.length : Int) * n ≤ 1000000 := by
      have := Int.ofNat_le.mpr h
      rw [Int.natCast_mul] at this
      exact this
    intro z
    have h4 : (2 ^ 63 - 1 : Int) < n * ((2 ^ 63 - 1) / n + 1) := by
      have := Int.lt_mul_ediv_self_add (x := (2 ^ 63 - 1 : Int)) (k := (n : Int)) (by omega)
      rw [Int.mul_add, Int.mul_one]
      exact this
    have h5 : (n : Int) * ((2 ^ 63 - 1) / n + 1) ≤ n * a.length := Int.mul_le_mul_of_nonneg_left (by omega) (by omega)
    rw [Int.mul_comm] at h3
    omega
  · rw [tx_len, Int.toNat_natCast]
    show decide _ = false
    rw [decide_eq_false_iff_not]
    have : (sizeLine : Nat) = 16777216 := by decide
    omega
section
variable {X : Cx}
theorem op_mul_str : OpR X (binaryOp .Mult) (fun x y H Q => ∃ (a : List Nat) (n : Nat), x = .str (tx a) ∧ y = .int (n : Int) ∧ a.length * n ≤ 1000000 ∧ n ≤ 1000000 ∧ Q (.str (tx (rep a n))) H) := by
  intro pins s σ H x y v u Q I rx ry h
  obtain ⟨a, n, rfl, rfl, h1, h2, q⟩ := h
  obtain ⟨t, rfl⟩ := rx
  obtain ⟨t', rfl⟩ := ry
  refine PySem.SB.mul (mulOk a n h1 h2) (fun t' tk => ⟨.str (Txt.mul (tx a) n), H, I.tok _, ⟨_, rfl⟩, ?_⟩)
  rw [tx_mul]
  exact q
def CPowB (i j : Int) : Prop := 0 ≤ j ∧ (Builtin.Int.intBits i : Int) * j ≤ 2 ^ 27
theorem op_powB : OpR X (binaryOp .Pow) (rI CPowB fun i j => .int (i ^ j.toNat)) := opI fun _ _ _ _ _ _ _ hc q => PyProof.Rows.pow_int hc.1 hc.2 q
end
end WK
namespace WD
open PySem PySem.Spec PyProof.Rows L2
variable {C : Ctx}
def eqFlat : PyData → PyData → Option Bool
  | .int i, .int j => some (decide (i = j))
  | .str i, .str j => some (decide (i = j))
  | .bool i, .bool j => some (decide (i = j))
  | .none, .none => some true
  | .none, .int _ => some false
  | .int _, .none => some false
  | .none, .str _ => some false
  | .str _, .none => some false
  | .int _, .str _ => some false
  | .str _, .int _ => some false
  | .bool _, .str _ => some false
  | .str _, .bool _ => some false
  | _, _ => none
def fEq : W2 := fun d e P => ∃ b, eqFlat d e = some b ∧ P (.bool b)
def fNe : W2 := fun d e P => ∃ b, eqFlat d e = some b ∧ P (.bool (!b))
theorem eqFlat_v {K : PySem.W.Frag} {H : Hp} {N : Addr → Prop} {x y : V} {d e : PyData} {b : Bool} (hx : Dn K H N x d) (hy : Dn K H N y e) (h : eqFlat d e = some b) : scal x y = true ∧ decide (x = y) = b := by
  cases hx <;> cases hy <;> simp only [eqFlat] at h <;> cases h <;> refine ⟨rfl, ?_⟩ <;> simp
theorem fr_eq : FR2 C rEq fEq := fr2_pure fun H N Q P x y d e hx hy w k => by
  obtain ⟨b, e1, w⟩ := w
  obtain ⟨h1, h2⟩ := eqFlat_v hx hy e1
  exact ⟨h1, by rw [h2]; exact k _ _ w (.bl _)⟩
theorem fr_ne : FR2 C rNe fNe := fr2_pure fun H N Q P x y d e hx hy w k => by
  obtain ⟨b, e1, w⟩ := w
  obtain ⟨h1, h2⟩ := eqFlat_v hx hy e1
  exact ⟨h1, by rw [h2]; exact k _ _ w (.bl _)⟩
/-- numbers, with a condition -/
def f2C (c : Int → Int → Prop) (g : Int → Int → Int) : W2 := fun d e P => match d, e with
  | .int i, .int j => c i j ∧ P (.int (g i j))
  | _, _ => False
theorem fr_rI {c : Int → Int → Prop} {g : Int → Int → Int} : FR2 C (rI c fun i j => V.int (g i j)) (f2C c g) := fr2_pure fun H N Q P x y d e hx hy w k => by
  cases hx <;> cases hy <;> first | exact w.elim | exact ⟨_, _, rfl, rfl, w.1, k _ _ w.2 (.int _)⟩
/-- t + u of tuples (the left one has things) -/
def fCatT : W2 := fun d e P => match d, e with
  | .tuple xs, .tuple ys => xs ≠ [] ∧ xs.length + ys.length ≤ 16777216 ∧ P (.tuple (xs ++ ys))
  | _, _ => False
theorem fr_catT (ok : C.Ok) : FR2 C (rCatT C.K) fCatT := fun σ H ρ N Q P x y d e rp hx hy w k => by
  cases hx <;> cases hy <;> first | exact w.elim | skip
  rename_i a xs ds h t b ys es h' t'
  obtain ⟨ne, l, w⟩ := w
  have nx : xs ≠ [] := fun z => ne (by
    have := t.len
    rw [z] at this
    exact List.length_eq_zero_iff.mp this.symm)
  refine ⟨_, _, _, _, rfl, rfl, h, h', nx, by rw [szl, t.len, t'.len]; exact l, fun z => ?_, fun z p hp => ?_⟩
  · have : es = [] := by
      have := t'.len
      rw [z] at this
      exact List.length_eq_zero_iff.mp this.symm
    subst this
    rw [List.append_nil] at w
    exact k _ _ _ _ w (fun b h => h) rp.fr rp (.tup h t)
  · exact k _ _ _ _ w (fun b h => h) (rp.frA hp) (rp.alloc ok hp) (.tup (SqT.of upd_same) ((t.append t').mono (.upd hp) fun _ h => h))
/-! ### new lists, by name -/
def wLstO (a : WA) : WO := fun ρ P => a ρ fun ds ρ1 => ds.length ≤ 16777216 ∧ P ds ρ1
def wListO (a : WA) : WO := fun ρ P => a ρ fun ds ρ1 => match ds with
  | [.list xs] => P xs ρ1
  | [.tuple xs] => P xs ρ1
  | _ => False
theorem fo_lst' {t : TA} {a : WA} (ok : C.Ok) (h : FA C t a) : FO C (tLst t) (wLstO a) := fo_lst ok h
theorem fo_list' {t : TA} {a : WA} (ok : C.Ok) (h : FA C t a) : FO C (tCB (fun xs H Q => ∃ p ys, xs = [V.ref p] ∧ (SqL C.K H p ys ∨ SqT C.K H p ys) ∧ ∀ (l : Addr), H l = none → Q (V.ref l) (upd H l (HO.lst ys))) t) (wListO a) := fo_listOf ok h
def wOwn (fx : List Nat) (i : Nat) (W : WO) : WS := fun ρ P => W ρ fun ds ρ1 => (fx.all fun p => p != i) = true ∧ i < ρ1.sl.length ∧ P (.nx (ρ1.put i (.own ds)))
theorem fs_own' {t : TE} {W : WO} {i : Nat} (h : FO C t W) : FS C (tAsg t (gName i)) (wOwn C.fx i W) := fs_own h
def wYes : WT := fun ρ P => P true ρ
theorem ft_yes : FT C tYes wYes := fun σ H ρ N Q P r w k => k true H N ρ w (fun _ h => h) r.fr r
/-! ### slices -/
def WP := Env → (Option Int → Env → Prop) → Prop
def FP (C : Ctx) (t : TO) (W : WP) : Prop := ∀ σ H ρ N (Q : Option Int → Hp → Prop) (P : Option Int → Env → Prop), Rep C σ ρ N H → W ρ P →
  (∀ v H' N' ρ', P v ρ' → (∀ b, N b → N' b) → Fr C σ ρ N σ ρ' N' H H' → Rep C σ ρ' N' H' → Q v H') → t σ H Q
def wNoP : WP := fun ρ P => P none ρ
def wPart (a : WE) : WP := fun ρ P => a ρ fun d ρ1 => match d with
  | .int i => P (some i) ρ1
  | _ => False
theorem fp_none : FP C tNoPart wNoP := fun σ H ρ N Q P r w k => k none H N ρ w (fun _ h => h) r.fr r
theorem fp_some {t : TE} {a : WE} (h : FE C t a) : FP C (tPart t) (wPart a) := fun σ H ρ N Q P r w k => h σ H ρ N _ _ r w fun v H1 N1 ρ1 d w1 n1 f1 r1 h1 => by
  cases h1 <;> first | exact w1.elim | exact ⟨_, rfl, k _ H1 N1 ρ1 w1 n1 f1 r1⟩
def cutD (xs : List PyData) (lo hi : Option Int) : List PyData := (xs.drop (HT.sIx xs.length 0 lo)).take (HT.sIx xs.length xs.length hi - HT.sIx xs.length 0 lo)
theorem cut_dns {K : PySem.W.Frag} {H : Hp} {N : Addr → Prop} {vs : List V} {ds : List PyData} {lo hi : Option Int} (t : Dns K H N vs ds) : Dns K H N (cutV vs lo hi) (cutD ds lo hi) := by
  unfold cutV cutD
  rw [t.len]
  exact (t.drop _).take _
def wSlL (a : WE) (lo hi : WP) : WO := fun ρ P => a ρ fun d ρ1 => lo ρ1 fun l ρ2 => hi ρ2 fun u ρ3 => match d with
  | .list xs => P (cutD xs l u) ρ3
  | _ => False
theorem fo_slL (ok : C.Ok) {t : TE} {tl th : TO} {a : WE} {lo hi : WP} (ha : FE C t a) (hl : FP C tl lo) (hh : FP C th hi) : FO C (tSl (rSlL C.K) t tl th) (wSlL a lo hi) := fun σ H ρ N Q P r w k =>
  ha σ H ρ N _ _ r w fun v H1 N1 ρ1 d w1 n1 f1 r1 h1 => hl σ H1 ρ1 N1 _ _ r1 w1 fun l H2 N2 ρ2 w2 n2 f2 r2 => hh σ H2 ρ2 N2 _ _ r2 w2 fun u H3 N3 ρ3 w3 n3 f3 r3 => by
    have h3 := (h1.mono (f2.kp r1) n2).mono (f3.kp r2) n3
    cases h3 <;> first | exact w3.elim | skip
    rename_i p xs ds h n t
    refine ⟨p, xs, rfl, SqL.of h, fun q hq => ?_⟩
    obtain ⟨q1, q2⟩ := r3.h0 hq
    have f := (f1.trans f2).trans f3
    exact k q _ _ N3 ρ3 _ w3 (fun b h => n3 b (n2 b (n1 b h))) (f.trans (r3.frA hq)) (r3.alloc ok hq) upd_same ((cut_dns t).mono (.upd hq) fun _ h => h) (r3.notN hq) (f.back hq) q1 q2 (r3.notOwn hq)
def wSlS (a : WE) (lo hi : WP) : WE := fun ρ P => a ρ fun d ρ1 => lo ρ1 fun l ρ2 => hi ρ2 fun u ρ3 => match d with
  | .str x => x.length ≤ 16777216 ∧ P (.str (cutS x l u)) ρ3
  | _ => False
theorem fe_slS {t : TE} {tl th : TO} {a : WE} {lo hi : WP} (ha : FE C t a) (hl : FP C tl lo) (hh : FP C th hi) : FE C (tSl rSlS t tl th) (wSlS a lo hi) := fun σ H ρ N Q P r w k =>
  ha σ H ρ N _ _ r w fun v H1 N1 ρ1 d w1 n1 f1 r1 h1 => hl σ H1 ρ1 N1 _ _ r1 w1 fun l H2 N2 ρ2 w2 n2 f2 r2 => hh σ H2 ρ2 N2 _ _ r2 w2 fun u H3 N3 ρ3 w3 n3 f3 r3 => by
    have h3 := (h1.mono (f2.kp r1) n2).mono (f3.kp r2) n3
    cases h3 <;> first | exact w3.elim | skip
    exact ⟨_, rfl, by rw [szl]; exact w3.1, k _ H3 N3 ρ3 _ w3.2 (fun b h => n3 b (n2 b (n1 b h))) ((f1.trans f2).trans f3) r3 (.str _)⟩
/-! ### a def's promise with its count of parameters -/
def spD (n : Nat) (f : W1) (K : PySem.W.Frag) : Sp := fun vs H Q _ => ∃ (N : Addr → Prop) (ds : List PyData) (P : PyData → Prop), ds.length = n ∧ Dns K H N vs ds ∧ (∀ b, N b → H b ≠ none) ∧ f ds P ∧
  ∀ v H' N' z, P z → (∀ b, N b → N' b) → (∀ b, N' b → N b ∨ H b = none) → (∀ b, N' b → H' b ≠ none) → Same H H' → Dn K H' N' v z → Q v H'
theorem spD_len {n : Nat} {f : W1} {K : PySem.W.Frag} {vs : List V} {H : Hp} {Q : VK} {E : XK} (h : spD n f K vs H Q E) : vs.length = n := by
  obtain ⟨N, ds, P, l, t, _⟩ := h
  rw [t.len]
  exact l
def wCall (n : Nat) (f : W1) (a : WA) : WE := fun ρ P => a ρ fun ds ρ1 => ds.length = n ∧ f ds fun z => P z ρ1
theorem fe_callD (ok : C.Ok) {n : Nat} {f : W1} {t : TA} {a : WA} {E : XK} (h : FA C t a) : FE C (tCall (spD n f C.K) [] E t) (wCall n f a) := fun σ H ρ N Q P r w k =>
  h σ H ρ N _ _ r w fun vs H1 N1 ρ1 ds w1 n1 k1 r1 h1 => by
    refine ⟨N1, ds, _, w1.1, by rw [List.append_nil]; exact h1, r1.has, w1.2, fun v H2 N2 z w2 n2 n3 n4 s2 h2 => ?_⟩
    obtain ⟨r2, f2⟩ := r1.after ok n2 n3 n4 s2
    exact k v H2 N2 ρ1 z w2 (fun b h => n2 b (n1 b h)) (k1.trans f2) r2 h2
theorem body_D {K : PySem.W.Frag} {t : TS} {W : WS} {n m : Nat} {H : Hp} {vs : List V} {Q : VK} {E : XK} {Nn : Nat} (h : ∀ N, FS (ctxP K H N) t W) (hs : spD n (wBody m W) K vs H Q E) (hm : Nn - n = m) :
    t { nx := fun _ H' => Q .non H', rt := Q } (vs.map some ++ List.replicate (Nn - vs.length) none) H := by
  have hl := spD_len hs
  obtain ⟨N, ds, P, l, hd, hN, w, q⟩ := hs
  rw [hl, hm]
  exact body_ok (h N) hd hN w q
end WD
namespace WD
open PySem PySem.Spec PyProof.Rows L2
variable {C : Ctx}
def fIxL : W2 := fun d e P => match d with
  | .list _ => fIx d e P
  | _ => False
def fIxT : W2 := fun d e P => match d with
  | .tuple _ => fIx d e P
  | _ => False
theorem fr_ixL' : FR2 C (rIxL C.K) fIxL := fr_ixL
theorem fr_ixT' : FR2 C (rIxT C.K) fIxT := fr_ixT
/-- a table of the top, as the head tells it -/
structure TabD (K : PySem.W.Frag) (w : World) (mg : Str → Option Value) (x : Str) (p : Addr) (kvs : List (Str × PyData)) : Prop where
  g : mg x = some (.ref p)
  D : ∃ es n, KDict K w p es n
  T : Tab K p kvs
end WD
namespace WD
open PySem PySem.Spec PyProof.Rows L2
variable {C : Ctx}
/-! ### {x: True for ..} -/
def putS (acc : List Str) (x : Str) : List Str := if x ∈ acc then acc else acc ++ [x]
theorem putK_keys {acc : List Str} {x : Str} : putK (keysV acc) (.inr x) (.bl true) = keysV (putS acc x) := by
  unfold putK putS keysV
  have e : ((acc.map fun k => ((Sum.inr k : Key), V.bl true)).any fun kv => decide (kv.1 = Sum.inr x)) = decide (x ∈ acc) := by
    rw [Bool.eq_iff_iff]
    simp only [List.any_eq_true, List.mem_map, decide_eq_true_eq]
    refine ⟨?_, fun h => ⟨_, ⟨x, h, rfl⟩, rfl⟩⟩
    rintro ⟨_, ⟨k, hk, rfl⟩, h⟩
    cases h
    exact hk
  rw [e]
  by_cases h : x ∈ acc
  · rw [if_pos (decide_eq_true h), if_pos h]
    rw [List.map_map]
    apply List.map_congr_left
    intro k hk
    show (if (Sum.inr k : Key) = Sum.inr x then _ else _) = _
    split <;> rfl
  · rw [if_neg (by rw [decide_eq_true_eq]; exact h), if_neg h, List.map_append]
    rfl
theorem Rep.sideD {σ : L2.St} {ρ : Env} {N : Addr → Prop} {H : Hp} {D : Addr} {us : HO} {o : HO} (r : Rep C σ ρ N H) (hD : H D = some us) (nD : ¬ N D) (oD : ¬ OwnA σ ρ D) (d1 : C.H0 D = none) (d2 : ¬ C.M D) (ok : C.Ok) (nt : ∀ xs, us ≠ .tup xs := by intro xs z; cases z) (nz : ∀ o' u, us ≠ .frz o' u := by intro _ _ z; cases z) : Rep C σ ρ N (upd H D o) := by
  have kpx : ∀ N2 : Addr → Prop, ¬ N2 D → Kp C.K N2 H (upd H D o) := fun N2 nD => ⟨fun b u nb e => by
    have ne : b ≠ D := fun z => nD (by rw [← z]; exact nb)
    rw [upd_ne ne]
    exact e, fun b ys e => by
    have go : ∀ v, H b = some v → v ≠ us → upd H D o b = some v := fun v h ne => by
      have ne2 : b ≠ D := fun z => ne (by rw [z, hD] at h; exact (Option.some.inj h).symm)
      rw [upd_ne ne2]
      exact h
    rcases e with (e | ⟨u, e⟩) | e
    · exact .inl (.inl (go _ e (fun z => nt _ z.symm)))
    · exact .inl (.inr ⟨u, go _ e (fun z => nz _ _ z.symm)⟩)
    · exact .inr e⟩
  have kp := kpx N nD
  exact {
    len := r.len
    dat := fun i d e => by
      obtain ⟨v, h1, h2⟩ := r.dat i d e
      exact ⟨v, h1, h2.mono kp fun _ h => h⟩
    own := fun i ds e => by
      obtain ⟨a, vs, h1, h2, h3, h4⟩ := r.own i ds e
      have ne : a ≠ D := fun z => oD ⟨i, ds, e, by rw [← z]; exact h1⟩
      exact ⟨a, vs, h1, by rw [upd_ne ne]; exact h2, h3.mono kp fun _ h => h, h4⟩
    sep := r.sep
    fix := r.fix
    old := fun b o h m => by
      have ne : b ≠ D := fun z => by rw [z, d1] at h; cases h
      rw [upd_ne ne]
      exact r.old b o h m
    new := r.new
    has := fun b n => by
      have ne : b ≠ D := fun z => nD (by rw [← z]; exact n)
      rw [upd_ne ne]
      exact r.has b n
    mh := fun b m => by
      obtain ⟨xs, e⟩ := r.mh b m
      have ne : b ≠ D := fun z => d2 (by rw [← z]; exact m)
      exact ⟨xs, by rw [upd_ne ne]; exact e⟩
    j := r.j.imp fun N1 q => ⟨q.1, ok.jm (kpx (fun b => N1 b ∨ C.M b) fun z => z.elim (fun z => nD (q.1 _ z)) d2) q.2⟩ }
theorem yes_ {σ : L2.St} {H : Hp} {F : Bool → Hp → Prop} (h : F true H) : tYes σ H F := h
def wDcL (b : WG) (c : WE) (vs : List Nat) : List PyData → List En → Nat → List Str → (PyData → Env → Prop) → Prop
  | [], sl, n, acc, P => P (.dict (keysD acc)) ⟨sl, n⟩
  | d :: ds, sl, n, acc, P => b d ⟨sl, n⟩ fun ρ2 => c ρ2 fun z ρ4 => match z with
    | .str x => wipeE ρ4.sl vs = sl ∧ acc.length < 16777216 ∧ wDcL b c vs ds sl ρ4.went (putS acc x) P
    | _ => False
def wDc (fx : List Nat) (a : WI) (b : WG) (c : WE) (vs : List Nat) : WE := fun ρ P => a ρ fun ds ρ1 => ((fx.all fun p => !vs.contains p) = true ∧ wipeE ρ1.sl vs = ρ1.sl) ∧ wDcL b c vs ds ρ1.sl ρ1.went [] P
theorem fe_dc (ok : C.Ok) {wi : TI} {g : TG} {te : TE} {vs js : List Nat} {a : WI} {b : WG} {c : WE} (hi : FI C wi a) (hg : FG C js g b) (hj : ∀ j ∈ js, j ∈ vs) (he : FE C te c) :
    FE C (tDc wi g tYes te (tC (.bl true)) vs) (wDc C.fx a b c vs) := fun σ H ρ N Q P r w k => hi σ H ρ N _ _ r w fun J H1 N1 ρ1 ds w1 n1 f1 r1 it => by
  obtain ⟨⟨hf, hw⟩, w1⟩ := w1
  obtain ⟨sl, nw⟩ := ρ1
  have hw : wipeE sl vs = sl := hw
  intro D hD
  obtain ⟨d1, d2⟩ := r1.h0 hD
  have up := same_upd (o := .dK []) hD
  refine ⟨fun i m H' => m = ds.length - i ∧ i ≤ ds.length ∧ ∃ N' n acc, (∀ b, N1 b → N' b) ∧ Fr C σ ⟨sl, nw⟩ N1 σ ⟨sl, n⟩ N' H1 H' ∧ Rep C σ ⟨sl, n⟩ N' H' ∧ H' D = some (.dK (keysV acc)) ∧ ¬ N' D ∧ ¬ OwnA σ ⟨sl, n⟩ D ∧ wDcL b c vs (ds.drop i) sl n acc P,
    ⟨ds.length, by simp, Nat.zero_le _, N1, nw, [], fun _ h => h, r1.frA hD, r1.alloc ok hD, upd_same, r1.notN hD, r1.notOwn hD, w1⟩, ?_⟩
  rintro i m H2 ⟨rfl, hi2, N2, n, acc, n2, f2, r2, hD2, nD, oD, w2⟩
  have ii := it i H2 (f2.kp r1)
  by_cases hlt : i < ds.length
  · obtain ⟨go, y⟩ := ii.1 hlt
    refine .inr ⟨go, fun H' => i + 1 ≤ ds.length ∧ ∃ N' n acc, (∀ b, N1 b → N' b) ∧ Fr C σ ⟨sl, nw⟩ N1 σ ⟨sl, n⟩ N' H1 H' ∧ Rep C σ ⟨sl, n⟩ N' H' ∧ H' D = some (.dK (keysV acc)) ∧ ¬ N' D ∧ ¬ OwnA σ ⟨sl, n⟩ D ∧ wDcL b c vs (ds.drop (i + 1)) sl n acc P, fun H' p => ⟨ds.length - (i + 1), by omega, rfl, p⟩, fun x H' yl => ?_⟩
    obtain ⟨d, e1, e2⟩ := y x H' yl
    obtain ⟨f3, r3, h3⟩ := e2 σ _ N2 n2 r2
    have ed : ds.drop i = d :: ds.drop (i + 1) := by
      rw [List.drop_eq_getElem_cons hlt]
      rw [List.getElem?_eq_getElem hlt] at e1
      rw [Option.some.inj e1]
    rw [ed] at w2
    obtain ⟨r4, o4⟩ := r3.wiped hw hf
    have hD3 := f3.keep D _ hD2 d2 oD
    refine hg _ H' _ N2 x d _ _ r4 h3 w2 fun σ5 H5 N5 ρ5 w5 n5 f5 r5 b5 => ?_
    obtain ⟨ew, el⟩ := but_wipe b5 hj
    have oD4 : ¬ OwnA (wipe σ vs) ⟨sl, n⟩ D := fun z => oD (o4 D z)
    have hD5 := f5.keep D _ hD3 d2 oD4
    have oD5 : ¬ OwnA σ5 ρ5 D := fun z => by
      rcases (f5.own D z).2 with q | q
      · exact oD4 q
      · rw [hD3] at q; cases q
    -- what the begin had, seen through the block
    refine ⟨ew, yes_ ?_⟩
    rw [if_pos rfl]
    refine he σ5 H5 ρ5 N5 _ _ r5 w5 fun y7 H7 N7 ρ7 z w7 n7 f7 r7 h7 => ?_
    have fin : ∀ {H7 : Hp} {N7 : Addr → Prop} {ρ7 : Env}, Fr C σ5 ρ5 N5 σ5 ρ7 N7 H5 H7 → Rep C σ5 ρ7 N7 H7 → wipeE ρ7.sl vs = sl →
        Rep C σ ⟨sl, ρ7.went⟩ N7 H7 ∧ Fr C σ ⟨sl, nw⟩ N1 σ ⟨sl, ρ7.went⟩ N7 H1 H7 ∧ ¬ OwnA σ ⟨sl, ρ7.went⟩ D ∧ ¬ N7 D := fun {H7 N7 ρ7} f7 r7 e7 => by
      obtain ⟨sl7, n7⟩ := ρ7
      obtain ⟨q1, q2⟩ := r7.swap (σ := σ) ew e7 el hf
      have f8 := f5.trans f7
      have f9 : Fr C σ ⟨sl, n⟩ N2 σ ⟨sl, n7⟩ N7 H2 H7 := {
        keep := fun b o h mm nn => f8.keep b o (f3.keep b o h mm nn) mm fun z => nn (o4 b z)
        own := fun b z => by
          obtain ⟨m8, q⟩ := f8.own b (q2 b z)
          refine ⟨m8, ?_⟩
          rcases q with q | q
          · exact .inl (o4 b q)
          · exact .inr (f3.back q)
        dom := fun b h => f8.dom b (f3.dom b h)
        up := fun b h => by
          rcases f8.up b h with q | q | q
          · exact .inl q
          · exact .inr (.inl (f3.back q))
          · exact .inr (.inr (o4 b q)) }
      refine ⟨q1, f2.trans f9, fun z => ?_, fun z => ?_⟩
      · rcases (f9.own D z).2 with q | q
        · exact oD q
        · rw [hD2] at q; cases q
      · rcases f9.up D z with q | q | q
        · exact nD q
        · rw [hD2] at q; cases q
        · exact oD q
    cases h7 <;> first | exact w7.elim | skip
    rename_i x
    obtain ⟨e7, l7, w7⟩ := w7
    have hD7 := f7.keep D _ hD5 d2 oD5
    obtain ⟨q1, q2, q3, q4⟩ := fin f7 r7 e7
    refine ⟨keysV acc, .inr x, rfl, hD7, by rw [szl]; unfold keysV; rw [List.length_map]; exact l7, hlt, N7, ρ7.went, putS acc x, fun b h => n7 b (n5 b (n2 b h)), ?_, ?_, ?_, q4, q3, w7⟩
    · exact {
        keep := fun b o h mm nn => by
          have ne : b ≠ D := fun y => by rw [y, hD] at h; cases h
          rw [upd_ne ne]
          exact q2.keep b o h mm nn
        own := q2.own
        dom := fun b h => by
          have ne : b ≠ D := fun y => h (by rw [y]; exact hD)
          rw [upd_ne ne]
          exact q2.dom b h
        up := q2.up }
    · exact q1.sideD hD7 q4 q3 d1 d2 ok
    · rw [upd_same, putK_keys]
  · have e : i = ds.length := by omega
    subst e
    rw [List.drop_length] at w2
    refine .inl ⟨ii.2 (Nat.le_refl _), ?_⟩
    refine k (.ref D) H2 (fun b => N2 b ∨ b = D) _ (.dict (keysD acc)) w2 (fun b h => .inl (n2 b (n1 b h))) ?_ ?_ (.dct hD2 (.inr rfl))
    · have f := f1.trans f2
      exact ⟨f.keep, f.own, f.dom, fun b h => by
        rcases h with h | h
        · exact f.up b h
        · exact .inr (.inl (by rw [h]; exact f1.back hD))⟩
    · exact r2.more d1 d2 (by rw [hD2]; exact fun z => nomatch z) fun i ds e z => oD ⟨i, ds, e, z⟩
/-! ### x in such a dict; its length -/
def inD (ks : List (PyData × PyData)) (x : Str) : Bool := ks.any fun p => match p.1 with
  | .str y => decide (y = x)
  | _ => false
theorem inD_keys {ks : List Str} {x : Str} : inD (keysD ks) x = decide (x ∈ ks) := by
  unfold inD keysD
  rw [Bool.eq_iff_iff]
  simp only [List.any_eq_true, List.mem_map, decide_eq_true_eq]
  refine ⟨?_, fun h => ⟨_, ⟨x, h, rfl⟩, decide_eq_true rfl⟩⟩
  rintro ⟨_, ⟨k, hk, rfl⟩, h⟩
  have h : decide (k = x) = true := h
  rw [← of_decide_eq_true h]
  exact hk
theorem valV_keys {ks : List Str} {x : Str} : (valV (keysV ks) (.inr x)).isSome = decide (x ∈ ks) := by
  induction ks with
  | nil => rfl
  | cons k ks ih =>
    by_cases h : k = x
    · subst h
      rw [show keysV (k :: ks) = (Sum.inr k, V.bl true) :: keysV ks from rfl, valV_pos rfl]
      exact (decide_eq_true List.mem_cons_self).symm
    · rw [show keysV (k :: ks) = (Sum.inr k, V.bl true) :: keysV ks from rfl, valV_neg (fun z => h (Sum.inr.inj z)), ih]
      rw [Bool.eq_iff_iff, decide_eq_true_eq, decide_eq_true_eq]
      exact ⟨fun q => List.mem_cons_of_mem _ q, fun q => by
        rcases List.mem_cons.mp q with z | z
        · exact absurd z.symm h
        · exact z⟩
def fInK (neg : Bool) : W2 := fun d e P => match d, e with
  | .str x, .dict ks => P (.bool (xor neg (inD ks x)))
  | _, _ => False
theorem fe_inK {ty td : TE} {a b : WE} (ha : FE C ty a) (hb : FE C td b) : FE C (tDIn ty td) (wOp (fInK false) a b) := fun σ H ρ N Q P rp w k =>
  ha σ H ρ N _ _ rp w fun x H1 N1 ρ1 d w1 n1 k1 r1 h1 => hb σ H1 ρ1 N1 _ _ r1 w1 fun y H2 N2 ρ2 e w2 n2 k2 r2 h2 => by
    have h1 := h1.mono (k2.kp r1) n2
    cases h1 <;> cases h2 <;> first | exact w2.elim | skip
    rename_i x a ks h n
    refine ⟨a, _, rfl, DGet.k (k := .inr x) h, ?_⟩
    refine k _ H2 N2 ρ2 _ w2 (fun b h => n2 b (n1 b h)) (k1.trans k2) r2 ?_
    rw [valV_keys, Bool.false_xor, inD_keys]
    exact .bl _
theorem fe_ninK {ty td : TE} {a b : WE} (ha : FE C ty a) (hb : FE C td b) : FE C (tDNotIn ty td) (wOp (fInK true) a b) := fun σ H ρ N Q P rp w k =>
  ha σ H ρ N _ _ rp w fun x H1 N1 ρ1 d w1 n1 k1 r1 h1 => hb σ H1 ρ1 N1 _ _ r1 w1 fun y H2 N2 ρ2 e w2 n2 k2 r2 h2 => by
    have h1 := h1.mono (k2.kp r1) n2
    cases h1 <;> cases h2 <;> first | exact w2.elim | skip
    rename_i x a ks h n
    refine ⟨a, _, rfl, DGet.k (k := .inr x) h, ?_⟩
    refine k _ H2 N2 ρ2 _ w2 (fun b h => n2 b (n1 b h)) (k1.trans k2) r2 ?_
    rw [valV_keys, Bool.true_xor, inD_keys]
    exact .bl _
def fLenK : W1 := fun ds P => match ds with
  | [.dict ks] => P (.int (ks.length : Nat))
  | _ => False
/-! ### x in (..), flat things -/
def flatD : PyData → Bool
  | .none | .bool _ | .int _ | .str _ => true
  | _ => false
def eqvD : PyData → PyData → Bool
  | .none, .none => true
  | .bool a, .bool b => a == b
  | .bool a, .int b => (if a then 1 else 0) == b
  | .int a, .bool b => a == (if b then 1 else 0)
  | .int a, .int b => a == b
  | .str a, .str b => a == b
  | _, _ => false
def fInQ (neg : Bool) : W2 := fun d e P => flatD d = true ∧ match e with
  | .list xs => xs.all flatD = true ∧ P (.bool (xor neg (xs.any fun y => eqvD y d)))
  | .tuple xs => xs.all flatD = true ∧ P (.bool (xor neg (xs.any fun y => eqvD y d)))
  | _ => False
theorem flat_v {K : PySem.W.Frag} {H : Hp} {N : Addr → Prop} {v : V} {d : PyData} (h : Dn K H N v d) (f : flatD d = true) : flatV v = true := by
  cases h <;> simp [flatD] at f <;> rfl
theorem eqv_v {K : PySem.W.Frag} {H : Hp} {N : Addr → Prop} {v u : V} {d e : PyData} (h : Dn K H N v d) (g : Dn K H N u e) (f : flatD d = true) (f' : flatD e = true) : eqV v u = eqvD d e := by
  cases h <;> simp [flatD] at f <;> cases g <;> simp [flatD] at f' <;> rfl
theorem in_v {K : PySem.W.Frag} {H : Hp} {N : Addr → Prop} {u : V} {e : PyData} (g : Dn K H N u e) (f' : flatD e = true) : ∀ {vs : List V} {ds : List PyData}, Dns K H N vs ds → ds.all flatD = true → vs.all flatV = true ∧ inV u vs = ds.any fun y => eqvD y e
  | _, _, .nil, _ => ⟨rfl, rfl⟩
  | _, _, .cons h t, f => by
    rw [List.all_cons, Bool.and_eq_true] at f
    obtain ⟨q1, q2⟩ := in_v g f' t f.2
    refine ⟨by rw [List.all_cons, flat_v h f.1, q1]; rfl, ?_⟩
    unfold inV at q2 ⊢
    rw [List.any_cons, List.any_cons, q2, eqv_v h g f.1 f']
theorem fr_inQ : FR2 C (rIn C.K false) (fInQ false) := fr2_pure fun H N Q P x y d e hx hy w k => by
  obtain ⟨f, w⟩ := w
  cases hy <;> first | exact w.elim | skip
  · rename_i a xs ds h n t
    obtain ⟨q1, q2⟩ := in_v hx f t w.1
    refine ⟨a, xs, rfl, .inl (SqL.of h), flat_v hx f, q1, ?_⟩
    rw [q2]
    have w2 := w.2
    rw [Bool.false_xor] at w2
    exact k _ _ w2 (.bl _)
  · rename_i a xs ds h t
    obtain ⟨q1, q2⟩ := in_v hx f t w.1
    refine ⟨a, xs, rfl, .inr h, flat_v hx f, q1, ?_⟩
    rw [q2]
    have w2 := w.2
    rw [Bool.false_xor] at w2
    exact k _ _ w2 (.bl _)
theorem fr_ninQ : FR2 C (rIn C.K true) (fInQ true) := fr2_pure fun H N Q P x y d e hx hy w k => by
  obtain ⟨f, w⟩ := w
  cases hy <;> first | exact w.elim | skip
  · rename_i a xs ds h n t
    obtain ⟨q1, q2⟩ := in_v hx f t w.1
    refine ⟨a, xs, rfl, .inl (SqL.of h), flat_v hx f, q1, ?_⟩
    rw [q2]
    have w2 := w.2
    rw [Bool.true_xor] at w2
    exact k _ _ w2 (.bl _)
  · rename_i a xs ds h t
    obtain ⟨q1, q2⟩ := in_v hx f t w.1
    refine ⟨a, xs, rfl, .inr h, flat_v hx f, q1, ?_⟩
    rw [q2]
    have w2 := w.2
    rw [Bool.true_xor] at w2
    exact k _ _ w2 (.bl _)
/-- x.extend(e), x own, e a list -/
def wExtend (i : Nat) (a : WE) : WE := fun ρ P => (ownOf (ρ.at i)).isSome = true ∧ a ρ fun d ρ1 => match d with
  | .list es => ∃ ds, ownOf (ρ1.at i) = some ds ∧ ds.length + es.length ≤ 16777216 ∧ P .none (ρ1.put i (.own (ds ++ es)))
  | _ => False
theorem fe_extend (ok : C.Ok) {i : Nat} {t : TE} {a : WE} (h : FE C t a) : FE C (tBM C.K "list" rExtend (tVar i) (tCons t tNil)) (wExtend i a) := fun σ H ρ N Q P r w k => by
  obtain ⟨w0, w⟩ := w
  obtain ⟨ds0, e0⟩ := Option.isSome_iff_exists.mp w0
  obtain ⟨p, vs, h1, h2, _⟩ := r.own i ds0 (ownOf_eq e0)
  refine ⟨.ref p, h1, .inl ⟨rfl, vs, SqL.of h2⟩, ?_⟩
  refine h σ H ρ N _ _ r w fun v H1 N1 ρ1 d w1 n1 f1 r1 hd => ?_
  cases hd <;> first | exact w1.elim | skip
  rename_i b ys es hb nb tb
  obtain ⟨ds, e1, l, w1⟩ := w1
  have e1 := ownOf_eq e1
  obtain ⟨p', vs', g1, g2, g3, g4⟩ := r1.own i ds e1
  rw [h1] at g1
  cases g1
  refine ⟨p, b, vs', ys, rfl, rfl, g2, hb, by rw [szl, g3.len, tb.len]; exact l, ?_⟩
  obtain ⟨r2, f2⟩ := r1.write ok e1 h1 g2 (g3.append tb)
  exact k .non _ N1 _ .none w1 n1 (f1.trans f2) r2 .non
end WD
namespace WD
open PySem PySem.Spec PyProof.Rows L2
/-! ### x.extend(t), t a tuple -/
open Builtin.List AutoSeq1 in
theorem extend_lt (l : Addr) (items : Array Value) (n : Nat) (b : Addr) (items2 : Array Value) (n2 : Nat) (dd : Option Addr) (sl : Array (Option Value)) (hs0 : ¬(!items.isEmpty && Builtin.List.listTooLong (items.size + items2.size)) = true) (hs1 : items.size ≤ sizeLine) (hs2 : items.size + items2.size ≤ sizeLine + 1) :
    Meets (Builtin.«list.extend» ⟨[.ref l, .ref b], []⟩) (fun _ R s => s.heap.get? l = some { cls := .type "list", dict := none, data := .seq items n, slots := #[] } ∧ s.heap.get? b = some { cls := .type "tuple", dict := dd, data := .seq items2 n2, slots := sl } ∧ R (.ok (.ret Value.none)) { s with heap := s.heap.update l (Obj.mapSeq fun x => x ++ items2), toks := s.toks }) :=
  .of_wp fun prog w A R s h => by
    obtain ⟨hp, g, d, tk, os⟩ := s; obtain ⟨hl, hb, h⟩ := h; have f1 := idx_int; have f2 := AutoSeq1.sub_tuple_tuple; have f3 := AutoSeq1.sub_list_list; have f4 := AutoSeq1.sub_tuple_list; have f5 := AutoSeq1.sub_list_tuple;
    have hz' : (items ++ items2).size ≤ sizeLine + 1 := by rw [Array.size_append]; exact hs2
    wp_walk using (wpAny_updateSeq hl rfl (hz := hs1) (_hz' := hz')), wpAny_loadPart' hl, wpAny_loadPart' hb; exact ⟨_, rfl, h⟩
def rExtendT (K : PySem.W.Frag) : V → List V → Hp → VK → Prop := fun x vs H Q => ∃ l b xs zs, x = .ref l ∧ vs = [.ref b] ∧ H l = some (.lst xs) ∧ SqT K H b zs ∧ xs.length + zs.length ≤ sizeLine ∧ Q .non (upd H l (.lst (xs ++ zs)))
theorem mt_extendT {X : Cx} : MtM X "list.extend" (rExtendT X.K) := by
  intro pins s σ H x vs v us Q I rx rv h
  obtain ⟨l, b, xs, zs, rfl, rfl, hH, hB, hz, q⟩ := h
  cases rx
  obtain ⟨u, rfl, ru⟩ := rv.one
  cases ru
  obtain ⟨z, its, n, r, hl, e⟩ := I.lstM hH
  obtain ⟨its2, r2, ⟨ob, e2, hc, n2, hd⟩, hl2⟩ := I.tuple hB
  have hlen := r2.length
  have hlen1 := r.length
  have hsz : its.toArray.size + its2.toArray.size ≤ sizeLine := by rw [List.size_toArray, List.size_toArray]; omega
  have hlong : ¬ (!its.toArray.isEmpty && Builtin.List.listTooLong (its.toArray.size + its2.toArray.size)) = true := by
    rw [notLongL hsz, Bool.and_false]
    exact Bool.false_ne_true
  obtain ⟨oc, od, dt, sl⟩ := ob
  cases hc
  cases hd
  refine call_meets F.slot_list_extend ⟨_, e, rfl⟩ F.entry_list_extend (F.args_list_extend_2 _ _)
    (extend_lt l its.toArray n b its2.toArray n2 od sl hlong (by rw [List.size_toArray]; omega) (by omega)) ⟨e, e2, ?_⟩
  refine ⟨.non, _, I.lset (its' := its ++ its2) hH e (by simp) (r.append r2) ?_, rfl, q⟩
  rw [List.length_append]
  omega
variable {C : Ctx}
def wExtendT (i : Nat) (a : WE) : WE := fun ρ P => (ownOf (ρ.at i)).isSome = true ∧ a ρ fun d ρ1 => match d with
  | .tuple es => ∃ ds, ownOf (ρ1.at i) = some ds ∧ ds.length + es.length ≤ 16777216 ∧ P .none (ρ1.put i (.own (ds ++ es)))
  | _ => False
theorem fe_extendT (ok : C.Ok) {i : Nat} {t : TE} {a : WE} (h : FE C t a) : FE C (tBM C.K "list" (rExtendT C.K) (tVar i) (tCons t tNil)) (wExtendT i a) := fun σ H ρ N Q P r w k => by
  obtain ⟨w0, w⟩ := w
  obtain ⟨ds0, e0⟩ := Option.isSome_iff_exists.mp w0
  obtain ⟨p, vs, h1, h2, _⟩ := r.own i ds0 (ownOf_eq e0)
  refine ⟨.ref p, h1, .inl ⟨rfl, vs, SqL.of h2⟩, ?_⟩
  refine h σ H ρ N _ _ r w fun v H1 N1 ρ1 d w1 n1 f1 r1 hd => ?_
  cases hd <;> first | exact w1.elim | skip
  rename_i b ys es hb tb
  obtain ⟨ds, e1, l, w1⟩ := w1
  have e1 := ownOf_eq e1
  obtain ⟨p', vs', g1, g2, g3, g4⟩ := r1.own i ds e1
  rw [h1] at g1
  cases g1
  refine ⟨p, b, vs', ys, rfl, rfl, g2, hb, by rw [szl, g3.len, tb.len]; exact l, ?_⟩
  obtain ⟨r2, f2⟩ := r1.write ok e1 h1 g2 (g3.append tb)
  exact k .non _ N1 _ .none w1 n1 (f1.trans f2) r2 .non
/-! ### tuples of any length put together, cut -/
def fCatA : W2 := fun d e P => match d, e with
  | .tuple xs, .tuple ys => xs.length + ys.length ≤ 16777216 ∧ P (.tuple (xs ++ ys))
  | _, _ => False
theorem nil_of {K : PySem.W.Frag} {H : Hp} {N : Addr → Prop} {vs : List V} {ds : List PyData} (t : Dns K H N vs ds) (h : vs = []) : ds = [] := by
  subst h
  cases t
  rfl
theorem fr_catA (ok : C.Ok) : FR2 C (rCatA C.K) fCatA := fun σ H ρ N Q P x y d e rp hx hy w k => by
  cases hx <;> cases hy <;> first | exact w.elim | skip
  rename_i a xs ds h t b ys es h' t'
  obtain ⟨l, w⟩ := w
  refine ⟨_, _, _, _, rfl, rfl, h, h', by rw [szl, t.len, t'.len]; exact l, fun z => ?_, fun _ z => ?_, fun _ _ p hp => ?_⟩
  · have := nil_of t z
    subst this
    exact k _ _ _ _ w (fun b h => h) rp.fr rp (.tup h' t')
  · have := nil_of t' z
    subst this
    rw [List.append_nil] at w
    exact k _ _ _ _ w (fun b h => h) rp.fr rp (.tup h t)
  · exact k _ _ _ _ w (fun b h => h) (rp.frA hp) (rp.alloc ok hp) (.tup (SqT.of upd_same) ((t.append t').mono (.upd hp) fun _ h => h))
def wSlT (a : WE) (lo hi : WP) : WE := fun ρ P => a ρ fun d ρ1 => lo ρ1 fun l ρ2 => hi ρ2 fun u ρ3 => match d with
  | .tuple xs => P (.tuple (cutD xs l u)) ρ3
  | _ => False
theorem fe_slT (ok : C.Ok) {t : TE} {tl th : TO} {a : WE} {lo hi : WP} (ha : FE C t a) (hl : FP C tl lo) (hh : FP C th hi) : FE C (tSl (rSlA C.K) t tl th) (wSlT a lo hi) := fun σ H ρ N Q P r w k =>
  ha σ H ρ N _ _ r w fun v H1 N1 ρ1 d w1 n1 f1 r1 h1 => hl σ H1 ρ1 N1 _ _ r1 w1 fun l H2 N2 ρ2 w2 n2 f2 r2 => hh σ H2 ρ2 N2 _ _ r2 w2 fun u H3 N3 ρ3 w3 n3 f3 r3 => by
    have h3 := (h1.mono (f2.kp r1) n2).mono (f3.kp r2) n3
    cases h3 <;> first | exact w3.elim | skip
    rename_i p xs ds h t
    have f := (f1.trans f2).trans f3
    refine ⟨p, xs, rfl, h, fun z => ?_, fun _ q hq => ?_⟩
    · have e : cutD ds l u = ds := by
        unfold cutD
        rw [t.len] at z
        rw [z.1, z.2, List.drop_zero, Nat.sub_zero, List.take_length]
      have w3 : P (.tuple (cutD ds l u)) ρ3 := w3
      rw [e] at w3
      exact k _ H3 N3 ρ3 _ w3 (fun b h => n3 b (n2 b (n1 b h))) f r3 (.tup h t)
    · exact k _ _ N3 ρ3 _ w3 (fun b h => n3 b (n2 b (n1 b h))) (f.trans (r3.frA hq)) (r3.alloc ok hq) (.tup (SqT.of upd_same) ((cut_dns t).mono (.upd hq) fun _ h => h))
/-! ### [e for a in A for b in B] -/
/-- the inner walk: things are put behind acc -/
def wIn2 (b1 : WG) (c : WE) (vs : List Nat) : List PyData → List En → Nat → List PyData → (Env → List PyData → Prop) → Prop
  | [], sl, n, acc, P => P ⟨sl, n⟩ acc
  | d :: ds, sl, n, acc, P => b1 d ⟨sl, n⟩ fun ρ2 => c ρ2 fun z ρ4 => acc.length < 16777216 ∧ wIn2 b1 c vs ds ρ4.sl ρ4.went (acc ++ [z]) P
end WD
namespace WD
open PySem PySem.Spec PyProof.Rows L2
variable {C : Ctx}
/-- what was there stays, but for what others may change, the own lists, and D -/
structure FrD (C : Ctx) (D : Addr) (σ : L2.St) (ρ : Env) (N : Addr → Prop) (σ' : L2.St) (ρ' : Env) (N' : Addr → Prop) (H H' : Hp) : Prop where
  keep : ∀ b o, b ≠ D → H b = some o → ¬ C.M b → ¬ OwnA σ ρ b → H' b = some o
  own : ∀ b, OwnA σ' ρ' b → ¬ C.M b ∧ (OwnA σ ρ b ∨ H b = none)
  dom : ∀ b, H b ≠ none → H' b ≠ none
  up : ∀ b, N' b → N b ∨ H b = none ∨ OwnA σ ρ b
theorem FrD.of {D : Addr} {σ σ' : L2.St} {ρ ρ' : Env} {N N' : Addr → Prop} {H H' : Hp} (f : Fr C σ ρ N σ' ρ' N' H H') : FrD C D σ ρ N σ' ρ' N' H H' := ⟨fun b o _ h m n => f.keep b o h m n, f.own, f.dom, f.up⟩
theorem FrD.trans {D : Addr} {σ σ1 σ2 : L2.St} {ρ ρ1 ρ2 : Env} {N N1 N2 : Addr → Prop} {H H1 H2 : Hp} (a : FrD C D σ ρ N σ1 ρ1 N1 H H1) (b : FrD C D σ1 ρ1 N1 σ2 ρ2 N2 H1 H2) : FrD C D σ ρ N σ2 ρ2 N2 H H2 where
  keep := fun x o e h m n => b.keep x o e (a.keep x o e h m n) m fun z => by
    rcases (a.own x z).2 with q | q
    · exact n q
    · rw [h] at q; cases q
  own := fun x z => by
    obtain ⟨m, q⟩ := b.own x z
    refine ⟨m, ?_⟩
    rcases q with q | q
    · exact (a.own x q).2
    · by_cases y : OwnA σ ρ x
      · exact .inl y
      · cases e : H x with
        | none => exact .inr rfl
        | some o => exact absurd q (a.dom x (by rw [e]; exact fun z => nomatch z))
  dom := fun x h => b.dom x (a.dom x h)
  up := fun x h => by
    rcases b.up x h with q | q | q
    · exact a.up x q
    · cases e : H x with
      | none => exact .inr (.inl rfl)
      | some o => exact absurd q (a.dom x (by rw [e]; exact fun z => nomatch z))
    · rcases (a.own x q).2 with z | z
      · exact .inr (.inr z)
      · exact .inr (.inl z)
theorem FrD.kp {D : Addr} {σ σ' : L2.St} {ρ ρ' : Env} {N N' : Addr → Prop} {H H' : Hp} (f : FrD C D σ ρ N σ' ρ' N' H H') (r : Rep C σ ρ N H) {us : List V} (hD : H D = some (.lst us)) (nD : ¬ N D) : Kp C.K N H H' where
  n := fun b o n h => f.keep b o (fun z => nD (by rw [← z]; exact n)) h (r.new b n).2 fun z => (r.ownA z).2.1 n
  t := fun b xs h => by
    have go : ∀ o, H b = some o → (∀ ys, o ≠ .lst ys) → H' b = some o := fun o e ne => f.keep b o (fun z => by rw [z, hD] at e; exact ne us (Option.some.inj e).symm) e (fun m => by
      obtain ⟨ys, q⟩ := r.mh b m
      rw [e] at q
      exact ne ys (Option.some.inj q)) fun z => by
      obtain ⟨_, _, _, ys, q⟩ := r.ownA z
      rw [e] at q
      exact ne ys (Option.some.inj q)
    rcases h with (h | ⟨o, h⟩) | h
    · exact .inl (.inl (go _ h fun _ z => nomatch z))
    · exact .inl (.inr ⟨o, go _ h fun _ z => nomatch z⟩)
    · exact .inr h
theorem FrD.set {D : Addr} {σ σ' : L2.St} {ρ ρ' : Env} {N N' : Addr → Prop} {H H' : Hp} {o0 o : HO} (f : FrD C D σ ρ N σ' ρ' N' H H') (hD : H D = some o0) : FrD C D σ ρ N σ' ρ' N' H (upd H' D o) where
  keep := fun b u ne h m n => by
    rw [upd_ne ne]
    exact f.keep b u ne h m n
  own := f.own
  dom := fun b h => by
    by_cases e : b = D
    · rw [e, upd_same]; exact fun z => nomatch z
    · rw [upd_ne e]; exact f.dom b h
  up := f.up
theorem comp_loop (ok : C.Ok) {g : TG} {tt : TT} {te : TE} {vs js : List Nat} {b : WG} {wt : WT} {c : WE} (hg : FG C js g b) (hj : ∀ j ∈ js, j ∈ vs) (ht : FT C tt wt) (he : FE C te c) {J : It} {σ : L2.St} {sl : List En} {nw : Nat} {N1 : Addr → Prop} {H1 : Hp} {ds acc0 : List PyData} {us0 : List V} {D : Addr} {Qd : Hp → Prop} {P : List PyData → Env → Prop}
    (it : Iw C J N1 H1 ds) (hf : (C.fx.all fun p => !vs.contains p) = true) (hw : wipeE sl vs = sl) (r1 : Rep C σ ⟨sl, nw⟩ N1 H1) (hD : H1 D = some (.lst us0)) (ha0 : Dns C.K H1 N1 us0 acc0) (nD0 : ¬ N1 D) (oD0 : ¬ OwnA σ ⟨sl, nw⟩ D) (d1 : C.H0 D = none) (d2 : ¬ C.M D)
    (w1 : wComp b wt c vs ds sl nw acc0 P)
    (k : ∀ H' N' n us acc, P acc ⟨sl, n⟩ → (∀ b, N1 b → N' b) → FrD C D σ ⟨sl, nw⟩ N1 σ ⟨sl, n⟩ N' H1 H' → Rep C σ ⟨sl, n⟩ N' H' → H' D = some (.lst us) → Dns C.K H' N' us acc → ¬ N' D → ¬ OwnA σ ⟨sl, n⟩ D → Qd H') :
    ∃ W : Nat → Nat → Hp → Prop, (∃ m, W 0 m H1) ∧ ∀ i m H, W i m H → (J.stop i H ∧ Qd H) ∨ (J.go i H ∧ ∃ Nx : Hp → Prop, (∀ H', Nx H' → ∃ m', m' < m ∧ W (i + 1) m' H') ∧ ∀ x H', J.yld i H x H' → g x (wipe σ vs) H' fun σ2 H2 => wipe σ2 vs = wipe σ vs ∧ tt σ2 H2 fun b H3 =>
      if b = true then te σ2 H3 fun y H4 => ∃ acc, H4 D = some (.lst acc) ∧ acc.length < sizeLine ∧ Nx (upd H4 D (.lst (acc ++ [y]))) else Nx H3) := by
  refine ⟨fun i m H' => m = ds.length - i ∧ i ≤ ds.length ∧ ∃ N' n us acc, (∀ b, N1 b → N' b) ∧ FrD C D σ ⟨sl, nw⟩ N1 σ ⟨sl, n⟩ N' H1 H' ∧ Rep C σ ⟨sl, n⟩ N' H' ∧ H' D = some (.lst us) ∧ Dns C.K H' N' us acc ∧ ¬ N' D ∧ ¬ OwnA σ ⟨sl, n⟩ D ∧ wComp b wt c vs (ds.drop i) sl n acc P,
    ⟨ds.length, by simp, Nat.zero_le _, N1, nw, us0, acc0, fun _ h => h, .of r1.fr, r1, hD, ha0, nD0, oD0, w1⟩, ?_⟩
  rintro i m H2 ⟨rfl, hi2, N2, n, us, acc, n2, f2, r2, hD2, hacc, nD, oD, w2⟩
  have ii := it i H2 (f2.kp r1 hD nD0)
  by_cases hlt : i < ds.length
  · obtain ⟨go, y⟩ := ii.1 hlt
    refine .inr ⟨go, fun H' => i + 1 ≤ ds.length ∧ ∃ N' n us acc, (∀ b, N1 b → N' b) ∧ FrD C D σ ⟨sl, nw⟩ N1 σ ⟨sl, n⟩ N' H1 H' ∧ Rep C σ ⟨sl, n⟩ N' H' ∧ H' D = some (.lst us) ∧ Dns C.K H' N' us acc ∧ ¬ N' D ∧ ¬ OwnA σ ⟨sl, n⟩ D ∧ wComp b wt c vs (ds.drop (i + 1)) sl n acc P, fun H' p => ⟨ds.length - (i + 1), by omega, rfl, p⟩, fun x H' yl => ?_⟩
    obtain ⟨d, e1, e2⟩ := y x H' yl
    obtain ⟨f3, r3, h3⟩ := e2 σ _ N2 n2 r2
    have ed : ds.drop i = d :: ds.drop (i + 1) := by
      rw [List.drop_eq_getElem_cons hlt]
      rw [List.getElem?_eq_getElem hlt] at e1
      rw [Option.some.inj e1]
    rw [ed] at w2
    obtain ⟨r4, o4⟩ := r3.wiped hw hf
    have hD3 := f3.keep D _ hD2 d2 oD
    have hacc3 := hacc.mono (f3.kp r2) fun _ h => h
    refine hg _ H' _ N2 x d _ _ r4 h3 w2 fun σ5 H5 N5 ρ5 w5 n5 f5 r5 b5 => ?_
    obtain ⟨ew, el⟩ := but_wipe b5 hj
    have oD4 : ¬ OwnA (wipe σ vs) ⟨sl, n⟩ D := fun z => oD (o4 D z)
    have hD5 := f5.keep D _ hD3 d2 oD4
    have hacc5 := hacc3.mono (f5.kp r4) n5
    have oD5 : ¬ OwnA σ5 ρ5 D := fun z => by
      rcases (f5.own D z).2 with q | q
      · exact oD4 q
      · rw [hD3] at q; cases q
    -- what the begin had, seen through the block
    refine ⟨ew, ht σ5 H5 ρ5 N5 _ _ r5 w5 fun kk H6 N6 ρ6 w6 n6 f6 r6 => ?_⟩
    have fin : ∀ {H7 : Hp} {N7 : Addr → Prop} {ρ7 : Env}, Fr C σ5 ρ5 N5 σ5 ρ7 N7 H5 H7 → Rep C σ5 ρ7 N7 H7 → wipeE ρ7.sl vs = sl →
        Rep C σ ⟨sl, ρ7.went⟩ N7 H7 ∧ FrD C D σ ⟨sl, nw⟩ N1 σ ⟨sl, ρ7.went⟩ N7 H1 H7 ∧ ¬ OwnA σ ⟨sl, ρ7.went⟩ D ∧ ¬ N7 D := fun {H7 N7 ρ7} f7 r7 e7 => by
      obtain ⟨sl7, n7⟩ := ρ7
      obtain ⟨q1, q2⟩ := r7.swap (σ := σ) ew e7 el hf
      have f8 := f5.trans f7
      have f9 : Fr C σ ⟨sl, n⟩ N2 σ ⟨sl, n7⟩ N7 H2 H7 := {
        keep := fun b o h mm nn => f8.keep b o (f3.keep b o h mm nn) mm fun z => nn (o4 b z)
        own := fun b z => by
          obtain ⟨m8, q⟩ := f8.own b (q2 b z)
          refine ⟨m8, ?_⟩
          rcases q with q | q
          · exact .inl (o4 b q)
          · exact .inr (f3.back q)
        dom := fun b h => f8.dom b (f3.dom b h)
        up := fun b h => by
          rcases f8.up b h with q | q | q
          · exact .inl q
          · exact .inr (.inl (f3.back q))
          · exact .inr (.inr (o4 b q)) }
      refine ⟨q1, f2.trans (.of f9), fun z => ?_, fun z => ?_⟩
      · rcases (f9.own D z).2 with q | q
        · exact oD q
        · rw [hD2] at q; cases q
      · rcases f9.up D z with q | q | q
        · exact nD q
        · rw [hD2] at q; cases q
        · exact oD q
    have hD6 := f6.keep D _ hD5 d2 oD5
    have oD6 : ¬ OwnA σ5 ρ6 D := fun z => by
      rcases (f6.own D z).2 with q | q
      · exact oD5 q
      · rw [hD5] at q; cases q
    have hacc6 := hacc5.mono (f6.kp r5) n6
    cases kk with
    | false =>
      obtain ⟨e6, w6⟩ := w6
      obtain ⟨q1, q2, q3, q4⟩ := fin f6 r6 e6
      exact ⟨hlt, N6, ρ6.went, us, acc, fun b h => n6 b (n5 b (n2 b h)), q2, q1, hD6, hacc6, q4, q3, w6⟩
    | true =>
      refine he σ5 H6 ρ6 N6 _ _ r6 w6 fun v H7 N7 ρ7 z w7 n7 f7 r7 h7 => ?_
      obtain ⟨e7, l7, w7⟩ := w7
      have hD7 := f7.keep D _ hD6 d2 oD6
      have hacc7 := hacc6.mono (f7.kp r6) n7
      obtain ⟨q1, q2, q3, q4⟩ := fin (f6.trans f7) r7 e7
      refine ⟨us, hD7, by rw [szl, hacc7.len]; exact l7, hlt, N7, ρ7.went, us ++ [v], acc ++ [z], fun b h => n7 b (n6 b (n5 b (n2 b h))), ?_, ?_, upd_same, ?_, q4, q3, w7⟩
      · exact q2.set hD
      · exact q1.side hD7 q4 q3 d1 d2 ok
      · exact (hacc7.append (.cons h7 .nil)).mono (.set hD7 q4) fun _ h => h
  · have e : i = ds.length := by omega
    subst e
    rw [List.drop_length] at w2
    exact .inl ⟨ii.2 (Nat.le_refl _), k H2 N2 n us acc w2 n2 f2 r2 hD2 hacc nD oD⟩
/-! ### [e for a in A for b in B] -/
def wLc2L (b : WG) (a1 : WI) (b1 : WG) (c : WE) (vs vs1 : List Nat) : List PyData → List En → Nat → List PyData → (List PyData → Env → Prop) → Prop
  | [], sl, n, acc, P => P acc ⟨sl, n⟩
  | d :: ds, sl, n, acc, P => b d ⟨sl, n⟩ fun ρ2 => a1 ρ2 fun es ρ3 => wipeE ρ3.sl vs1 = ρ3.sl ∧ wComp b1 wYes c vs1 es ρ3.sl ρ3.went acc fun acc' ρ4 => wipeE ρ3.sl vs = sl ∧ wLc2L b a1 b1 c vs vs1 ds sl ρ4.went acc' P
def wLc2 (fx : List Nat) (a : WI) (b : WG) (a1 : WI) (b1 : WG) (c : WE) (vs vs1 : List Nat) : WO := fun ρ P => a ρ fun ds ρ1 => ((fx.all fun p => !vs.contains p) = true ∧ (fx.all fun p => !vs1.contains p) = true ∧ wipeE ρ1.sl vs = ρ1.sl) ∧ wLc2L b a1 b1 c vs vs1 ds ρ1.sl ρ1.went [] P
theorem fo_lc2 (ok : C.Ok) {wi wi1 : TI} {g g1 : TG} {te : TE} {vs js vs1 js1 : List Nat} {a a1 : WI} {b b1 : WG} {c : WE} (hi : FI C wi a) (hg : FG C js g b) (hj : ∀ j ∈ js, j ∈ vs) (hi1 : FI C wi1 a1) (hg1 : FG C js1 g1 b1) (hj1 : ∀ j ∈ js1, j ∈ vs1) (he : FE C te c) :
    FO C (tLc2 wi g tYes wi1 g1 tYes te vs vs1) (wLc2 C.fx a b a1 b1 c vs vs1) := fun σ H ρ N Q P r w k => hi σ H ρ N _ _ r w fun J H1 N1 ρ1 ds w1 n1 f1 r1 it => by
  obtain ⟨⟨hf, hf1, hw⟩, w1⟩ := w1
  obtain ⟨sl, nw⟩ := ρ1
  have hw : wipeE sl vs = sl := hw
  intro D hD
  obtain ⟨d1, d2⟩ := r1.h0 hD
  refine ⟨fun i m H' => m = ds.length - i ∧ i ≤ ds.length ∧ ∃ N' n us acc, (∀ b, N1 b → N' b) ∧ Fr C σ ⟨sl, nw⟩ N1 σ ⟨sl, n⟩ N' H1 H' ∧ Rep C σ ⟨sl, n⟩ N' H' ∧ H' D = some (.lst us) ∧ Dns C.K H' N' us acc ∧ ¬ N' D ∧ ¬ OwnA σ ⟨sl, n⟩ D ∧ wLc2L b a1 b1 c vs vs1 (ds.drop i) sl n acc P,
    ⟨ds.length, by simp, Nat.zero_le _, N1, nw, [], [], fun _ h => h, r1.frA hD, r1.alloc ok hD, upd_same, .nil, r1.notN hD, r1.notOwn hD, w1⟩, ?_⟩
  rintro i m H2 ⟨rfl, hi2, N2, n, us, acc, n2, f2, r2, hD2, hacc, nD, oD, w2⟩
  have ii := it i H2 (f2.kp r1)
  by_cases hlt : i < ds.length
  · obtain ⟨go, y⟩ := ii.1 hlt
    refine .inr ⟨go, fun H' => i + 1 ≤ ds.length ∧ ∃ N' n us acc, (∀ b, N1 b → N' b) ∧ Fr C σ ⟨sl, nw⟩ N1 σ ⟨sl, n⟩ N' H1 H' ∧ Rep C σ ⟨sl, n⟩ N' H' ∧ H' D = some (.lst us) ∧ Dns C.K H' N' us acc ∧ ¬ N' D ∧ ¬ OwnA σ ⟨sl, n⟩ D ∧ wLc2L b a1 b1 c vs vs1 (ds.drop (i + 1)) sl n acc P, fun H' p => ⟨ds.length - (i + 1), by omega, rfl, p⟩, fun x H' yl => ?_⟩
    obtain ⟨d, e1, e2⟩ := y x H' yl
    obtain ⟨f3, r3, h3⟩ := e2 σ _ N2 n2 r2
    have ed : ds.drop i = d :: ds.drop (i + 1) := by
      rw [List.drop_eq_getElem_cons hlt]
      rw [List.getElem?_eq_getElem hlt] at e1
      rw [Option.some.inj e1]
    rw [ed] at w2
    obtain ⟨r4, o4⟩ := r3.wiped hw hf
    have hD3 := f3.keep D _ hD2 d2 oD
    have hacc3 := hacc.mono (f3.kp r2) fun _ h => h
    refine hg _ H' _ N2 x d _ _ r4 h3 w2 fun σ5 H5 N5 ρ5 w5 n5 f5 r5 b5 => ?_
    obtain ⟨ew, el⟩ := but_wipe b5 hj
    have oD4 : ¬ OwnA (wipe σ vs) ⟨sl, n⟩ D := fun z => oD (o4 D z)
    have hD5 := f5.keep D _ hD3 d2 oD4
    have hacc5 := hacc3.mono (f5.kp r4) n5
    have oD5 : ¬ OwnA σ5 ρ5 D := fun z => by
      rcases (f5.own D z).2 with q | q
      · exact oD4 q
      · rw [hD3] at q; cases q
    have nD5 : ¬ N5 D := fun z => by
      rcases f5.up D z with q | q | q
      · exact nD q
      · rw [hD3] at q; cases q
      · exact oD4 q
    refine ⟨ew, yes_ ?_⟩
    rw [if_pos rfl]
    refine hi1 σ5 H5 ρ5 N5 _ _ r5 w5 fun J1 H6 N6 ρ6 es w6 n6 f6 r6 it6 => ?_
    obtain ⟨hw6, w6⟩ := w6
    obtain ⟨sl6, nw6⟩ := ρ6
    have hw6 : wipeE sl6 vs1 = sl6 := hw6
    have hD6 := f6.keep D _ hD5 d2 oD5
    have hacc6 := hacc5.mono (f6.kp r5) n6
    have oD6 : ¬ OwnA σ5 ⟨sl6, nw6⟩ D := fun z => by
      rcases (f6.own D z).2 with q | q
      · exact oD5 q
      · rw [hD5] at q; cases q
    have nD6 : ¬ N6 D := fun z => by
      rcases f6.up D z with q | q | q
      · exact nD5 q
      · rw [hD5] at q; cases q
      · exact oD5 q
    refine comp_loop ok hg1 hj1 ft_yes he it6 hf1 hw6 r6 hD6 hacc6 nD6 oD6 d1 d2 w6 fun H7 N7 n7 us7 acc7 w7 m7 f7 r7 hD7 hacc7 nD7 oD7 => ?_
    obtain ⟨e7, w7⟩ := w7
    have e7 : wipeE sl6 vs = sl := e7
    obtain ⟨q1, q2⟩ := r7.swap (σ := σ) ew e7 el hf
    have f8 : FrD C D σ5 ρ5 N5 σ5 ⟨sl6, n7⟩ N7 H5 H7 := (FrD.of f6).trans f7
    have f9 : FrD C D (wipe σ vs) ⟨sl, n⟩ N2 σ5 ⟨sl6, n7⟩ N7 H' H7 := (FrD.of f5).trans f8
    have fA : Fr C σ ⟨sl, nw⟩ N1 σ ⟨sl, n7⟩ N7 H1 H7 := {
      keep := fun b o h mm nn => by
        have ne : b ≠ D := fun y => by rw [y, hD] at h; cases h
        have nn2 : ¬ OwnA σ ⟨sl, n⟩ b := fun z => by
          rcases (f2.own b z).2 with q | q
          · exact nn q
          · rw [h] at q; cases q
        exact f9.keep b o ne (f3.keep b o (f2.keep b o h mm nn) mm nn2) mm fun z => nn2 (o4 b z)
      own := fun b z => by
        obtain ⟨m8, q⟩ := f9.own b (q2 b z)
        refine ⟨m8, ?_⟩
        rcases q with q | q
        · exact (f2.own b (o4 b q)).2
        · exact .inr (f2.back (f3.back q))
      dom := fun b h => f9.dom b (f3.dom b (f2.dom b h))
      up := fun b h => by
        rcases f9.up b h with q | q | q
        · exact f2.up b q
        · exact .inr (.inl (f2.back (f3.back q)))
        · rcases (f2.own b (o4 b q)).2 with z | z
          · exact .inr (.inr z)
          · exact .inr (.inl z) }
    refine ⟨hlt, N7, n7, us7, acc7, fun b h => m7 b (n6 b (n5 b (n2 b h))), fA, q1, hD7, hacc7, nD7, fun z => ?_, w7⟩
    exact oD7 (q2 D z)
  · have e : i = ds.length := by omega
    subst e
    rw [List.drop_length] at w2
    exact .inl ⟨ii.2 (Nat.le_refl _), k D us H2 N2 _ acc w2 (fun b h => n2 b (n1 b h)) (f1.trans f2) r2 hD2 hacc nD (f1.back hD) d1 d2 oD⟩
end WD
namespace WD
open PySem PySem.Spec PyProof.Rows L2
section
variable {X : Cx}
theorem ps_setDc {i : Nat} {y : Str} {py : Pos} {kx vx tg iter : Expr} {ifs : List Expr} {scope : Scope} {own : List (Str × Nat)} {pos spos : Pos} {wi : TI} {g : TG} {tt : TT} {tk tv : TE} (hc : X.calm = true) (hN : X.N.Nodup) (hy : X.N[i]? = some y) (hyl : X.env.scope.names.lookup y = some .local)
    (hsw : swapsWith (.DictComp kx vx [⟨tg, iter, ifs, 0⟩] scope pos) (some (.Name y py)) spos.line X.env = pure true) (hi : PI X tg iter wi) (ok : BlkOk X.N X.env.scope scope own)
    (hg : ∀ (s : Shared) (H : Hp) (C : Addr) (cl : List (Str × Addr)) (fp : List Addr), PG (X.blk s H scope (compEnvC scope cl C X.env) fp) tg g) (ht : ∀ (s : Shared) (H : Hp) (C : Addr) (cl : List (Str × Addr)) (fp : List Addr), PTs (X.blk s H scope (compEnvC scope cl C X.env) fp) ifs tt)
    (hk : ∀ (s : Shared) (H : Hp) (C : Addr) (cl : List (Str × Addr)) (fp : List Addr), PE (X.blk s H scope (compEnvC scope cl C X.env) fp) kx tk)
    (he : ∀ (s : Shared) (H : Hp) (C : Addr) (cl : List (Str × Addr)) (fp : List Addr), PE (X.blk s H scope (compEnvC scope cl C X.env) fp) vx tv) (hs : ∀ x, foldedSetIterable iter X.env x = pure x := by intro _; rfl) :
    PS X (.Assign [.Name y py] (.DictComp kx vx [⟨tg, iter, ifs, 0⟩] scope pos) spos) (tAsg (tDc wi g tt tk tv (own.map (·.2))) (gName i)) := by
  refine ⟨fun pins s σ H D I h => ?_⟩
  rw [exec_Assign_Name_used _ _ _ _ hsw]
  refine wpAny_bind (wpAny_standAt (wpAny_bind ?_))
  show wpAny _ X.A (do let _ ← comprehension (.DictComp kx vx [⟨tg, iter, ifs, 0⟩] scope pos) scope X.env (firstIterPos [⟨tg, iter, ifs, 0⟩] pos) newDict false (eval iter X.env) (some (assign (.Name y py) X.env))) _ _ s
  have h : tDc wi g tt tk tv (own.map (·.2)) σ H (fun x H1 => gName i x σ H1 D.nx) := h
  refine wpAny_bind (thn (dc_core (Qf := fun _ s' => SP X pins D .next s') hc hN I hi ok hg ht hk he hs h fun L C s' m H' I' q hn f => ?_) fun _ s' hq => wpAny_pure (wpAny_pure hq))
  show wpAny _ _ (assign (.Name y py) X.env (.ref L)) _ _ _
  refine wpAny_assign_Name (store_ok2 (v := V.ref L) I' hN hy (.inl hyl) rfl (fun s2 I2 ⟨a, sb, ha⟩ => ?_) (.inr hyl))
  obtain ⟨f0, f1, f2, f3, f4, f5⟩ := f
  have haC : C ≠ a := by
    rcases ha with z | z
    · rw [z]; exact f1
    · exact fun e => f4 y a z e.symm
  refine ⟨m, hn.sameBut sb haC, fun h3 sb3 => ?_⟩
  exact ⟨_, H', I2.turned (t' := s2.toks) (fun b o hb e => (sb3.2 b hb).trans e) f0 f1 f3 f4 f5, q⟩
theorem sw_trueD {kx vx : Expr} {gs : List Comprehension} {scope : Scope} {pos py : Pos} {y : Str} {l : Nat} {env : PySem.Env} (hk : env.scope.kind = .function) (hy : env.scope.names.lookup y = some .local) (hl : (py.line == pos.line) = true)
    (ha : (scope.names.any fun (n, k) => n == y && (k == .local || k == .cell)) = false) : swapsWith (.DictComp kx vx gs scope pos) (some (.Name y py)) l env = pure true := by
  have ky : env.kindOf y = some .local := hy
  have hb : env.blockKind = .function := by unfold PySem.Env.blockKind; rw [hk]; rfl
  unfold swapsWith
  simp only [hb, ky, ha, Expr.pos, hl]
  rfl
end
variable {C : Ctx}
theorem fc_lenK : FC C (fun xs H Q => ∃ a kvs, xs = [V.ref a] ∧ H a = some (.dK kvs) ∧ Q (V.int (kvs.length : Nat)) H) fLenK := fun σ H ρ N Q P vs ds r h w k => by
  cases h with
  | nil => exact w.elim
  | cons h t =>
    cases t with
    | cons h2 t2 => cases h <;> exact w.elim
    | nil =>
      cases h <;> first | exact w.elim | skip
      rename_i a ks h n
      refine ⟨_, _, rfl, h, k _ _ _ _ w (fun _ h => h) r.fr r ?_⟩
      have e : (keysV ks).length = (keysD ks).length := by unfold keysV keysD; rw [List.length_map, List.length_map]
      rw [e]
      exact .int _
end WD
/-! An exception that a name keeps behind its try: the object is tracked from the end of the suite on. -/
namespace WX
open PySem PySem.Spec PyProof.Rows L2
/-- an exception of the class cls, its own dict at d, stands at a -/
def ExT (a : Addr) (cls : Value) (d : Option Addr) : HO := .ext fun h => ∃ oe, h.get? a = some oe ∧ Zc cls d oe ∧ ∃ vs, oe.data = .fields vs
theorem exT_ok {P : Program} {w : World} {H : Hp} {h : Heap} {a : Addr} {cls : Value} {d : Option Addr} {oe : Obj} (e : h.get? a = some oe) (z : Zc cls d oe) (f : ∃ vs, oe.data = .fields vs) : ObjOk P w H h a (ExT a cls d) :=
  ⟨⟨oe, e, z, f⟩, ⟨oe, e⟩, fun _ _ ⟨o, q, r⟩ k => ⟨o, k o q, r⟩⟩
section
variable {X : Cx} {pins : List (Addr × Obj)} {σ : L2.St} {H : Hp} {s : Shared}
/-- a pinned object that is new to the frame is tracked -/
theorem track {a : Addr} {oe : Obj} {o : HO} (I : Inv X ((a, oe) :: pins) σ H s) (h0 : X.s_0.heap.get? a = none) (hp : ∀ p ∈ X.pn ++ pins, p.1 ≠ a) (new : ObjOk X.prog X.w (upd H a o) s.heap a o) : Inv X pins σ (upd H a o) s := by
  have mem : (a, oe) ∈ X.pn ++ (a, oe) :: pins := List.mem_append_right _ List.mem_cons_self
  obtain ⟨g1, g2, g3, g4, g5⟩ := I.pin _ mem
  have n0 : ∀ b u, X.s_0.heap.get? b = some u → b ≠ a := fun b u e z => by
    rw [z, h0] at e
    cases e
  have nt : ∀ b u, H b = some u → b ≠ a := fun b u e z => by
    rw [z] at e
    exact absurd (e.symm.trans g2) (by intro y; cases y)
  refine ⟨I.ok, I.os, I.bare, ⟨I.base.keep, I.base.slot, fun b u e n x => ?_, I.base.there, fun b xs e => ?_, fun b u v e => ?_, fun b ps e => ?_⟩, I.loc, I.cell, ?_, fun x c e => ?_, fun p hm => ?_, fun b u e => ?_, I.len⟩
  · rw [upd_ne (n0 b u e)]
    exact I.base.free b u e n x
  · have q := I.base.tups b xs e
    rw [upd_ne (nt _ _ q)]
    exact q
  · have q := I.base.frzs b u v e
    rw [upd_ne (nt _ _ q)]
    exact q
  · obtain ⟨m, q⟩ := I.base.tbls b ps e
    exact ⟨m, by rw [upd_ne (nt _ _ q)]; exact q⟩
  · rw [upd_ne (Ne.symm g3)]
    exact I.free
  · obtain ⟨v, oc, e1, e2⟩ := I.cell x c e
    have ne : c ≠ a := fun z => by
      rw [z] at e1
      have := g1.symm.trans e1
      cases this
      exact g5 v e2
    rw [upd_ne ne]
    exact I.freeC x c e
  · have hm' : p ∈ X.pn ++ (a, oe) :: pins := by
      rcases List.mem_append.mp hm with h | h
      · exact List.mem_append_left _ h
      · exact List.mem_append_right _ (List.mem_cons_of_mem _ h)
    obtain ⟨k1, k2, k3⟩ := I.pin p hm'
    exact ⟨k1, by rw [upd_ne (hp p hm)]; exact k2, k3⟩
  · by_cases z : b = a
    · subst z
      rw [upd_same] at e
      cases e
      exact new
    · rw [upd_ne z] at e
      refine (I.hok b u e).stay (fun _ _ _ q => q) (fun c q => ?_) fun c xs q => ?_
      · rw [upd_ne (nt _ _ q)]
        exact q
      · rw [upd_ne (nt _ _ q)]
        exact q
end
/-- what 'except x as n: v = n' wishes: slot i is n's, slot j is v's -/
def wKeep (K : PySem.W.Frag) (c : Value) (i j : Nat) (D : Ends) : WX := fun cls d σ H =>
  PySem.W.exmOne K cls c = some true ∧ ∀ a, H a = none → D.nx (((σ.set i (some (.ref a))).set j (some (.ref a))).set i none) (upd H a (ExT a cls d))
section
variable {X : Cx} {x n v : Str} {c : Value} {i j : Nat} {body : List Stmt} {np vp mp sp pos pos' : Pos} {tb : WX → TS}
theorem ps_try_keep (hs : X.stack = X.env :: X.outer) (hex : X.ex = []) (hf : X.env.frame = some X.env.locals) (hN : X.N.Nodup) (hi : X.N[i]? = some n) (hj : X.N[j]? = some v) (hln : X.env.kindOf n = some .local) (hlv : Loc X.env.scope v) (hvf : X.fn v = true ∨ X.env.scope.names.lookup v = some .local) (hc : Names X x c)
    (hsw : swapsWith (.Name n mp) (some (.Name v vp)) sp.line X.env = pure false) (hvis : Vis X.env.scope n) (hdb : (n == ("__debug__" : Str)) = false) (hcd : (n == ("__classdict__" : Str)) = false)
    (hb : ∀ (W : WX) (pn : List (Addr × Obj)) (xe : Value → Shared → Prop), Takes (X.tr pn xe) W → PassesOwn (model X.prog X.w) X.A X.env xe → PSs (X.tr pn xe) body (tb W)) :
    PS X (.Try body [.ExceptHandler (some (.Name x np)) (some n) [.Assign [.Name v vp] (.Name n mp) sp] pos'] [] [] pos) (fun D σ H => tb (wKeep X.K c i j D) D σ H) := by
  constructor
  intro pins s σ H D I h
  have fr : X.A.frames = some (X.env :: X.outer) := by rw [I.ok.frames, hs]
  let hd : List ExceptHandler := [.ExceptHandler (some (.Name x np)) (some n) [.Assign [.Name v vp] (.Name n mp) sp] pos']
  let Z : Value → Shared → Prop := fun e s1 => wpAny (model X.prog X.w) X.A (noteFrame e X.env) (fun _ s2 => wpAny (model X.prog X.w) X.A (setFlight e none)
    (fun _ s3 => wpAny (model X.prog X.w) X.A (handleBy e X.env hd) (SP X pins D) X.xe s3) X.xe s2) X.xe s1
  have tk : Takes (X.tr (X.pn ++ pins) Z) (wKeep X.K c i j D) := by
    intro u s' xx
    obtain ⟨a, B, sI, ps, σ', H', cls, d, rfl, J', nb, up, sky, na, os, ag, em, hy⟩ := xx
    have J : Inv X pins σ' H' sI := J'.ofTry I.ok
    have sky2 : Sky B (X.env :: X.outer) a (Zc cls d) X.env.locals s'.heap := by
      rw [← hs]
      exact sky
    refine Sky.land Zc.steady fr hf sky2 fun g3 f3 u3 => ?_
    have K3 : Inv X pins σ' H' { s' with heap := g3 } := J.landed nb f3.1 (up.trans u3) os ag
    obtain ⟨o3, w3, e3, z3, d3⟩ := f3.there
    have na3 : a ∉ frs (X.env :: X.outer) := fun hm => by
      obtain ⟨_, o', e', nf⟩ := f3.2.2.1.mem hm
      rw [e3] at e'
      cases e'
      exact nf _ d3
    have nL : a ≠ X.env.locals := fun z => na3 (List.mem_filterMap.mpr ⟨X.env, List.mem_cons_self, by rw [hf, z]⟩)
    have nF : a ∉ X.fs := fun hm => by
      obtain ⟨e, he, q⟩ := List.mem_filterMap.mp hm
      exact na3 (List.mem_filterMap.mpr ⟨e, List.mem_cons_of_mem _ he, q⟩)
    have ban : B.get? a = none := f3.2.1
    have old : ∀ b o, sI.heap.get? b = some o → b ∉ frs X.stack → b ≠ a := fun b o e nf z => by
      have := nb b o e nf
      rw [z, ban] at this
      cases this
    have frx : frs X.stack = frs (X.env :: X.outer) := by rw [hs]
    have n0 : X.s_0.heap.get? a = none := by
      cases q : X.s_0.heap.get? a with
      | none => rfl
      | some o =>
        obtain ⟨o', e'⟩ := J.base.there a o q (by rw [hex]; intro z; cases z)
        exact absurd rfl (old a o' e' (by rw [frx]; exact na3))
    have pna : ∀ p ∈ X.pn ++ pins, p.1 ≠ a := fun p hp => by
      obtain ⟨q1, _, q3, q4, _⟩ := J.pin p hp
      refine old p.1 p.2 q1 fun hm => ?_
      rw [frx] at hm
      obtain ⟨e, he, q⟩ := List.mem_filterMap.mp hm
      rcases List.mem_cons.mp he with r | r
      · rw [r, hf] at q
        exact q3 (Option.some.inj q).symm
      · exact q4 (List.mem_filterMap.mpr ⟨e, r, q⟩)
    have S3 := K3.suite e3 d3 na nL nF
    refine wpAny_handleBy_cons (codeAny_handlers_test ?_) (by intro q; cases q)
    have ty : PySem.W.Looks (model X.prog X.w) g3 (typeOf (.ref a)) cls := by
      intro A' Q' E' s1 kk qq
      exact wpAny_typeOf_ref (kk _ _ e3) (by rw [z3.1]; exact qq)
    have mt := PySem.W.exm_one (M := model X.prog X.w) K3.kIn ty em
    have nm : ∀ {Q' : Value → Shared → Prop} {E' : Value → Shared → Prop}, Q' c { s' with heap := g3 } → wpAny (model X.prog X.w) (X.A.mark (some (.ref a))) (eval (.Name x np) X.env) Q' E' { s' with heap := g3 } := by
      intro Q' E' qq
      obtain ⟨r1, r2, r3 | ⟨r3, r4, r5⟩⟩ := hc
      · exact ld_glob (X := X.suite a ((a, o3) :: (X.pn ++ pins))) S3 r1 r3 qq r2
      · exact ld_blt (X := X.suite a ((a, o3) :: (X.pn ++ pins))) S3 r1 r3 r4 qq r5 r2
    refine nm (mt.here (codeAny_handlers_suite_as ?_))
    refine HandSPX.lands_againZ f3 fun g4 f4 u4 => ?_
    have K4 : Inv X pins σ' H' { s' with heap := g4 } := J.landed nb f4.1 ((up.trans u3).trans u4) os ag
    obtain ⟨o4, w4, e4, z4, d4⟩ := f4.there
    have S4 := K4.suite e4 d4 na nL nF
    refine store_ok (X := X.suite a ((a, o4) :: (X.pn ++ pins))) (v := .ref a) S4 hN hi (.inl hln) rfl (fun s5 S5 => ?_) (.inr hln)
    have asg : PSs (X.suite a ((a, o4) :: (X.pn ++ pins))) [.Assign [.Name v vp] (.Name n mp) sp] (tAsg (tVar i) (gName j)) :=
      pss_one (ps_set hN hj hlv (pe_var hi hvis hdb hcd) hsw hvf)
    have hlen : i < σ'.length := by
      rw [J.len]
      exact (List.getElem?_eq_some_iff.mp hi).1
    let D2 : Ends := { nx := fun σ6 H6 => σ6 = (σ'.set i (some (.ref a))).set j (some (.ref a)) ∧ H6 = H', rt := fun _ _ => False }
    refine wpAny_mono (asg.run [] s5 _ H' D2 S5 ⟨.ref a, List.getElem?_set_self hlen, rfl, rfl⟩) (fun f6 s6 q6 => ?_) (fun _ _ z => z.elim)
    cases f6 with
    | next =>
      obtain ⟨σ6, H6, S6, rfl, rfl⟩ := q6
      obtain ⟨b1, b2, b3, b4, b5, b6, b7, b8, b9, b10, b11⟩ := S6
      have S7 : Inv X ((a, o4) :: pins) ((σ'.set i (some (.ref a))).set j (some (.ref a))) H6 s6 := by
        refine ⟨I.ok, b2, b3, b4, b5, b6, b7, b8, fun p hp => b9 p (List.mem_append_left _ ?_), b10, b11⟩
        rcases List.mem_append.mp hp with r | r
        · exact List.mem_cons_of_mem _ (List.mem_append_left _ r)
        · rcases List.mem_cons.mp r with r | r
          · rw [r]
            exact List.mem_cons_self
          · exact List.mem_cons_of_mem _ (List.mem_append_right _ r)
      refine gone_ok S7 hN hi hln fun s8 S8 => ?_
      have at8 : s8.heap.get? a = some o4 := (S8.pin (a, o4) (List.mem_append_right _ List.mem_cons_self)).1
      exact ⟨_, _, track S8 n0 pna (exT_ok at8 z4 ⟨_, d4⟩), hy a na⟩
    | brk =>
      obtain ⟨_, _, _, z⟩ := q6
      exact z.elim
    | cont =>
      obtain ⟨_, _, _, z⟩ := q6
      exact z.elim
    | ret u =>
      obtain ⟨_, _, _, _, _, z⟩ := q6
      exact z.elim
  refine wpAny_Try_except (wpAny_mono ((hb _ (X.pn ++ pins) Z tk PassesOwn.looking).run [] s σ H D (I.toTry _) h) (fun f s1 q => ?_) fun _ _ z => z)
  cases f with
  | next =>
    obtain ⟨σ1, H1, J1, q1⟩ := q
    exact wpAny_execs_nil ⟨σ1, H1, J1.ofTry I.ok, q1⟩
  | brk =>
    obtain ⟨σ1, H1, J1, q1⟩ := q
    exact ⟨σ1, H1, J1.ofTry I.ok, q1⟩
  | cont =>
    obtain ⟨σ1, H1, J1, q1⟩ := q
    exact ⟨σ1, H1, J1.ofTry I.ok, q1⟩
  | ret u =>
    obtain ⟨v1, σ1, H1, J1, r1, q1⟩ := q
    exact ⟨v1, σ1, H1, J1.ofTry I.ok, r1, q1⟩
end
/-- what the class says, so that isinstance asks its instances rightly -/
structure ExK (K : PySem.W.Frag) (D : Addr) : Prop where
  hg : PySem.W.findIn K (.ref D) "__getattribute__" = some (some (.builtin "BaseException.__getattribute__"))
  hk : PySem.W.findIn K (.ref D) "__getattr__" = some none
  hs : PySem.W.subIn K (.ref D) (.type "BaseException") = some true
  hd : PySem.W.hasDictIn K D = true
  ha : PySem.W.findIn K (.ref D) "__class__" = some (some (.builtin "object.__class__"))
  hn : PySem.W.specialIn K (.builtin "object.__class__") "__get__" = some (some (.builtin "getset_descriptor.__get__"))
  ht : PySem.W.takesIn K (.builtin "object.__class__") = some true
  hm : PySem.W.mroIn K D (.type "object") = some true
/-- the error's own dict: none, or there -/
def ExD (H : Hp) (d : Option Addr) : Prop := d = none ∨ ∃ dd fs, d = some dd ∧ H dd = some (.xd fs)
section
variable {X : Cx}
theorem inst_of {pins : List (Addr × Obj)} {σ : L2.St} {H : Hp} {s : Shared} {a D : Addr} {d : Option Addr} (I : Inv X pins σ H s) (h : H a = some (ExT a (.ref D) d)) (hd : ExD H d) : ∃ ox od, PySem.W.InstAt s.heap a ox D od := by
  obtain ⟨⟨oe, e, z, vs, f⟩, _, _⟩ := I.hok a _ h
  have nc : PySem.W.notCls oe = true := by
    unfold PySem.W.notCls
    rw [f] <;> rfl
  rcases hd with rfl | ⟨dd, fs, rfl, hx⟩
  · refine ⟨oe, none, e, z.1, nc, ?_⟩
    rw [z.2]
    trivial
  · have hx : ObjOk X.prog X.w H s.heap dd (.xd fs) := I.hok dd _ hx
    obtain ⟨mA, hns, _⟩ := hx
    obtain ⟨od, ho, _⟩ := lookIn_ns hns
    exact ⟨oe, some od, e, z.1, nc, by rw [z.2]; exact ho⟩
def rIsX (K : PySem.W.Frag) : List V → Hp → VK → Prop := fun xs H Q => ∃ (a D : Addr) (d : Option Addr) (c : V) (cv : Value) (b : Bool), xs = [.ref a, c] ∧ H a = some (ExT a (.ref D) d) ∧ ExD H d ∧ ExK K D ∧ ClsV c cv ∧ PySem.W.kitOne K (.ref D) cv = some b ∧ Q (.bl b) H
theorem call_isX : CallR X (.builtin "isinstance") (rIsX X.K) := by
  intro pins s σ H xs us Q I r h
  obtain ⟨a, D, d, c, cv, b, rfl, h1, h2, T, hc, e, q⟩ := h
  cases r with
  | cons rx rr =>
    cases rr with
    | cons rt rr =>
      cases rr
      cases rx
      have ec := hc.eq rt
      subst ec
      obtain ⟨ox, od, J⟩ := inst_of I h1 h2
      obtain ⟨cd, hcd, _⟩ := PySem.W.any_some T.hd
      have kit := PySem.W.kitx_exc (x := a) (ox := ox) (od := od) (by rw [hcd]; rfl) T.hg T.hk T.hs T.ha T.hn T.ht T.hm
      exact PySem.W.kia_one kit I.kIn J e (fun z => nomatch z) fun tk => ⟨.bl b, H, I.tok tk, rfl, q⟩
def tXa (K : PySem.W.Frag) (f : Str) (te : TE) : TE := fun σ H Q => te σ H fun x H1 => ∃ (a C dd : Addr) (fs : List (Str × V)) (v : V), x = .ref a ∧ H1 a = some (ExT a (.ref C) (some dd)) ∧ H1 dd = some (.xd fs) ∧ fs.lookup f = some v ∧
  ExK K C ∧ PySem.W.findIn K (.ref C) f = some none ∧ Q v H1
theorem pe_xa {e : Expr} {te : TE} {n : Str} {pos : Pos} (he : PE X e te) (hb : attributeBase e n X.env (eval e X.env) = eval e X.env := by rfl) : PE X (.Attribute e n pos) (tXa X.K n te) := by
  constructor
  intro pins s σ H Q I h
  refine attr_of hb (thn (he.run pins s σ H _ I h) fun u s1 hh => ?_)
  obtain ⟨x, H1, I1, rx, a, C, dd, fs, v, rfl, ha, hx, hl, T, hno, q⟩ := hh
  cases rx
  obtain ⟨⟨oe, e1, z, vs, f⟩, _, _⟩ := I1.hok a _ ha
  have hx2 : ObjOk X.prog X.w H1 s1.heap dd (.xd fs) := I1.hok dd _ hx
  obtain ⟨mA, hns, hr⟩ := hx2
  obtain ⟨od, ho, hlk⟩ := lookIn_ns hns
  obtain ⟨u, hu, ru⟩ := RelO.some_of (v := v) (o := mA n) (by rw [← hl]; exact hr n)
  have J : PySem.W.InstAt s1.heap a oe C (some od) := ⟨e1, z.1, (by unfold PySem.W.notCls; rw [f] <;> rfl), by rw [z.2]; exact ho⟩
  have found := PySem.W.findObj_own (od := od) T.hd hno rfl ((hlk n).trans (by rw [hu]))
  exact HandSPX.exc_get I1.kIn J T.hg T.hk T.hs found (handed_of ru) ⟨v, H1, I1.tok _, ru, q⟩
end
end WX
/-! The greatest of a pair; calls with a keyword, or with what is left out, that may raise within a try. -/
namespace WX
open PySem PySem.Spec PyProof.Rows L2
def rMaxT (K : PySem.W.Frag) : List V → Hp → VK → Prop := fun vs H Q => ∃ (a : Addr) (i j : Int), vs = [.ref a] ∧ SqT K H a [.int i, .int j] ∧ ∀ m, (m = i ∨ m = j) → i ≤ m → j ≤ m → Q (.int m) H
theorem cr_maxT {X : Cx} (hc : X.calm = true) : CallR X (.builtin "max") (rMaxT X.K) := by
  intro pins s σ H vs us Q I r h
  obtain ⟨a, i, j, rfl, hs, q⟩ := h
  obtain ⟨its, rv, pl, _⟩ := Inv.tuple I hs
  rw [Vals.ref1 r]
  obtain ⟨u, w', rfl, ⟨t1, rfl⟩, ⟨t2, rfl⟩⟩ := vals2 rv
  have hh : X.A.in1.handled = none := I.ok.hd hc
  have tp : s.heap.IsTuple a #[Value.int i t1, Value.int j t2] := pl
  have la : a < s.heap.objs.size := by
    obtain ⟨o, e, _⟩ := tp
    exact Heap.lt_size e
  refine call_max_walk (wpAny_pyIter_tuple tp ?_)
  refine ⟨s.heap.objs.size, [s.heap.objs.size, a], [s.heap.objs.size], 2, (fun k v => (#[Value.int i t1, Value.int j t2] : Array Value)[k]? = some v), _, fun p q => decide ((fun n => if n = 0 then i else j) p > (fun n => if n = 0 then i else j) q), rfl, PySem.Walks.tuple hh s.heap.objs.size a (Nat.ne_of_lt la) #[Value.int i t1, Value.int j t2], ⟨⟨_, Heap.get?_push_size _ rfl, rfl, rfl⟩, ?_⟩, ?_, by decide, ?_, ?_⟩
  · obtain ⟨o, e, e2⟩ := tp
    exact ⟨o, (Heap.get?_push_ne s.heap _ _ (Nat.ne_of_lt la)).trans e, e2⟩
  · intro b hb
    rw [Heap.size_push]
    rcases List.mem_cons.mp hb with r | r
    · rw [r]; exact Nat.lt_succ_self _
    · rw [List.mem_singleton.mp r]; exact Nat.lt_succ_of_lt la
  · refine PySem.CmpOf.ints_gt (fun n => if n = 0 then i else j) fun k v hk => ?_
    match k, hk with
    | 0, hk => exact ⟨t1, (Option.some.inj hk).symm⟩
    | 1, hk => exact ⟨t2, (Option.some.inj hk).symm⟩
    | k + 2, hk => simp at hk
  · intro v h' tk hv hk
    obtain ⟨b1, b2⟩ := argBest_gt (fun n => if n = 0 then i else j) 1
    have hv : (#[Value.int i t1, Value.int j t2] : Array Value)[argBest (fun p q => decide ((fun n => if n = 0 then i else j) p > (fun n => if n = 0 then i else j) q)) 1]? = some v := hv
    have keep : ∀ (b : Addr) (o : Obj), s.heap.get? b = some o → h'.get? b = some o := fun b o e => hk b o (fun z => by
      rw [List.mem_singleton.mp z] at e
      exact absurd (Heap.lt_size e) (Nat.lt_irrefl _)) ((Heap.get?_push_ne s.heap _ _ (Nat.ne_of_lt (Heap.lt_size e))).trans e)
    have g0 := b2 0 (by decide)
    have g1 := b2 1 (by decide)
    generalize argBest (fun p q => decide ((fun n => if n = 0 then i else j) p > (fun n => if n = 0 then i else j) q)) 1 = m at *
    match m, b1, hv, g0, g1 with
    | 0, _, hv, g0, g1 => exact ⟨.int i, H, I.kept (t' := tk) keep, ⟨t1, (Option.some.inj hv).symm⟩, q i (.inl rfl) g0 g1⟩
    | 1, _, hv, g0, g1 => exact ⟨.int j, H, I.kept (t' := tk) keep, ⟨t2, (Option.some.inj hv).symm⟩, q j (.inr rfl) g0 g1⟩
/-! ### calls within a try -/
theorem run_fnX {X : Cx} {CX : CXT} {k : Nat} {f : Addr} {fd : FuncData} {ps : List Str} {sp : Sp} {E : XK} {pins : List (Addr × Obj)} {σ : L2.St} {H : Hp} {s : Shared} {Q : VK} {us : List Value} {kw : List (Str × Value)} {bs : List Value} {vs : List V}
    (F : FnOk X.prog X.w X.K X.mg X.base CX k f fd ps sp) (hr : Room k X.A) (b : BindsTo s fd ⟨us, kw⟩ (ps.zip bs)) (hx : PassesAt CX X σ E) (I : Inv X pins σ H s) (r : Vals vs bs) (h : sp vs H Q E) :
    wpAny (model X.prog X.w) X.A (call (.ref f) us kw) (EP X pins σ Q) X.xe s := by
  refine wpAny_call (codeAny_mono (F.run X.A X.stack s H ⟨us, kw⟩ bs vs Q E hr (Inv.env0 I) b r h) fun r s' hq => ?_)
  cases r with
  | error e => exact hx pins H s e s' I hq
  | ok fl =>
    cases fl with
    | ret u => exact Inv.after I hq
    | next => exact hq.elim
    | brk => exact hq.elim
    | cont => exact hq.elim
/-- what is left out told by dvs -/
def tCallD (sp : Sp) (dvs : List V) (E : L2.St → XK) (t : TA) : TE := fun σ H Q => t σ H fun vs H1 => sp (vs ++ dvs) H1 Q (E σ)
theorem pe_callD {X : Cx} {CX : CXT} {k : Nat} {f : Addr} {fd : FuncData} {ps : List Str} {sp : Sp} {dvs : List V} {ds : List Value} {E : L2.St → XK} {x : Str} {p pos : Pos} {e : Expr} {es : List Expr} {t : TA}
    (F : FnOk X.prog X.w X.K X.mg X.base CX k f fd ps sp) (hr : Room k X.A) (hg : Gl X x) (hm : X.mg x = some (.ref f)) (hk : PySem.W.keepIn X.K (.ref f) = true) (hb : L2.Binds X.K fd ps ds) (hd : Vals dvs ds) (hx : ∀ σ, PassesAt CX X σ (E σ)) (ha : PA X (e :: es) t)
    (hdb : (x == Str.ofString "__debug__") = false := by rfl) (he : starEach (e :: es) X.env = (false, eval e X.env) :: starEach es X.env := by rfl) (hpl : ((backTo pos (starEach es X.env)).any fun x => x.fst) = false := by rfl) :
    PE X (.Call (.Name x p) (e :: es) [] pos) (tCallD sp dvs E t) := by
  constructor
  intro pins s σ H Q I h
  refine wpAny_Call_Name_kw (ld_glob I hg hm (PySem.W.callWith_K I.ok.mod.kin hk (thn (ha.run pos pins s σ H _ I h) fun us s1 h1 => ?_) he hpl) hdb)
  obtain ⟨vs, H1, I1, r, q⟩ := h1
  have r2 := Vals.append r hd
  refine ⟨Inv.kIn I1, run_fnX F hr (hb s1 us (Inv.kIn I1) ?_) (hx σ) I1 r2 q⟩
  rw [← r2.length]
  exact F.len _ _ _ _ q
def tCallK (n m : Nat) (sp : Sp) (gV : List V → List V → List V) (E : L2.St → XK) (t tk : TA) : TE := fun σ H Q => t σ H fun vs H1 => tk σ H1 fun zs H2 => vs.length = n ∧ zs.length = m ∧ sp (gV vs zs) H2 Q (E σ)
theorem pe_callK {X : Cx} {CX : CXT} {k n : Nat} {f : Addr} {fd : FuncData} {ps ks : List Str} {sp : Sp} {E : L2.St → XK} {x : Str} {p pos : Pos} {e : Expr} {es : List Expr} {kws : List Keyword} {t tk : TA} {g : List Value → List Value → List Value} {gV : List V → List V → List V}
    (F : FnOk X.prog X.w X.K X.mg X.base CX k f fd ps sp) (hr : Room k X.A) (hg : Gl X x) (hm : X.mg x = some (.ref f)) (hk : PySem.W.keepIn X.K (.ref f) = true) (hb : KBn X.K fd ps n ks g gV) (hx : ∀ σ, PassesAt CX X σ (E σ)) (ha : PA X (e :: es) t) (hkw : PK X kws tk)
    (hall : ((backToKw pos (keywordEach kws X.env)).all fun x => x.fst.isSome) = true := by rfl) (hks : List.filterMap (fun x => x.fst) (backToKw pos (keywordEach kws X.env)) = ks := by rfl) (hdb : (x == Str.ofString "__debug__") = false := by rfl)
    (he : starEach (e :: es) X.env = (false, eval e X.env) :: starEach es X.env := by rfl) (hpl : (((backTo pos (starEach (e :: es) X.env)).any fun x => x.fst) || (backToKw pos (keywordEach kws X.env)).any fun x => x.fst.isNone) = false := by rfl) :
    PE X (.Call (.Name x p) (e :: es) kws pos) (tCallK n ks.length sp gV E t tk) := by
  constructor
  intro pins s σ H Q I h
  refine wpAny_Call_Name_kw (ld_glob I hg hm (PySem.W.callWith_KW I.ok.mod.kin hk hall (thn (ha.run pos pins s σ H _ I h) fun us s1 h1 => ?_) hpl he) hdb)
  obtain ⟨vs, H1, I1, r, q⟩ := h1
  refine thn (hkw.run pos pins s1 σ H1 _ I1 q) fun ws s2 h2 => ?_
  obtain ⟨zs, H2, I2, rz, l1, l2, q2⟩ := h2
  refine ⟨Inv.kIn I2, ?_⟩
  rw [hks]
  exact run_fnX F hr (hb.to s2 us ws (Inv.kIn I2) (r.length.symm.trans l1) (rz.length.symm.trans l2)) (hx σ) I2 (hb.rel r rz) q2
end WX
/-! An attribute as a part of a target. -/
namespace WX
open PySem PySem.Spec PyProof.Rows L2
def gAtt (K : PySem.W.Frag) (to : TE) (f : Str) : TG := fun v σ H Q => to σ H fun x H1 => ∃ a C dx fs, x = .ref a ∧ H1 a = some (.ins C dx fs) ∧ Cls K C ∧ NoAttr K C f ∧ fs.length < 1000 ∧ Q σ (upd H1 a (.ins C dx (putF f v fs)))
theorem pg_att {X : Cx} {pos : Pos} {o : Expr} {f : Str} {to : TE} (ho : PE X o to) : PG X (.Attribute o f pos) (gAtt X.K to f) := by
  constructor
  intro pins s σ H v u Q I r h
  rw [arm_assign_Attribute]
  refine wpAny_bind (wpAny_holding (thn (ho.run pins s σ H _ I h) fun ov s1 h1 => ?_))
  obtain ⟨x, H1, I1, rx, a, C, dx, fs, rfl, ea, c, n, l, q⟩ := h1
  cases rx
  refine wpAny_bind (wpAny_standAt (wpAny_bind (wpAny_holding (setattr_ok I1 ea c n l r fun s2 I2 => wpAny_release ⟨σ, _, I2, q⟩))))
theorem pe_xaK {X : Cx} {e : Expr} {te : TE} {n : Str} {pos : Pos} (K : PySem.W.Frag) (hK : X.K = K) (he : PE X e te) (hb : attributeBase e n X.env (eval e X.env) = eval e X.env := by rfl) : PE X (.Attribute e n pos) (tXa K n te) := by
  subst hK
  exact pe_xa he hb
end WX
namespace WX
open PySem PySem.Spec PyProof.Rows L2
/-! str of lists and tuples of data, told exactly: where it is known that no text is being made around -/
def rStrD (K : PySem.W.Frag) : List V → Hp → VK → Prop := fun vs H Q => ∃ (a : Addr) (d : PyData), vs = [.ref a] ∧ Dp K H (.ref a) d ∧ d.canLay0 = true ∧ d.showable = true ∧ d.depth ≤ 40 ∧ d.shown.length ≤ sizeLine ∧ Q (.str d.shown) H
theorem cr_strD {X : Cx} {k : Nat} (hr : Room k X.A) (hg : X.A.guards = some []) : CallR X (.type "str") (rStrD X.K) := by
  intro pins s σ H vs us Q I r h
  obtain ⟨a, d, rfl, hd, hc, hs, hdep, hz, q⟩ := h
  rw [Vals.ref1 r]
  have hu := hr.units
  obtain ⟨as, rd⟩ := Dp.reads I d _ _ hd (show RelV (.ref a) (.ref a) from rfl)
  exact str_of_reads rd hs (PyData.noDict_hsm (PyData.hasDict_of_canLay d hc)) hg (by omega) (fun _ _ e => e) (fun h' u tk hk => ⟨.str d.shown, H, I.kept hk, ⟨u, rfl⟩, q⟩) hz
theorem cr_strDK {X : Cx} (K : PySem.W.Frag) (hK : X.K = K) (hr : Room 0 X.A) (hg : X.A.guards = some []) : CallR X (.type "str") (rStrD K) := by
  subst hK
  exact cr_strD hr hg
theorem deeper_guards {A : Around} {env : Env} : (A.deeper env).guards = A.guards := by
  first | rfl | simp [Around.deeper]
/-! a def run in one place alone, so that what stands around it may be used -/
theorem run_at {P : Program} {w : World} {K : PySem.W.Frag} {mg : Str → Option Value} {base : Heap} {x qual : Str} {st : Stmt} {f : Addr} {fd : FuncData} {N ps : List Str} {k : Nat} {A : Around} {outer : List Env} {s : Shared} {H : Hp} {args : Args} {us : List Value} {vs : List V} {Q : VK} {E : XK}
    (F : Fun K x qual st f fd) (S : FnScope N ps (defScope st)) (hr : Room (k + 1) A) (e0 : Env0 P w K mg base A outer s H) (hb : BindsTo s fd args (ps.zip us)) (r : Vals vs us) (hl : vs.length = ps.length)
    (body : ∀ cdv, Room k (A.deeper (envOfC qual (defScope st) s.heap.objs.size f cdv)) → ∃ t, PSs (cxOf CX0 P w K mg base N qual (defScope st) f cdv A outer s H E).nox (defBody st) t ∧ t { nx := fun _ H' => Q .non H', rt := Q } (start N vs) H) :
    codeAny (model P w) A (.call (.ref f) args) (CR CX0 outer P w H s Q E) s := by
  obtain ⟨oc, od, kV, doc, pm, an, cdv, ct, osl, rfl, lk, hcd⟩ := F.ex
  have up : ∀ b o, base.get? b = some o → s.heap.get? b = some o := fun b o e => (e0.bs b o e).1
  refine Att.call_fn (e0.mod.kin.keeps up) (e0.mod.nolimit.keeps up) lk hcd hr.depth hb ?_ (fun s1 x => ?_) S.co S.gen S.kind
  · rw [List.all_eq_true]
    intro y hy
    rcases S.par y.1 (List.of_mem_zip hy).1 with q | q <;> rw [q] <;> decide
  · obtain ⟨t, ht, hq⟩ := body cdv (hr.deeper _)
    have I : Inv (cxOf CX0 P w K mg base N qual (defScope st) f cdv A outer s H E) [] (start N vs) H s1 := inv_start S hr.hd e0 hl r x
    have done : ∀ {σ' : L2.St} {H' : Hp} {v : V} {u : Value} {s' : Shared}, Inv (cxOf CX0 P w K mg base N qual (defScope st) f cdv A outer s H E) [] σ' H' s' → RelV v u → Q v H' → CE outer P w H s Q u s' :=
      fun {_ H' v _ _} J rv q => ⟨v, H', J.os, J.bare, J.base, J.hok, rv, q⟩
    refine wpAny_mono (ht.nox.run [] s1 (start N vs) H _ I hq) (fun fl s' hs => ?_) fun e s' hs => hs
    cases fl with
    | ret u =>
      obtain ⟨v, σ', H', J, rv, q⟩ := hs
      exact done J rv q
    | next =>
      obtain ⟨σ', H', J, q⟩ := hs
      exact done (v := V.non) (u := Value.none) J rfl q
    | brk =>
      obtain ⟨_, _, _, z⟩ := hs
      exact z.elim
    | cont =>
      obtain ⟨_, _, _, z⟩ := hs
      exact z.elim
/-! the law's call, in the place where it stands: no text is being made around it -/
section
variable {P : Program} {w : World} {K : PySem.W.Frag} {mg mb : Str → Option Value} {s1 : Shared} {a fa : Addr} {vs : List Value} {ns : List Int}
/-- the script alone is told of, if it is none of the module's own things -/
def ScrH (K : PySem.W.Frag) (a : Addr) (vs : List Value) (ns : List Int) : Hp := fun b =>
  if b = a ∧ K.lookup a = none then some (.frz { cls := .type "list", data := .seq vs.toArray } (.lst (ns.map V.int))) else none
theorem ScrH.of {b : Addr} {u : HO} (h : ScrH K a vs ns b = some u) : b = a ∧ K.lookup a = none ∧ u = .frz { cls := .type "list", data := .seq vs.toArray } (.lst (ns.map V.int)) := by
  unfold ScrH at h
  by_cases c : b = a ∧ K.lookup a = none
  · rw [if_pos c] at h
    exact ⟨c.1, c.2, (Option.some.inj h).symm⟩
  · rw [if_neg c] at h
    cases h
theorem scr_at (ha : s1.heap.get? a = some { cls := .type "list", data := .seq vs.toArray }) (KX : K.In s1.heap) (rv : Vals (ns.map V.int) vs) (hl : ns.length ≤ sizeLine) : SqL K (ScrH K a vs ns) a (ns.map V.int) := by
  cases hk : K.lookup a with
  | none =>
    refine .inl (.inr ⟨{ cls := .type "list", data := .seq vs.toArray }, ?_⟩)
    unfold ScrH
    rw [if_pos ⟨rfl, hk⟩]
  | some o =>
    have e := (KX a o hk).symm.trans ha
    cases e
    have hlen : vs.length = ns.length := by
      have := rv.length
      rw [List.length_map] at this
      exact this.symm
    exact .inr ⟨_, vs.toArray, _, hk, rfl, rfl, rfl, by rw [List.size_toArray]; omega, by simpa using rv⟩
theorem scr_ok (ha : s1.heap.get? a = some { cls := .type "list", data := .seq vs.toArray }) (rv : Vals (ns.map V.int) vs) (hl : ns.length ≤ sizeLine) : HOk P w (ScrH K a vs ns) s1.heap := fun b u e => by
  obtain ⟨rfl, _, rfl⟩ := ScrH.of e
  exact ⟨ha, by rw [List.length_map]; exact hl, vs, _, rv, ha⟩
theorem scr_base (ha : s1.heap.get? a = some { cls := .type "list", data := .seq vs.toArray }) (KX : K.In s1.heap) (hns : s1.heap.Ns mainGlobals mg) (hb : s1.heap.Ns builtinsNs mb) (hbb : ∀ x : Str, x ≠ "__name__" → mb x = bootBuiltins x)
    (hlim : s1.heap.NoLimit) (hg : s1.gens = #[]) (rv : Vals (ns.map V.int) vs) (hl : ns.length ≤ sizeLine) : Env0 P w K mg (hidT s1.heap (ScrH K a vs ns)) callerA [] s1 (ScrH K a vs ns) := by
  have only : ∀ {b : Addr} {o : Obj} {es : Array DictEntry} {ep : Nat}, s1.heap.get? b = some o → o.data = .dict es ep → ScrH K a vs ns b = none := by
    intro b o es ep e d
    cases q : ScrH K a vs ns b with
    | none => rfl
    | some u =>
      obtain ⟨rfl, _, _⟩ := ScrH.of q
      have e2 := e.symm.trans ha
      cases e2
      have d2 : Data.seq vs.toArray _ = Data.dict es ep := d
      cases d2
  have nsB : ∀ {b : Addr} {m : Str → Option Value}, s1.heap.Ns b m → (hidT s1.heap (ScrH K a vs ns)).Ns b m := by
    rintro b m ⟨o, es, ep, e, d, r⟩
    exact ⟨o, es, ep, hidT_get e (only e d), d, r⟩
  have inB : K.In (hidT s1.heap (ScrH K a vs ns)) := by
    intro b o e
    refine hidT_get (KX b o e) ?_
    cases q : ScrH K a vs ns b with
    | none => rfl
    | some u =>
      obtain ⟨rfl, hk, _⟩ := ScrH.of q
      rw [hk] at e
      cases e
  obtain ⟨mc, c1, c2⟩ := hlim
  have hM : Mod K mg (hidT s1.heap (ScrH K a vs ns)) := ⟨inB, nsB hns, ⟨mb, nsB hb, hbb⟩, ⟨mc, nsB c1, c2⟩⟩
  refine ⟨rfl, hM, ?_, ?_, trivial, ?_, scr_ok ha rv hl, .of_eq hg⟩
  · intro b o e
    exact of_hidT e
  · exact Nat.le_of_eq (hidT_size _ _)
  · intro b hb2
    cases hb2
theorem law_at (KX : K.In s1.heap) (hns : s1.heap.Ns mainGlobals mg) (hb : s1.heap.Ns builtinsNs mb) (hbb : ∀ x : Str, x ≠ "__name__" → mb x = bootBuiltins x) (hlim : s1.heap.NoLimit) (hg : s1.gens = #[])
    (ha : s1.heap.get? a = some { cls := .type "list", data := .seq vs.toArray }) (rv : Vals (ns.map V.int) vs) (hl : ns.length ≤ sizeLine)
    (run : ∀ (base : Heap) (H : Hp), Env0 P w K mg base callerA [] s1 H → SqL K H a (ns.map V.int) → codeAny (model P w) callerA (.call (.ref fa) ⟨[.ref a], []⟩) (CR CX0 [] P w H s1 (fun v _ => v = .bl true) (fun _ _ _ => False)) s1) :
    codeAny (model P w) callerA (.call (.ref fa) ⟨[.ref a], []⟩) (fun r s' => r = .ok (.ret (.bool true)) ∧ OldK s1.heap s'.heap ∧ s'.os = s1.os ∧ AllBare s'.gens) s1 := by
  refine codeAny_mono (run _ _ (scr_base ha KX hns hb hbb hlim hg rv hl) (scr_at ha KX rv hl)) fun r s2 h => ?_
  match r, h with
  | .ok (.ret u), h =>
    obtain ⟨v, H2, hos, bare, un, hok2, rr, q⟩ := h
    have q2 : v = V.bl true := q
    subst q2
    have eu : u = Value.bool true := rr
    subst eu
    refine ⟨rfl, OldK.of_keep ?_, hos, bare⟩
    intro b o e
    cases q : ScrH K a vs ns b with
    | none => exact un.keep b o e q (fun z => nomatch z) (fun z => nomatch z)
    | some x =>
      obtain ⟨rfl, _, rfl⟩ := ScrH.of q
      have e2 := e.symm.trans ha
      cases e2
      exact (hok2 _ _ (un.frzs _ _ _ q)).1
  | .error e, h => exact False.elim h
end
/-- the law holds where it is called -/
def LawAt (P : Program) (w : World) (K : PySem.W.Frag) (mg : Str → Option Value) (base : Heap) (fa : Addr) (n : Nat) : Prop :=
  ∀ (s : Shared) (H : Hp) (a : Addr) (ns : List Int), Env0 P w K mg base callerA [] s H → SqL K H a (ns.map V.int) → ns.length ≤ n →
    codeAny (model P w) callerA (.call (.ref fa) ⟨[.ref a], []⟩) (CR CX0 [] P w H s (fun v _ => v = .bl true) (fun _ _ _ => False)) s
theorem walk_at {l : PySem.W.OpenLaw} {n : Nat} {q : Program} {loose : List Str} {XP : (Str → Option Value) → Heap → Prop} {YP : World → Heap → Prop} {d : DefRec} (hn : l.most = some n) (hn2 : n ≤ sizeLine) (hdf : d.params.defaults = [])
    (F : ∀ (w : World) (mg : Str → Option Value) (fa : Addr) (h : Heap), YP w h → h.Ns mainGlobals mg → mg d.name = some (.ref fa) → ∃ K : PySem.W.Frag, K.In h ∧ ∀ base : Heap, K.In base → base.Ns mainGlobals mg → LawAt l.prog w K mg base fa n) :
    PySem.W.WalkO q loose XP YP l.row.toRowW d [] (fun f vs => PySem.call f vs) := by
  refine Att.attach_call hn hdf ?_
  intro w s0 s1 mg mb fa o pm cd doc a vs ns G Y _ _ _ hmg hobj hints hlen hg
  obtain ⟨K, KX, hL⟩ := F w mg fa _ Y G.T.g hmg
  refine law_at KX G.T.g G.T.b G.T.builtins G.T.nolimit hg hobj (vals_ints hints) (Nat.le_trans hlen hn2) ?_
  intro base H e0 hS
  exact hL base e0.mod.kin e0.mod.glob s1 H a ns e0 hS hlen
end WX
namespace WK
open PySem PySem.Spec PyProof.Rows L2
def topS (i : Nat) : Stmt := PySem.Challenge.pw_clockloom_k11_places_of_modules.main.body.getD i (.Pass ⟨0, 0, 0, 0⟩)
structure Cal (P : Program) (w : World) (K : PySem.W.Frag) (mg : Str → Option Value) (base : Heap) (CX : CXT) (k : Nat) (f : Addr) (fd : FuncData) (x : Str) (ps : List Str) (sp : Sp) : Prop where
  G : FnOk P w K mg base CX k f fd ps sp
  g : mg x = some (.ref f)
  kp : PySem.W.keepIn K (.ref f) = true
  b : Binds K fd ps []
structure XCal (P : Program) (w : World) (K : PySem.W.Frag) (mg : Str → Option Value) (base : Heap) (k : Nat) (x : Str) (C fI : Addr) (fd : FuncData) (ps fs : List Str) (sp : Sp) : Prop where
  T : OexC K C
  iC : PySem.W.findIn K (.ref C) "__init__" = some (some (.ref fI))
  tI : PySem.W.typeIn K (.ref fI) = some (.type "function")
  G : FnOk P w K mg base CX0 k fI fd ps sp
  b : Binds K fd ps []
  g : mg x = some (.ref C)
  a : PySem.W.nsIn K mainGlobals x = some (some (.ref C))
  no : ∀ f ∈ fs, PySem.W.findIn K (.ref C) f = some none
  kb : KBn K fd ps 1 (ps.drop 1).reverse (fun us ws => us ++ ws.reverse) (fun vs zs => vs ++ zs.reverse)
structure YCal (K : PySem.W.Frag) (mg : Str → Option Value) (nm : Str) (C : Addr) : Prop where
  x : PySem.W.excIn K C [.type "ValueError", .type "Exception", .type "BaseException", .type "object"] "ValueError.__new__" = true
  g : mg nm = some (.ref C)
  k : PySem.W.keepIn K (.ref C) = true
  b : PySem.W.subIn K (.ref C) (.type "BaseException") = some true
  t : PySem.W.typeIn K (.ref C) = some (.type "type")
  a : PySem.W.nsIn K mainGlobals nm = some (some (.ref C))
structure ECal (K : PySem.W.Frag) (mg : Str → Option Value) (x : Str) (C : Addr) : Prop where
  g : mg x = some (.ref C)
  a : PySem.W.nsIn K mainGlobals x = some (some (.ref C))
  E : WX.ExK K C
  t : PySem.W.typeIn K (.ref C) = some (.type "type")
  v : PySem.W.subIn K (.ref C) (.type "ValueError") = some true
theorem ECal.exm {K : PySem.W.Frag} {mg : Str → Option Value} {x : Str} {C : Addr} {cls : Value} {b : Bool} (e : ECal K mg x C) (u : PySem.W.subIn K cls (.ref C) = some b) : PySem.W.exmOne K cls (.ref C) = some b := PySem.W.exm_ref e.E.hs e.E.hd e.t u
theorem ECal.kit {K : PySem.W.Frag} {mg : Str → Option Value} {x : Str} {C : Addr} {cls : Value} {b : Bool} (e : ECal K mg x C) (u : PySem.W.subIn K cls (.ref C) = some b) (hb : (cls == Value.ref C) = true → b = true) : PySem.W.kitOne K cls (.ref C) = some b := by
  unfold PySem.W.kitOne
  by_cases h : (cls == Value.ref C) = true
  · rw [if_pos h, hb h]
  · rw [if_neg h]
    obtain ⟨cd, hc, _⟩ := PySem.W.any_some e.E.hd
    unfold PySem.W.kitCls
    show (if ((PySem.W.clsIn K C).isSome && PySem.W.typeIn K (.ref C) == some (.type "type")) = true then _ else _) = _
    rw [hc, e.t]
    exact u
theorem ECal.self {K : PySem.W.Frag} {C : Addr} : PySem.W.kitOne K (.ref C) (.ref C) = some true := by
  unfold PySem.W.kitOne
  rw [if_pos (by simp)]
theorem ECal.ve {K : PySem.W.Frag} {mg : Str → Option Value} {x : Str} {C : Addr} (e : ECal K mg x C) : PySem.W.kitOne K (.ref C) (.type "ValueError") = some true := by
  unfold PySem.W.kitOne
  rw [if_neg (by simp)]
  show (if PySem.W.kitMeta "ValueError" = true then PySem.W.subIn K (.ref C) (.type "ValueError") else none) = some true
  rw [if_pos (by decide +kernel)]
  exact e.v
structure DCal (K : PySem.W.Frag) (mg : Str → Option Value) (x : Str) (C : Addr) : Prop where
  g : mg x = some (.ref C)
  hd : PySem.W.hasDictIn K C = true
  t : PySem.W.typeIn K (.ref C) = some (.type "type")
  a : PySem.W.nsIn K mainGlobals x = some (some (.ref C))
theorem DCal.kit {K : PySem.W.Frag} {mg : Str → Option Value} {x : Str} {C : Addr} {cls : Value} {b : Bool} (e : DCal K mg x C) (u : PySem.W.subIn K cls (.ref C) = some b) (hb : (cls == Value.ref C) = true → b = true) : PySem.W.kitOne K cls (.ref C) = some b := by
  unfold PySem.W.kitOne
  by_cases h : (cls == Value.ref C) = true
  · rw [if_pos h, hb h]
  · rw [if_neg h]
    obtain ⟨cd, hc, _⟩ := PySem.W.any_some e.hd
    unfold PySem.W.kitCls
    show (if ((PySem.W.clsIn K C).isSome && PySem.W.typeIn K (.ref C) == some (.type "type")) = true then _ else _) = _
    rw [hc, e.t]
    exact u
def nV (n : Nat) : V := .int (n : Int)
theorem at_upd {H : Hp} {p : Addr} {o : HO} (h : H p = none) : (upd H p o) p = some o := upd_same
theorem ns_inj {K : PySem.W.Frag} {x : Str} {C D : Addr} (h : PySem.W.nsIn K mainGlobals x = some (some (.ref C))) (h' : PySem.W.nsIn K mainGlobals x = some (some (.ref D))) : C = D := Value.ref.inj (Option.some.inj (Option.some.inj (h.symm.trans h')))
theorem lc_yes {σ : L2.St} {H : Hp} {F : Bool → Hp → Prop} (h : F true H) : tYes σ H F := h
theorem Vals.rev : ∀ {vs : List V} {us : List Value}, Vals vs us → Vals vs.reverse us.reverse
  | [], _, h => by
    cases h
    exact .nil
  | v :: vs, _, h => by
    cases h with
    | cons a t =>
      rw [List.reverse_cons, List.reverse_cons]
      exact (Vals.rev t).append (.cons a .nil)
end WK
namespace WK
open PySem PySem.Spec PyProof.Rows L2 WD
section
variable {P : Program} {w : World} {K : PySem.W.Frag} {mg : Str → Option Value} {base : Heap}
abbrev s_is_whole : Stmt := topS 2
theorem sc_is_whole : FnScope ["thing"] ["thing"] (defScope s_is_whole) := ⟨rfl, rfl, rfl, by decide +kernel, rfl, by decide +kernel, by decide +kernel⟩
def w_is_whole : WS := (wRet (wAndV (wIsi isInt (wVar 0)) (wNotV (wIsi isBool (wVar 0)))))
def f_is_whole : W1 := wBody 0 w_is_whole
def sp_is_whole (K : PySem.W.Frag) : Sp := spD 1 f_is_whole K
theorem ok_is_whole {f : Addr} {fd : FuncData} (F : Fun K "is_whole" "is_whole" s_is_whole f fd) (m_bool : mg "bool" = none) (m_int : mg "int" = none) (m_isinstance : mg "isinstance" = none) : FnOk P w K mg base CX0 1 f fd ["thing"] (sp_is_whole K) := by
  refine F.ok sc_is_whole (fun vs H Q E h => spD_len h) (fun cdv A outer s H vs Q E hr h => ?_)
  refine ⟨_, (pss_one (ps_ret (pe_and (pe_callB call_isi (by rfl) m_isinstance (by decide +kernel) (pa_cons (pv 0) (pa_cons (pe_bltn (v := .ty "int") (by rfl) m_int (by decide +kernel) rfl) pa_nil))) (pe_one (pe_not (pe_callB call_isi (by rfl) m_isinstance (by decide +kernel) (pa_cons (pv 0) (pa_cons (pe_bltn (v := .ty "bool") (by rfl) m_bool (by decide +kernel) rfl) pa_nil)))))))), ?_⟩
  refine body_D (m := 0) (W := w_is_whole) (fun N => ?_) h rfl
  have ok := @ctxP_ok K H N
  exact (fs_ret (fe_and (fe_isi kInt fe_var) (fe_not (fe_isi kBool fe_var))))
abbrev s_is_name : Stmt := topS 3
theorem sc_is_name : FnScope ["thing"] ["thing"] (defScope s_is_name) := ⟨rfl, rfl, rfl, by decide +kernel, rfl, by decide +kernel, by decide +kernel⟩
def w_is_name : WS := (wRet (wAndV (wIsi isStr (wVar 0)) (wAndV (wChain (f2I fun i j => .bool (decide (i ≤ j))) (f2I fun i j => .bool (decide (i ≤ j))) (wK (.int 1)) (wCB fLenS (wCons (wVar 0) wNil)) (wK (.int 8))) (wNotT (wStrip (wVar 0) (wK (.str "abcdefghijklmnopqrstuvwxyz")))))))
def f_is_name : W1 := wBody 0 w_is_name
def sp_is_name (K : PySem.W.Frag) : Sp := spD 1 f_is_name K
theorem ok_is_name {f : Addr} {fd : FuncData} (F : Fun K "is_name" "is_name" s_is_name f fd) (m_isinstance : mg "isinstance" = none) (m_len : mg "len" = none) (m_str : mg "str" = none) (s_SMALL : ∃ t, mg "SMALL" = some (.str "abcdefghijklmnopqrstuvwxyz" t)) : FnOk P w K mg base CX0 1 f fd ["thing"] (sp_is_name K) := by
  refine F.ok sc_is_name (fun vs H Q E h => spD_len h) (fun cdv A outer s H vs Q E hr h => ?_)
  refine ⟨_, (pss_one (ps_ret (pe_and (pe_callB call_isi (by rfl) m_isinstance (by decide +kernel) (pa_cons (pv 0) (pa_cons (pe_bltn (v := .ty "str") (by rfl) m_str (by decide +kernel) rfl) pa_nil))) (pe_and (pe_chain op_le op_le pe_int (pe_callB call_len_str (by rfl) m_len PySem.boot_len (pa_cons (pv 0) pa_nil)) pe_int) (pe_one (pe_notT (pe_bm PySem.F.plainAttrs_str PySem.F.slot_str_strip PySem.F.type_str_strip mt_stripChars (pv 0) (pa_cons (pe_glob (v := .str "abcdefghijklmnopqrstuvwxyz") (by rfl) s_SMALL.choose_spec ⟨_, rfl⟩) pa_nil)))))))), ?_⟩
  refine body_D (m := 0) (W := w_is_name) (fun N => ?_) h rfl
  have ok := @ctxP_ok K H N
  exact (fs_ret (fe_and (fe_isi kStr fe_var) (fe_and (fe_chain fr_le fr_le fe_int (fe_cb fc_lenS (fa_cons fe_var fa_nil)) fe_int) (fe_notT (fe_strip fe_var fe_str)))))
abbrev s_is_signs : Stmt := topS 4
theorem sc_is_signs : FnScope ["thing"] ["thing"] (defScope s_is_signs) := ⟨rfl, rfl, rfl, by decide +kernel, rfl, by decide +kernel, by decide +kernel⟩
def w_is_signs : WS := (wRet (wAndV (wIsi isStr (wVar 0)) (wNotT (wStrip (wVar 0) (wK (.str "01"))))))
def f_is_signs : W1 := wBody 0 w_is_signs
def sp_is_signs (K : PySem.W.Frag) : Sp := spD 1 f_is_signs K
theorem ok_is_signs {f : Addr} {fd : FuncData} (F : Fun K "is_signs" "is_signs" s_is_signs f fd) (m_isinstance : mg "isinstance" = none) (m_str : mg "str" = none) : FnOk P w K mg base CX0 1 f fd ["thing"] (sp_is_signs K) := by
  refine F.ok sc_is_signs (fun vs H Q E h => spD_len h) (fun cdv A outer s H vs Q E hr h => ?_)
  refine ⟨_, (pss_one (ps_ret (pe_and (pe_callB call_isi (by rfl) m_isinstance (by decide +kernel) (pa_cons (pv 0) (pa_cons (pe_bltn (v := .ty "str") (by rfl) m_str (by decide +kernel) rfl) pa_nil))) (pe_one (pe_notT (pe_bm PySem.F.plainAttrs_str PySem.F.slot_str_strip PySem.F.type_str_strip mt_stripChars (pv 0) (pa_cons pe_str pa_nil))))))), ?_⟩
  refine body_D (m := 0) (W := w_is_signs) (fun N => ?_) h rfl
  have ok := @ctxP_ok K H N
  exact (fs_ret (fe_and (fe_isi kStr fe_var) (fe_notT (fe_strip fe_var fe_str))))
abbrev s_num_by_form : Stmt := topS 14
theorem sc_num_by_form : FnScope ["e"] ["e"] (defScope s_num_by_form) := ⟨rfl, rfl, rfl, by decide +kernel, rfl, by decide +kernel, by decide +kernel⟩
def w_num_by_form : WS := (wRet (wAndV (wCall 1 f_is_whole (wCons (wOp fIxT (wVar 0) (wK (.int 1))) wNil)) (wChain (f2I fun i j => .bool (decide (i ≤ j))) (f2I fun i j => .bool (decide (i < j))) (wK (.int 0)) (wOp fIxT (wVar 0) (wK (.int 1))) (wOp (f2C WK.CPowB fun i j => i ^ j.toNat) (wK (.int 10)) (wK (.int 12))))))
def f_num_by_form : W1 := wBody 0 w_num_by_form
def sp_num_by_form (K : PySem.W.Frag) : Sp := spD 1 f_num_by_form K
theorem ok_num_by_form {f : Addr} {fd : FuncData} (F : Fun K "_num_by_form" "_num_by_form" s_num_by_form f fd) {f_is_whole : Addr} {fd_is_whole : FuncData} (c_is_whole : Cal P w K mg base CX0 1 f_is_whole fd_is_whole "is_whole" ["thing"] (sp_is_whole K)) : FnOk P w K mg base CX0 2 f fd ["e"] (sp_num_by_form K) := by
  refine F.ok sc_num_by_form (fun vs H Q E h => spD_len h) (fun cdv A outer s H vs Q E hr h => ?_)
  refine ⟨_, (pss_one (ps_ret (pe_and (pe_call c_is_whole.G (hr.mono (by decide)) (by rfl) c_is_whole.g c_is_whole.kp c_is_whole.b .nil pass0 (pa_cons (pe_ix (r := rIxT K) ix_tup (pv 0) pe_int (fun _ _ => rfl)) pa_nil)) (pe_one (pe_chain op_le op_lt pe_int (pe_ix (r := rIxT K) ix_tup (pv 0) pe_int (fun _ _ => rfl)) (pe_op WK.op_powB pe_int pe_int)))))), ?_⟩
  refine body_D (m := 0) (W := w_num_by_form) (fun N => ?_) h rfl
  have ok := @ctxP_ok K H N
  exact (fs_ret (fe_and (fe_callD ok (fa_cons (fe_op fr_ixT' fe_var fe_int) fa_nil)) (fe_chain fr_le fr_lt fe_int (fe_op fr_ixT' fe_var fe_int) (fe_op fr_rI fe_int fe_int))))
abbrev s_truth_by_form : Stmt := topS 15
theorem sc_truth_by_form : FnScope ["e"] ["e"] (defScope s_truth_by_form) := ⟨rfl, rfl, rfl, by decide +kernel, rfl, by decide +kernel, by decide +kernel⟩
def w_truth_by_form : WS := (wRet (wIsi isBool (wOp fIxT (wVar 0) (wK (.int 1)))))
def f_truth_by_form : W1 := wBody 0 w_truth_by_form
def sp_truth_by_form (K : PySem.W.Frag) : Sp := spD 1 f_truth_by_form K
theorem ok_truth_by_form {f : Addr} {fd : FuncData} (F : Fun K "_truth_by_form" "_truth_by_form" s_truth_by_form f fd) (m_bool : mg "bool" = none) (m_isinstance : mg "isinstance" = none) : FnOk P w K mg base CX0 1 f fd ["e"] (sp_truth_by_form K) := by
  refine F.ok sc_truth_by_form (fun vs H Q E h => spD_len h) (fun cdv A outer s H vs Q E hr h => ?_)
  refine ⟨_, (pss_one (ps_ret (pe_callB call_isi (by rfl) m_isinstance (by decide +kernel) (pa_cons (pe_ix (r := rIxT K) ix_tup (pv 0) pe_int (fun _ _ => rfl)) (pa_cons (pe_bltn (v := .ty "bool") (by rfl) m_bool (by decide +kernel) rfl) pa_nil))))), ?_⟩
  refine body_D (m := 0) (W := w_truth_by_form) (fun N => ?_) h rfl
  have ok := @ctxP_ok K H N
  exact (fs_ret (fe_isi kBool (fe_op fr_ixT' fe_var fe_int)))
abbrev s_flow_by_form : Stmt := topS 16
theorem sc_flow_by_form : FnScope ["e"] ["e"] (defScope s_flow_by_form) := ⟨rfl, rfl, rfl, by decide +kernel, rfl, by decide +kernel, by decide +kernel⟩
def w_flow_by_form : WS := (wRet (wCall 1 f_is_name (wCons (wOp fIxT (wVar 0) (wK (.int 1))) wNil)))
def f_flow_by_form : W1 := wBody 0 w_flow_by_form
def sp_flow_by_form (K : PySem.W.Frag) : Sp := spD 1 f_flow_by_form K
theorem ok_flow_by_form {f : Addr} {fd : FuncData} (F : Fun K "_flow_by_form" "_flow_by_form" s_flow_by_form f fd) {f_is_name : Addr} {fd_is_name : FuncData} (c_is_name : Cal P w K mg base CX0 1 f_is_name fd_is_name "is_name" ["thing"] (sp_is_name K)) : FnOk P w K mg base CX0 2 f fd ["e"] (sp_flow_by_form K) := by
  refine F.ok sc_flow_by_form (fun vs H Q E h => spD_len h) (fun cdv A outer s H vs Q E hr h => ?_)
  refine ⟨_, (pss_one (ps_ret (pe_call c_is_name.G (hr.mono (by decide)) (by rfl) c_is_name.g c_is_name.kp c_is_name.b .nil pass0 (pa_cons (pe_ix (r := rIxT K) ix_tup (pv 0) pe_int (fun _ _ => rfl)) pa_nil)))), ?_⟩
  refine body_D (m := 0) (W := w_flow_by_form) (fun N => ?_) h rfl
  have ok := @ctxP_ok K H N
  exact (fs_ret (fe_callD ok (fa_cons (fe_op fr_ixT' fe_var fe_int) fa_nil)))
abbrev s_then_by_form : Stmt := topS 17
theorem sc_then_by_form : FnScope ["e", "k"] ["e"] (defScope s_then_by_form) := ⟨rfl, rfl, rfl, by decide +kernel, rfl, by decide +kernel, by decide +kernel⟩
def w_then_by_form : WS := (wSeq (wAsg (wOp fIxT (wVar 0) (wK (.int 1))) (wName [] 1))
  (wSeq (wIfS (wOr (wNot (wB (wIsi isTup (wVar 1)))) (wB (wOp fNe (wCB fLen (wCons (wVar 1) wNil)) (wK (.int 2))))) (wRet (wK (.bool false))) wNext)
  (wRet (wOrV (wAndV (wOp fEq (wOp fIxT (wVar 1) (wK (.int 0))) (wK (.str "num"))) (wCall 1 f_num_by_form (wCons (wVar 1) wNil))) (wAndV (wOp fEq (wOp fIxT (wVar 1) (wK (.int 0))) (wK (.str "truth"))) (wCall 1 f_truth_by_form (wCons (wVar 1) wNil)))))))
def f_then_by_form : W1 := wBody 1 w_then_by_form
def sp_then_by_form (K : PySem.W.Frag) : Sp := spD 1 f_then_by_form K
theorem ok_then_by_form {f : Addr} {fd : FuncData} (F : Fun K "_then_by_form" "_then_by_form" s_then_by_form f fd) (m_isinstance : mg "isinstance" = none) (m_len : mg "len" = none) (m_tuple : mg "tuple" = none) {f_num_by_form : Addr} {fd_num_by_form : FuncData} (c_num_by_form : Cal P w K mg base CX0 2 f_num_by_form fd_num_by_form "_num_by_form" ["e"] (sp_num_by_form K)) {f_truth_by_form : Addr} {fd_truth_by_form : FuncData} (c_truth_by_form : Cal P w K mg base CX0 1 f_truth_by_form fd_truth_by_form "_truth_by_form" ["e"] (sp_truth_by_form K)) : FnOk P w K mg base CX0 3 f fd ["e"] (sp_then_by_form K) := by
  refine F.ok sc_then_by_form (fun vs H Q E h => spD_len h) (fun cdv A outer s H vs Q E hr h => ?_)
  refine ⟨_, (pss_cons (ps_set (i := 1) sc_then_by_form.nd rfl (Or.inl rfl) (pe_ix (r := rIxT K) ix_tup (pv 0) pe_int (fun _ _ => rfl)))
        (pss_cons (ps_if (PW.pt (pw_or (pt_not (pt_val (pe_callB call_isi (by rfl) m_isinstance (by decide +kernel) (pa_cons (pv 1) (pa_cons (pe_bltn (v := .ty "tuple") (by rfl) m_tuple (by decide +kernel) rfl) pa_nil))))) (pw_or1 (pt_cmpR op_ne (pe_callB call_len_seq (by rfl) m_len PySem.boot_len (pa_cons (pv 1) pa_nil)) pe_int (nomark _))))) (pss_one (ps_ret pe_bl)) pss_nil)
        (pss_one (ps_ret (pe_or (pe_and (pe_cmpR op_eq (pe_ix (r := rIxT K) ix_tup (pv 1) pe_int (fun _ _ => rfl)) pe_str (nomark _)) (pe_one (pe_call c_num_by_form.G (hr.mono (by decide)) (by rfl) c_num_by_form.g c_num_by_form.kp c_num_by_form.b .nil pass0 (pa_cons (pv 1) pa_nil)))) (pe_one (pe_and (pe_cmpR op_eq (pe_ix (r := rIxT K) ix_tup (pv 1) pe_int (fun _ _ => rfl)) pe_str (nomark _)) (pe_one (pe_call c_truth_by_form.G (hr.mono (by decide)) (by rfl) c_truth_by_form.g c_truth_by_form.kp c_truth_by_form.b .nil pass0 (pa_cons (pv 1) pa_nil)))))))))), ?_⟩
  refine body_D (m := 1) (W := w_then_by_form) (fun N => ?_) h rfl
  have ok := @ctxP_ok K H N
  exact (fs_seq (fs_asg (fe_op fr_ixT' fe_var fe_int) fg_name)
        (fs_seq (fs_if (ft_or (ft_not (ft_b (fe_isi kTup fe_var))) (ft_test (fe_op fr_ne (fe_cb fc_len (fa_cons fe_var fa_nil)) fe_int))) (fs_ret fe_bl) fs_next)
        (fs_ret (fe_or (fe_and (fe_op fr_eq (fe_op fr_ixT' fe_var fe_int) fe_str) (fe_callD ok (fa_cons fe_var fa_nil))) (fe_and (fe_op fr_eq (fe_op fr_ixT' fe_var fe_int) fe_str) (fe_callD ok (fa_cons fe_var fa_nil)))))))
abbrev s_when_by_form : Stmt := topS 18
theorem sc_when_by_form : FnScope ["e"] ["e"] (defScope s_when_by_form) := ⟨rfl, rfl, rfl, by decide +kernel, rfl, by decide +kernel, by decide +kernel⟩
def w_when_by_form : WS := (wRet (wAndV (wCall 1 f_is_name (wCons (wOp fIxT (wVar 0) (wK (.int 2))) wNil)) (wIsi isBool (wOp fIxT (wVar 0) (wK (.int 3))))))
def f_when_by_form : W1 := wBody 0 w_when_by_form
def sp_when_by_form (K : PySem.W.Frag) : Sp := spD 1 f_when_by_form K
theorem ok_when_by_form {f : Addr} {fd : FuncData} (F : Fun K "_when_by_form" "_when_by_form" s_when_by_form f fd) (m_bool : mg "bool" = none) (m_isinstance : mg "isinstance" = none) {f_is_name : Addr} {fd_is_name : FuncData} (c_is_name : Cal P w K mg base CX0 1 f_is_name fd_is_name "is_name" ["thing"] (sp_is_name K)) : FnOk P w K mg base CX0 2 f fd ["e"] (sp_when_by_form K) := by
  refine F.ok sc_when_by_form (fun vs H Q E h => spD_len h) (fun cdv A outer s H vs Q E hr h => ?_)
  refine ⟨_, (pss_one (ps_ret (pe_and (pe_call c_is_name.G (hr.mono (by decide)) (by rfl) c_is_name.g c_is_name.kp c_is_name.b .nil pass0 (pa_cons (pe_ix (r := rIxT K) ix_tup (pv 0) pe_int (fun _ _ => rfl)) pa_nil)) (pe_one (pe_callB call_isi (by rfl) m_isinstance (by decide +kernel) (pa_cons (pe_ix (r := rIxT K) ix_tup (pv 0) pe_int (fun _ _ => rfl)) (pa_cons (pe_bltn (v := .ty "bool") (by rfl) m_bool (by decide +kernel) rfl) pa_nil))))))), ?_⟩
  refine body_D (m := 0) (W := w_when_by_form) (fun N => ?_) h rfl
  have ok := @ctxP_ok K H N
  exact (fs_ret (fe_and (fe_callD ok (fa_cons (fe_op fr_ixT' fe_var fe_int) fa_nil)) (fe_isi kBool (fe_op fr_ixT' fe_var fe_int))))
abbrev s_beats_by_form : Stmt := topS 19
theorem sc_beats_by_form : FnScope ["e", "head", "again"] ["e"] (defScope s_beats_by_form) := ⟨rfl, rfl, rfl, by decide +kernel, rfl, by decide +kernel, by decide +kernel⟩
def w_beats_by_form : WS := (wSeq (wPar 1 2 [] (wCons (wOp fIxT (wVar 0) (wK (.int 1))) (wCons (wOp fIxT (wVar 0) (wK (.int 2))) wNil)))
  (wRet (wAndV (wCall 1 f_is_signs (wCons (wVar 1) wNil)) (wAndV (wCall 1 f_is_signs (wCons (wVar 2) wNil)) (wAndV (wOp (f2I fun i j => .bool (decide (i ≤ j))) (wCB fLenS (wCons (wVar 1) wNil)) (wK (.int 60))) (wChain (f2I fun i j => .bool (decide (i ≤ j))) (f2I fun i j => .bool (decide (i ≤ j))) (wK (.int 1)) (wCB fLenS (wCons (wVar 2) wNil)) (wK (.int 60))))))))
def f_beats_by_form : W1 := wBody 2 w_beats_by_form
def sp_beats_by_form (K : PySem.W.Frag) : Sp := spD 1 f_beats_by_form K
theorem ok_beats_by_form {f : Addr} {fd : FuncData} (F : Fun K "_beats_by_form" "_beats_by_form" s_beats_by_form f fd) (m_len : mg "len" = none) {f_is_signs : Addr} {fd_is_signs : FuncData} (c_is_signs : Cal P w K mg base CX0 1 f_is_signs fd_is_signs "is_signs" ["thing"] (sp_is_signs K)) : FnOk P w K mg base CX0 2 f fd ["e"] (sp_beats_by_form K) := by
  refine F.ok sc_beats_by_form (fun vs H Q E h => spD_len h) (fun cdv A outer s H vs Q E hr h => ?_)
  refine ⟨_, (pss_cons (ps_par (i := 1) (j := 2) (by rfl) sc_beats_by_form.nd rfl rfl (by decide) rfl rfl (pa_cons (pe_ix (r := rIxT K) ix_tup (pv 0) pe_int (fun _ _ => rfl)) (pa_cons (pe_ix (r := rIxT K) ix_tup (pv 0) pe_int (fun _ _ => rfl)) pa_nil)) (by rfl))
        (pss_one (ps_ret (pe_and (pe_call c_is_signs.G (hr.mono (by decide)) (by rfl) c_is_signs.g c_is_signs.kp c_is_signs.b .nil pass0 (pa_cons (pv 1) pa_nil)) (pe_and (pe_call c_is_signs.G (hr.mono (by decide)) (by rfl) c_is_signs.g c_is_signs.kp c_is_signs.b .nil pass0 (pa_cons (pv 2) pa_nil)) (pe_and (pe_cmpR op_le (pe_callB call_len_str (by rfl) m_len PySem.boot_len (pa_cons (pv 1) pa_nil)) pe_int (nomark _)) (pe_one (pe_chain op_le op_le pe_int (pe_callB call_len_str (by rfl) m_len PySem.boot_len (pa_cons (pv 2) pa_nil)) pe_int)))))))), ?_⟩
  refine body_D (m := 2) (W := w_beats_by_form) (fun N => ?_) h rfl
  have ok := @ctxP_ok K H N
  exact (fs_seq (fs_par (fa_cons (fe_op fr_ixT' fe_var fe_int) (fa_cons (fe_op fr_ixT' fe_var fe_int) fa_nil)))
        (fs_ret (fe_and (fe_callD ok (fa_cons fe_var fa_nil)) (fe_and (fe_callD ok (fa_cons fe_var fa_nil)) (fe_and (fe_op fr_le (fe_cb fc_lenS (fa_cons fe_var fa_nil)) fe_int) (fe_chain fr_le fr_le fe_int (fe_cb fc_lenS (fa_cons fe_var fa_nil)) fe_int))))))
abbrev s_call_by_form : Stmt := topS 20
theorem sc_call_by_form : FnScope ["e"] ["e"] (defScope s_call_by_form) := ⟨rfl, rfl, rfl, by decide +kernel, rfl, by decide +kernel, by decide +kernel⟩
def w_call_by_form : WS := (wRet (wAndV (wCall 1 f_is_name (wCons (wOp fIxT (wVar 0) (wK (.int 1))) wNil)) (wAndV (wIsi isList (wOp fIxT (wVar 0) (wK (.int 2)))) (wOp (f2I fun i j => .bool (decide (i ≤ j))) (wCB fLen (wCons (wOp fIxT (wVar 0) (wK (.int 2))) wNil)) (wK (.int 8))))))
def f_call_by_form : W1 := wBody 0 w_call_by_form
def sp_call_by_form (K : PySem.W.Frag) : Sp := spD 1 f_call_by_form K
theorem ok_call_by_form {f : Addr} {fd : FuncData} (F : Fun K "_call_by_form" "_call_by_form" s_call_by_form f fd) (m_isinstance : mg "isinstance" = none) (m_len : mg "len" = none) (m_list : mg "list" = none) {f_is_name : Addr} {fd_is_name : FuncData} (c_is_name : Cal P w K mg base CX0 1 f_is_name fd_is_name "is_name" ["thing"] (sp_is_name K)) : FnOk P w K mg base CX0 2 f fd ["e"] (sp_call_by_form K) := by
  refine F.ok sc_call_by_form (fun vs H Q E h => spD_len h) (fun cdv A outer s H vs Q E hr h => ?_)
  refine ⟨_, (pss_one (ps_ret (pe_and (pe_call c_is_name.G (hr.mono (by decide)) (by rfl) c_is_name.g c_is_name.kp c_is_name.b .nil pass0 (pa_cons (pe_ix (r := rIxT K) ix_tup (pv 0) pe_int (fun _ _ => rfl)) pa_nil)) (pe_and (pe_callB call_isi (by rfl) m_isinstance (by decide +kernel) (pa_cons (pe_ix (r := rIxT K) ix_tup (pv 0) pe_int (fun _ _ => rfl)) (pa_cons (pe_bltn (v := .ty "list") (by rfl) m_list (by decide +kernel) rfl) pa_nil))) (pe_one (pe_cmpR op_le (pe_callB call_len_seq (by rfl) m_len PySem.boot_len (pa_cons (pe_ix (r := rIxT K) ix_tup (pv 0) pe_int (fun _ _ => rfl)) pa_nil)) pe_int (nomark _))))))), ?_⟩
  refine body_D (m := 0) (W := w_call_by_form) (fun N => ?_) h rfl
  have ok := @ctxP_ok K H N
  exact (fs_ret (fe_and (fe_callD ok (fa_cons (fe_op fr_ixT' fe_var fe_int) fa_nil)) (fe_and (fe_isi kList (fe_op fr_ixT' fe_var fe_int)) (fe_op fr_le (fe_cb fc_len (fa_cons (fe_op fr_ixT' fe_var fe_int) fa_nil)) fe_int))))
end
end WK
namespace WK
open PySem PySem.Spec PyProof.Rows L2 WD
def kvs_PART_SPOTS : List (Str × PyData) := [("sum", (.tuple [(.int 1), (.int 2)])), ("less", (.tuple [(.int 1), (.int 2)])), ("times", (.tuple [(.int 1), (.int 2)])), ("below", (.tuple [(.int 1), (.int 2)])), ("same", (.tuple [(.int 1), (.int 2)])), ("both", (.tuple [(.int 1), (.int 2)])), ("either", (.tuple [(.int 1), (.int 2)])), ("not", (.tuple [(.int 1)])), ("pick", (.tuple [(.int 1), (.int 2), (.int 3)])), ("then", (.tuple [(.int 2)])), ("when", (.tuple [(.int 1)])), ("merge", (.tuple [(.int 2), (.int 3)]))]
def kvs_SIZES : List (Str × PyData) := [("num", (.int 2)), ("truth", (.int 2)), ("flow", (.int 2)), ("sum", (.int 3)), ("less", (.int 3)), ("times", (.int 3)), ("below", (.int 3)), ("same", (.int 3)), ("both", (.int 3)), ("either", (.int 3)), ("not", (.int 2)), ("pick", (.int 4)), ("then", (.int 3)), ("when", (.int 4)), ("merge", (.int 4)), ("beats", (.int 3)), ("call", (.int 3))]
def kvs_NAME_SPOTS : List (Str × PyData) := [("flow", (.int 1)), ("when", (.int 2)), ("merge", (.int 1))]
def kvs_ALL_PARTS : List (Str × PyData) := [("sum", (.int 3)), ("less", (.int 3)), ("times", (.int 3)), ("below", (.int 3)), ("same", (.int 3)), ("both", (.int 3)), ("either", (.int 3)), ("not", (.int 2)), ("pick", (.int 4))]
section
variable {P : Program} {w : World} {K : PySem.W.Frag} {mg : Str → Option Value} {base : Heap}
abbrev s_parts_of : Stmt := topS 23
theorem sc_parts_of : FnScope ["e", "word", "spot"] ["e"] (defScope s_parts_of) := ⟨rfl, rfl, rfl, by decide +kernel, rfl, by decide +kernel, by decide +kernel⟩
def w_parts_of : WS := (wSeq (wAsg (wOp fIxT (wVar 0) (wK (.int 0))) (wName [] 1))
  (wSeq (wIfS (wB (wInTab false kvs_PART_SPOTS (wVar 1))) (wRet (wTell (wLc [] (wItT (wIxTab kvs_PART_SPOTS (wVar 1))) (wName [] 2) wYes (wOp fIxT (wVar 0) (wVar 2)) [2]))) wNext)
  (wRet (wIfE (wB (wOp fEq (wVar 1) (wK (.str "call")))) (wTell (wListO (wCons (wOp fIxT (wVar 0) (wK (.int 2))) wNil))) (wLst wNil)))))
def f_parts_of : W1 := wBody 2 w_parts_of
def sp_parts_of (K : PySem.W.Frag) : Sp := spD 1 f_parts_of K
theorem ok_parts_of {f : Addr} {fd : FuncData} (F : Fun K "parts_of" "parts_of" s_parts_of f fd) (m_list : mg "list" = none) {p_PART_SPOTS : Addr} (t_PART_SPOTS : TabD K w mg "PART_SPOTS" p_PART_SPOTS kvs_PART_SPOTS) : FnOk P w K mg base CX0 1 f fd ["e"] (sp_parts_of K) := by
  refine F.ok sc_parts_of (fun vs H Q E h => spD_len h) (fun cdv A outer s H vs Q E hr h => ?_)
  refine ⟨_, (pss_cons (ps_set (i := 1) sc_parts_of.nd rfl (Or.inl rfl) (pe_ix (r := rIxT K) ix_tup (pv 0) pe_int (fun _ _ => rfl)))
        (pss_cons (ps_if (pt_cmpR (op_in_kd t_PART_SPOTS.D.choose_spec.choose_spec) (pv 1) (pe_glob (v := .ref p_PART_SPOTS) (by rfl) t_PART_SPOTS.g rfl) (by rfl)) (pss_one (ps_ret (pe_lc (own := [("spot", 2)]) (g := gName 2) (by rfl) sc_parts_of.nd (pi_tup (pe_ix (L2.ix_kdict) (pe_glob (v := .ref p_PART_SPOTS) (by rfl) t_PART_SPOTS.g rfl) (pv 1) (fun _ _ => rfl))) (blkOk_by (N := ["e", "word", "spot"]) (sc := defScope s_parts_of) (by decide +kernel)) (fun _ _ _ _ _ => (pg_name (i := 2) sc_parts_of.nd rfl (Or.inl rfl))) (fun _ _ _ _ _ => pts_nil) (fun _ _ _ _ _ => (pe_ix (r := rIxT K) ix_tup (pv 0) (pv 2) (fun _ _ => rfl)))))) pss_nil)
        (pss_one (ps_ret (pe_ifExp (pt_cmpR op_eq (pv 1) pe_str (nomark _)) (pe_callTy call_list_of (by rfl) m_list (by decide +kernel) (pa_cons (pe_ix (r := rIxT K) ix_tup (pv 0) pe_int (fun _ _ => rfl)) pa_nil)) (pe_lst pa_nil)))))), ?_⟩
  refine body_D (m := 2) (W := w_parts_of) (fun N => ?_) h rfl
  have ok := @ctxP_ok K H N
  exact (fs_seq (fs_asg (fe_op fr_ixT' fe_var fe_int) fg_name)
        (fs_seq (fs_if (ft_test (fe_inTab t_PART_SPOTS.T fe_var)) (fs_ret (fe_o (fo_lc (vs := [2]) ok (fi_tup (fe_ixTab t_PART_SPOTS.D.choose_spec.choose_spec t_PART_SPOTS.T fe_var)) fg_name (by decide) ft_yes (fe_op fr_ixT' fe_var fe_var)))) fs_next)
        (fs_ret (fe_if (ft_test (fe_op fr_eq fe_var fe_str)) (fe_o (fo_list' ok (fa_cons (fe_op fr_ixT' fe_var fe_int) fa_nil))) (fe_lst ok fa_nil)))))
abbrev s_part_at : Stmt := topS 25
theorem sc_part_at : FnScope ["e", "path", "i", "parts"] ["e", "path"] (defScope s_part_at) := ⟨rfl, rfl, rfl, by decide +kernel, rfl, by decide +kernel, by decide +kernel⟩
def w_part_at : WS := (wSeq (wFor (wItT (wVar 1)) (wName [] 2) (wSeq (wAsg (wCall 1 f_parts_of (wCons (wVar 0) wNil)) (wName [] 3))
  (wSeq (wIfS (wNot (wB (wChain (f2I fun i j => .bool (decide (i ≤ j))) (f2I fun i j => .bool (decide (i < j))) (wK (.int 0)) (wVar 2) (wCB fLen (wCons (wVar 3) wNil))))) (wRet (wK .none)) wNext)
  (wAsg (wOp fIxL (wVar 3) (wVar 2)) (wName [] 0)))))
  (wRet (wVar 0)))
def f_part_at : W1 := wBody 2 w_part_at
def sp_part_at (K : PySem.W.Frag) : Sp := spD 2 f_part_at K
theorem ok_part_at {f : Addr} {fd : FuncData} (F : Fun K "part_at" "part_at" s_part_at f fd) (m_len : mg "len" = none) {f_parts_of : Addr} {fd_parts_of : FuncData} (c_parts_of : Cal P w K mg base CX0 1 f_parts_of fd_parts_of "parts_of" ["e"] (sp_parts_of K)) : FnOk P w K mg base CX0 2 f fd ["e", "path"] (sp_part_at K) := by
  refine F.ok sc_part_at (fun vs H Q E h => spD_len h) (fun cdv A outer s H vs Q E hr h => ?_)
  refine ⟨_, (pss_cons (ps_for PassesOwn.never rfl (pi_tup (pv 1)) (pg_name (i := 2) sc_part_at.nd rfl (Or.inl rfl)) (pss_cons (ps_set (i := 3) sc_part_at.nd rfl (Or.inl rfl) (pe_call c_parts_of.G (hr.mono (by decide)) (by rfl) c_parts_of.g c_parts_of.kp c_parts_of.b .nil pass0 (pa_cons (pv 0) pa_nil)))
        (pss_cons (ps_if (pt_not (pt_chain op_le op_lt pe_int (pv 2) (pe_callB call_len_seq (by rfl) m_len PySem.boot_len (pa_cons (pv 3) pa_nil)))) (pss_one (ps_ret pe_non)) pss_nil)
        (pss_one (ps_set (i := 0) sc_part_at.nd rfl (Or.inl rfl) (pe_ix (r := rIxL K) ix_list (pv 3) (pv 2) (fun _ _ => rfl)))))))
        (pss_one (ps_ret (pv 0)))), ?_⟩
  refine body_D (m := 2) (W := w_part_at) (fun N => ?_) h rfl
  have ok := @ctxP_ok K H N
  exact (fs_seq (fs_for (fi_tup fe_var) fg_name (fs_seq (fs_asg (fe_callD ok (fa_cons fe_var fa_nil)) fg_name)
        (fs_seq (fs_if (ft_not (ft_test (fe_chain fr_le fr_lt fe_int fe_var (fe_cb fc_len (fa_cons fe_var fa_nil))))) (fs_ret fe_non) fs_next)
        (fs_asg (fe_op fr_ixL' fe_var fe_var) fg_name))))
        (fs_ret fe_var))
abbrev s_copied_e : Stmt := topS 26
theorem sc_copied_e : FnScope ["e"] ["e"] (defScope s_copied_e) := ⟨rfl, rfl, rfl, by decide +kernel, rfl, by decide +kernel, by decide +kernel⟩
def w_copied_e : WS := (wSeq (wIfS (wB (wOp fEq (wOp fIxT (wVar 0) (wK (.int 0))) (wK (.str "call")))) (wRet (wTup (wCons (wK (.str "call")) (wCons (wOp fIxT (wVar 0) (wK (.int 1))) (wCons (wTell (wListO (wCons (wOp fIxT (wVar 0) (wK (.int 2))) wNil))) wNil))))) wNext)
  (wRet (wVar 0)))
def f_copied_e : W1 := wBody 0 w_copied_e
def sp_copied_e (K : PySem.W.Frag) : Sp := spD 1 f_copied_e K
theorem ok_copied_e {f : Addr} {fd : FuncData} (F : Fun K "copied_e" "copied_e" s_copied_e f fd) (m_list : mg "list" = none) : FnOk P w K mg base CX0 1 f fd ["e"] (sp_copied_e K) := by
  refine F.ok sc_copied_e (fun vs H Q E h => spD_len h) (fun cdv A outer s H vs Q E hr h => ?_)
  refine ⟨_, (pss_cons (ps_if (pt_cmpR op_eq (pe_ix (r := rIxT K) ix_tup (pv 0) pe_int (fun _ _ => rfl)) pe_str (nomark _)) (pss_one (ps_ret (pe_tup (pa_cons pe_str (pa_cons (pe_ix (r := rIxT K) ix_tup (pv 0) pe_int (fun _ _ => rfl)) (pa_cons (pe_callTy call_list_of (by rfl) m_list (by decide +kernel) (pa_cons (pe_ix (r := rIxT K) ix_tup (pv 0) pe_int (fun _ _ => rfl)) pa_nil)) pa_nil)))))) pss_nil)
        (pss_one (ps_ret (pv 0)))), ?_⟩
  refine body_D (m := 0) (W := w_copied_e) (fun N => ?_) h rfl
  have ok := @ctxP_ok K H N
  exact (fs_seq (fs_if (ft_test (fe_op fr_eq (fe_op fr_ixT' fe_var fe_int) fe_str)) (fs_ret (fe_tup ok (fa_cons fe_str (fa_cons (fe_op fr_ixT' fe_var fe_int) (fa_cons (fe_o (fo_list' ok (fa_cons (fe_op fr_ixT' fe_var fe_int) fa_nil))) fa_nil))))) fs_next)
        (fs_ret fe_var))
abbrev s_frame_wrong : Stmt := topS 42
theorem sc_frame_wrong : FnScope ["thing"] ["thing"] (defScope s_frame_wrong) := ⟨rfl, rfl, rfl, by decide +kernel, rfl, by decide +kernel, by decide +kernel⟩
def w_frame_wrong : WS := (wSeq (wIfS (wOr (wNot (wB (wIsi isTup (wVar 0)))) (wB (wOp fNe (wCB fLen (wCons (wVar 0) wNil)) (wK (.int 4))))) (wRet (wTup (wCons (wK (.str "module")) wNil))) wNext)
  (wSeq (wIfS (wOr (wNot (wB (wIsi isTup (wOp fIxT (wVar 0) (wK (.int 1)))))) (wNot (wB (wIsi isTup (wOp fIxT (wVar 0) (wK (.int 2))))))) (wRet (wTup (wCons (wK (.str "module")) wNil))) wNext)
  (wSeq (wIfS (wNot (wB (wIsi isList (wOp fIxT (wVar 0) (wK (.int 3)))))) (wRet (wTup (wCons (wK (.str "module")) wNil))) wNext)
  (wRet (wK .none)))))
def f_frame_wrong : W1 := wBody 0 w_frame_wrong
def sp_frame_wrong (K : PySem.W.Frag) : Sp := spD 1 f_frame_wrong K
theorem ok_frame_wrong {f : Addr} {fd : FuncData} (F : Fun K "_frame_wrong" "_frame_wrong" s_frame_wrong f fd) (m_isinstance : mg "isinstance" = none) (m_len : mg "len" = none) (m_list : mg "list" = none) (m_tuple : mg "tuple" = none) : FnOk P w K mg base CX0 1 f fd ["thing"] (sp_frame_wrong K) := by
  refine F.ok sc_frame_wrong (fun vs H Q E h => spD_len h) (fun cdv A outer s H vs Q E hr h => ?_)
  refine ⟨_, (pss_cons (ps_if (PW.pt (pw_or (pt_not (pt_val (pe_callB call_isi (by rfl) m_isinstance (by decide +kernel) (pa_cons (pv 0) (pa_cons (pe_bltn (v := .ty "tuple") (by rfl) m_tuple (by decide +kernel) rfl) pa_nil))))) (pw_or1 (pt_cmpR op_ne (pe_callB call_len_seq (by rfl) m_len PySem.boot_len (pa_cons (pv 0) pa_nil)) pe_int (nomark _))))) (pss_one (ps_ret (pe_tup (pa_cons pe_str pa_nil)))) pss_nil)
        (pss_cons (ps_if (PW.pt (pw_or (pt_not (pt_val (pe_callB call_isi (by rfl) m_isinstance (by decide +kernel) (pa_cons (pe_ix (r := rIxT K) ix_tup (pv 0) pe_int (fun _ _ => rfl)) (pa_cons (pe_bltn (v := .ty "tuple") (by rfl) m_tuple (by decide +kernel) rfl) pa_nil))))) (pw_or1 (pt_not (pt_val (pe_callB call_isi (by rfl) m_isinstance (by decide +kernel) (pa_cons (pe_ix (r := rIxT K) ix_tup (pv 0) pe_int (fun _ _ => rfl)) (pa_cons (pe_bltn (v := .ty "tuple") (by rfl) m_tuple (by decide +kernel) rfl) pa_nil)))))))) (pss_one (ps_ret (pe_tup (pa_cons pe_str pa_nil)))) pss_nil)
        (pss_cons (ps_if (pt_not (pt_val (pe_callB call_isi (by rfl) m_isinstance (by decide +kernel) (pa_cons (pe_ix (r := rIxT K) ix_tup (pv 0) pe_int (fun _ _ => rfl)) (pa_cons (pe_bltn (v := .ty "list") (by rfl) m_list (by decide +kernel) rfl) pa_nil))))) (pss_one (ps_ret (pe_tup (pa_cons pe_str pa_nil)))) pss_nil)
        (pss_one (ps_ret pe_non))))), ?_⟩
  refine body_D (m := 0) (W := w_frame_wrong) (fun N => ?_) h rfl
  have ok := @ctxP_ok K H N
  exact (fs_seq (fs_if (ft_or (ft_not (ft_b (fe_isi kTup fe_var))) (ft_test (fe_op fr_ne (fe_cb fc_len (fa_cons fe_var fa_nil)) fe_int))) (fs_ret (fe_tup ok (fa_cons fe_str fa_nil))) fs_next)
        (fs_seq (fs_if (ft_or (ft_not (ft_b (fe_isi kTup (fe_op fr_ixT' fe_var fe_int)))) (ft_not (ft_b (fe_isi kTup (fe_op fr_ixT' fe_var fe_int))))) (fs_ret (fe_tup ok (fa_cons fe_str fa_nil))) fs_next)
        (fs_seq (fs_if (ft_not (ft_b (fe_isi kList (fe_op fr_ixT' fe_var fe_int)))) (fs_ret (fe_tup ok (fa_cons fe_str fa_nil))) fs_next)
        (fs_ret fe_non))))
abbrev s_is_row : Stmt := topS 45
theorem sc_is_row : FnScope ["thing", "targets", "x"] ["thing"] (defScope s_is_row) := ⟨rfl, rfl, rfl, by decide +kernel, rfl, by decide +kernel, by decide +kernel⟩
def w_is_row : WS := (wSeq (wIfS (wOr (wNot (wB (wIsi isTup (wVar 0)))) (wB (wOp fNe (wCB fLen (wCons (wVar 0) wNil)) (wK (.int 2))))) (wRet (wK (.bool false))) wNext)
  (wSeq (wAsg (wOp fIxT (wVar 0) (wK (.int 0))) (wName [] 1))
  (wSeq (wIfS (wOr (wNot (wB (wIsi isTup (wVar 1)))) (wNot (wTru (wVar 1)))) (wRet (wK (.bool false))) wNext)
  (wSeq (wFor (wItT (wVar 1)) (wName [] 2) (wIfS (wNot (wB (wCall 1 f_is_name (wCons (wVar 2) wNil)))) (wRet (wK (.bool false))) wNext))
  (wRet (wK (.bool true)))))))
def f_is_row : W1 := wBody 2 w_is_row
def sp_is_row (K : PySem.W.Frag) : Sp := spD 1 f_is_row K
theorem ok_is_row {f : Addr} {fd : FuncData} (F : Fun K "_is_row" "_is_row" s_is_row f fd) (m_isinstance : mg "isinstance" = none) (m_len : mg "len" = none) (m_tuple : mg "tuple" = none) {f_is_name : Addr} {fd_is_name : FuncData} (c_is_name : Cal P w K mg base CX0 1 f_is_name fd_is_name "is_name" ["thing"] (sp_is_name K)) : FnOk P w K mg base CX0 2 f fd ["thing"] (sp_is_row K) := by
  refine F.ok sc_is_row (fun vs H Q E h => spD_len h) (fun cdv A outer s H vs Q E hr h => ?_)
  refine ⟨_, (pss_cons (ps_if (PW.pt (pw_or (pt_not (pt_val (pe_callB call_isi (by rfl) m_isinstance (by decide +kernel) (pa_cons (pv 0) (pa_cons (pe_bltn (v := .ty "tuple") (by rfl) m_tuple (by decide +kernel) rfl) pa_nil))))) (pw_or1 (pt_cmpR op_ne (pe_callB call_len_seq (by rfl) m_len PySem.boot_len (pa_cons (pv 0) pa_nil)) pe_int (nomark _))))) (pss_one (ps_ret pe_bl)) pss_nil)
        (pss_cons (ps_set (i := 1) sc_is_row.nd rfl (Or.inl rfl) (pe_ix (r := rIxT K) ix_tup (pv 0) pe_int (fun _ _ => rfl)))
        (pss_cons (ps_if (PW.pt (pw_or (pt_not (pt_val (pe_callB call_isi (by rfl) m_isinstance (by decide +kernel) (pa_cons (pv 1) (pa_cons (pe_bltn (v := .ty "tuple") (by rfl) m_tuple (by decide +kernel) rfl) pa_nil))))) (pw_or1 (pt_not (pt_truth (pv 1) (by intro _; rfl)))))) (pss_one (ps_ret pe_bl)) pss_nil)
        (pss_cons (ps_for PassesOwn.never rfl (pi_tup (pv 1)) (pg_name (i := 2) sc_is_row.nd rfl (Or.inl rfl)) (pss_one (ps_if (pt_not (pt_val (pe_call c_is_name.G (hr.mono (by decide)) (by rfl) c_is_name.g c_is_name.kp c_is_name.b .nil pass0 (pa_cons (pv 2) pa_nil)))) (pss_one (ps_ret pe_bl)) pss_nil)))
        (pss_one (ps_ret pe_bl)))))), ?_⟩
  refine body_D (m := 2) (W := w_is_row) (fun N => ?_) h rfl
  have ok := @ctxP_ok K H N
  exact (fs_seq (fs_if (ft_or (ft_not (ft_b (fe_isi kTup fe_var))) (ft_test (fe_op fr_ne (fe_cb fc_len (fa_cons fe_var fa_nil)) fe_int))) (fs_ret fe_bl) fs_next)
        (fs_seq (fs_asg (fe_op fr_ixT' fe_var fe_int) fg_name)
        (fs_seq (fs_if (ft_or (ft_not (ft_b (fe_isi kTup fe_var))) (ft_not (ft_tru fe_var))) (fs_ret fe_bl) fs_next)
        (fs_seq (fs_for (fi_tup fe_var) fg_name (fs_if (ft_not (ft_b (fe_callD ok (fa_cons fe_var fa_nil)))) (fs_ret fe_bl) fs_next))
        (fs_ret fe_bl)))))
abbrev s_rows_wrong : Stmt := topS 46
theorem sc_rows_wrong : FnScope ["rows", "k", "row"] ["rows"] (defScope s_rows_wrong) := ⟨rfl, rfl, rfl, by decide +kernel, rfl, by decide +kernel, by decide +kernel⟩
def w_rows_wrong : WS := (wSeq (wFor (wItE (wCons (wVar 0) wNil)) (wgTup 2 (wgCons (wName [] 1) (wgCons (wName [] 2) wgNil))) (wIfS (wNot (wB (wCall 1 f_is_row (wCons (wVar 2) wNil)))) (wRet (wTup (wCons (wK (.str "row")) (wCons (wVar 1) wNil)))) wNext))
  (wSeq (wIfS (wB (wOp (f2I fun i j => .bool (decide (j < i))) (wCB fLen (wCons (wVar 0) wNil)) (wK (.int 60)))) (wRet (wTup (wCons (wK (.str "many")) wNil))) wNext)
  (wRet (wK .none))))
def f_rows_wrong : W1 := wBody 2 w_rows_wrong
def sp_rows_wrong (K : PySem.W.Frag) : Sp := spD 1 f_rows_wrong K
theorem ok_rows_wrong {f : Addr} {fd : FuncData} (F : Fun K "_rows_wrong" "_rows_wrong" s_rows_wrong f fd) (m_enumerate : mg "enumerate" = none) (m_len : mg "len" = none) (g_MOST_ROWS : ∃ t, mg "MOST_ROWS" = some (.int 60 t)) {f_is_row : Addr} {fd_is_row : FuncData} (c_is_row : Cal P w K mg base CX0 2 f_is_row fd_is_row "_is_row" ["thing"] (sp_is_row K)) : FnOk P w K mg base CX0 3 f fd ["rows"] (sp_rows_wrong K) := by
  refine F.ok sc_rows_wrong (fun vs H Q E h => spD_len h) (fun cdv A outer s H vs Q E hr h => ?_)
  refine ⟨_, (pss_cons (ps_for PassesOwn.never rfl (pi_enum (by rfl) m_enumerate (pa_cons (pv 0) pa_nil)) (pg_tup (by rfl) (pgs_cons (pg_name (i := 1) sc_rows_wrong.nd rfl (Or.inl rfl)) (pgs_cons (pg_name (i := 2) sc_rows_wrong.nd rfl (Or.inl rfl)) pgs_nil))) (pss_one (ps_if (pt_not (pt_val (pe_call c_is_row.G (hr.mono (by decide)) (by rfl) c_is_row.g c_is_row.kp c_is_row.b .nil pass0 (pa_cons (pv 2) pa_nil)))) (pss_one (ps_ret (pe_tup (pa_cons pe_str (pa_cons (pv 1) pa_nil))))) pss_nil)))
        (pss_cons (ps_if (pt_cmpR op_gt (pe_callB call_len_seq (by rfl) m_len PySem.boot_len (pa_cons (pv 0) pa_nil)) (pe_glob (v := .int 60) (by rfl) g_MOST_ROWS.choose_spec ⟨_, rfl⟩) (nomark _)) (pss_one (ps_ret (pe_tup (pa_cons pe_str pa_nil)))) pss_nil)
        (pss_one (ps_ret pe_non)))), ?_⟩
  refine body_D (m := 2) (W := w_rows_wrong) (fun N => ?_) h rfl
  have ok := @ctxP_ok K H N
  exact (fs_seq (fs_for (fi_enum ok (fa_cons fe_var fa_nil)) (fg_tup (fg_cons fg_name (fg_cons fg_name fg_nil))) (fs_if (ft_not (ft_b (fe_callD ok (fa_cons fe_var fa_nil)))) (fs_ret (fe_tup ok (fa_cons fe_str (fa_cons fe_var fa_nil)))) fs_next))
        (fs_seq (fs_if (ft_test (fe_op fr_gt (fe_cb fc_len (fa_cons fe_var fa_nil)) fe_int)) (fs_ret (fe_tup ok (fa_cons fe_str fa_nil))) fs_next)
        (fs_ret fe_non)))
abbrev s_is_spot : Stmt := topS 61
theorem sc_is_spot : FnScope ["thing", "i"] ["thing"] (defScope s_is_spot) := ⟨rfl, rfl, rfl, by decide +kernel, rfl, by decide +kernel, by decide +kernel⟩
def w_is_spot : WS := (wSeq (wIfS (wOr (wNot (wB (wIsi isTup (wVar 0)))) (wOr (wB (wOp fNe (wCB fLen (wCons (wVar 0) wNil)) (wK (.int 2)))) (wNot (wB (wIsi isTup (wOp fIxT (wVar 0) (wK (.int 1)))))))) (wRet (wK (.bool false))) wNext)
  (wRet (wAndV (wCall 1 f_is_whole (wCons (wOp fIxT (wVar 0) (wK (.int 0))) wNil)) (wCB fAll (wCons (wTell (wLc [] (wItT (wOp fIxT (wVar 0) (wK (.int 1)))) (wName [] 1) wYes (wCall 1 f_is_whole (wCons (wVar 1) wNil)) [1])) wNil)))))
def f_is_spot : W1 := wBody 1 w_is_spot
def sp_is_spot (K : PySem.W.Frag) : Sp := spD 1 f_is_spot K
theorem ok_is_spot {f : Addr} {fd : FuncData} (F : Fun K "is_spot" "is_spot" s_is_spot f fd) (m_all : mg "all" = none) (m_isinstance : mg "isinstance" = none) (m_len : mg "len" = none) (m_tuple : mg "tuple" = none) {f_is_whole : Addr} {fd_is_whole : FuncData} (c_is_whole : Cal P w K mg base CX0 1 f_is_whole fd_is_whole "is_whole" ["thing"] (sp_is_whole K)) : FnOk P w K mg base CX0 2 f fd ["thing"] (sp_is_spot K) := by
  refine F.ok sc_is_spot (fun vs H Q E h => spD_len h) (fun cdv A outer s H vs Q E hr h => ?_)
  refine ⟨_, (pss_cons (ps_if (PW.pt (pw_or (pt_not (pt_val (pe_callB call_isi (by rfl) m_isinstance (by decide +kernel) (pa_cons (pv 0) (pa_cons (pe_bltn (v := .ty "tuple") (by rfl) m_tuple (by decide +kernel) rfl) pa_nil))))) (pw_or (pt_cmpR op_ne (pe_callB call_len_seq (by rfl) m_len PySem.boot_len (pa_cons (pv 0) pa_nil)) pe_int (nomark _)) (pw_or1 (pt_not (pt_val (pe_callB call_isi (by rfl) m_isinstance (by decide +kernel) (pa_cons (pe_ix (r := rIxT K) ix_tup (pv 0) pe_int (fun _ _ => rfl)) (pa_cons (pe_bltn (v := .ty "tuple") (by rfl) m_tuple (by decide +kernel) rfl) pa_nil))))))))) (pss_one (ps_ret pe_bl)) pss_nil)
        (pss_one (ps_ret (pe_and (pe_call c_is_whole.G (hr.mono (by decide)) (by rfl) c_is_whole.g c_is_whole.kp c_is_whole.b .nil pass0 (pa_cons (pe_ix (r := rIxT K) ix_tup (pv 0) pe_int (fun _ _ => rfl)) pa_nil)) (pe_one (pe_callB (cr_all rfl) (by rfl) m_all (by decide +kernel) (pa_cons (pe_lc (own := [("i", 1)]) (g := gName 1) (by rfl) sc_is_spot.nd (pi_tup (pe_ix (r := rIxT K) ix_tup (pv 0) pe_int (fun _ _ => rfl))) (blkOk_by (N := ["thing", "i"]) (sc := defScope s_is_spot) (by decide +kernel)) (fun _ _ _ _ _ => (pg_name (i := 1) sc_is_spot.nd rfl (Or.inl rfl))) (fun _ _ _ _ _ => pts_nil) (fun _ _ _ _ _ => (pe_call c_is_whole.G (hr.mono (by decide)) (by rfl) c_is_whole.g c_is_whole.kp c_is_whole.b .nil pass0 (pa_cons (pv 1) pa_nil)))) pa_nil))))))), ?_⟩
  refine body_D (m := 1) (W := w_is_spot) (fun N => ?_) h rfl
  have ok := @ctxP_ok K H N
  exact (fs_seq (fs_if (ft_or (ft_not (ft_b (fe_isi kTup fe_var))) (ft_or (ft_test (fe_op fr_ne (fe_cb fc_len (fa_cons fe_var fa_nil)) fe_int)) (ft_not (ft_b (fe_isi kTup (fe_op fr_ixT' fe_var fe_int)))))) (fs_ret fe_bl) fs_next)
        (fs_ret (fe_and (fe_callD ok (fa_cons (fe_op fr_ixT' fe_var fe_int) fa_nil)) (fe_cb fc_all (fa_cons (fe_o (fo_lc (vs := [1]) ok (fi_tup (fe_op fr_ixT' fe_var fe_int)) fg_name (by decide) ft_yes (fe_callD ok (fa_cons fe_var fa_nil)))) fa_nil)))))
end
end WK
namespace WD
open PySem PySem.Spec PyProof.Rows L2
variable {C : Ctx}
/-- a name holds a thing that isn't told -/
theorem Rep.putUn {σ : L2.St} {ρ : Env} {N : Addr → Prop} {H : Hp} {i : Nat} {v : V} (r : Rep C σ ρ N H) (hf : (C.fx.all fun p => p != i) = true) (hi : i < ρ.sl.length) :
    Rep C (σ.set i (some v)) (ρ.put i .un) N H ∧ Fr C σ ρ N (σ.set i (some v)) (ρ.put i .un) N H H := by
  have hs : i < σ.length := by rw [r.len]; exact hi
  have get : ∀ j, j ≠ i → (σ.set i (some v))[j]? = σ[j]? := fun j z => List.getElem?_set_ne (Ne.symm z)
  have ow : ∀ b, OwnA (σ.set i (some v)) (ρ.put i .un) b → OwnA σ ρ b := fun b ⟨j, es, q1, q2⟩ => by
    rw [at_put hi] at q1
    by_cases z : j = i
    · rw [if_pos z] at q1; cases q1
    · rw [if_neg z] at q1
      rw [get j z] at q2
      exact ⟨j, es, q1, q2⟩
  refine ⟨?_, { keep := fun _ _ h _ _ => h, own := fun b z => ⟨(r.ownA (ow b z)).1, .inl (ow b z)⟩, dom := fun _ h => h, up := fun _ h => .inl h }⟩
  exact {
    len := by show (σ.set i _).length = (ρ.sl.set i _).length; rw [List.length_set, List.length_set]; exact r.len
    dat := fun j e q => by
      rw [at_put hi] at q
      by_cases z : j = i
      · rw [if_pos z] at q; cases q
      · rw [if_neg z] at q
        rw [get j z]
        exact r.dat j e q
    own := fun j es q => by
      rw [at_put hi] at q
      by_cases z : j = i
      · rw [if_pos z] at q; cases q
      · rw [if_neg z] at q
        rw [get j z]
        exact r.own j es q
    sep := fun j k es fs b z q1 q2 => by
      rw [at_put hi] at q1 q2
      by_cases y : j = i
      · rw [if_pos y] at q1; cases q1
      by_cases x : k = i
      · rw [if_pos x] at q2; cases q2
      rw [if_neg y] at q1
      rw [if_neg x] at q2
      rw [get j y, get k x]
      exact r.sep j k es fs b z q1 q2
    fix := fun p hp => by
      obtain ⟨g1, g2⟩ := r.fix p hp
      have ne : p ≠ i := by
        have := List.all_eq_true.mp hf p hp
        simpa using this
      rw [get _ ne, at_put hi, if_neg ne]
      exact ⟨g1, g2⟩
    old := r.old
    new := r.new
    has := r.has
    mh := r.mh
    j := r.j }
/-- a table of the top that leads texts to defs of one thing -/
structure FTab (K : PySem.W.Frag) (p : Addr) (fs : List (Str × W1)) (S : Addr → Option Sp) : Prop where
  has : ∀ x f, fs.lookup x = some f → ∃ a, PySem.W.nsIn K p x = some (some (.ref a)) ∧ S a = some (spD 1 f K)
/-- form = TABLE[word]; if not form(e): .. -/
def wForm (fx : List Nat) (fs : List (Str × W1)) (i : Nat) (a e : WE) (b rest : WS) : WS := fun ρ P => a ρ fun d ρ1 => match d with
  | .str x => ∃ f, fs.lookup x = some f ∧ (fx.all fun p => p != i) = true ∧ i < ρ1.sl.length ∧ e (ρ1.put i .un) fun z ρ2 => ρ2.at i = .un ∧ f [z] fun k => match k with
      | .bool true => rest ρ2 P
      | .bool false => b ρ2 fun fl => match fl with
        | .nx ρ3 => rest ρ3 P
        | .rt d ρ3 => P (.rt d ρ3)
        | .bk ρ3 => P (.bk ρ3)
        | .ct ρ3 => P (.ct ρ3)
      | _ => False
  | _ => False
theorem fs_form (ok : C.Ok) {w : World} {p : Addr} {fs : List (Str × W1)} {S : Addr → Option Sp} {es : Array DictEntry} {n i : Nat} {t te : TE} {tb tr : TS} {a e : WE} {b rest : WS} (D : KDict C.K w p es n) (T : FTab C.K p fs S) (ha : FE C t a) (he : FE C te e) (hb : FS C tb b) (hr : FS C tr rest) :
    FS C (tSeq (tAsg (tOp (rIxD C.K w) (tC (.ref p)) t) (gName i)) (tSeq (tIfS (tNot (tB (tCallA i S (tCons te tNil)))) tb tNext) tr)) (wForm C.fx fs i a e b rest) := fun D' σ H ρ N P r w1 k =>
  ha σ H ρ N _ _ r w1 fun v H1 N1 ρ1 d w2 n1 f1 r1 h1 => by
    cases h1 <;> first | exact w2.elim | skip
    rename_i x
    obtain ⟨f, e1, hf, hi, w2⟩ := w2
    obtain ⟨q, g1, g2⟩ := T.has x f e1
    refine ⟨p, x, .ref q, rfl, rfl, ⟨_, _, _, D.at_, D.lit, g1, rfl⟩, ?_⟩
    obtain ⟨r2, f2⟩ := r1.putUn (v := .ref q) hf hi
    have hs : i < σ.length := by rw [r1.len]; exact hi
    refine ⟨q, _, List.getElem?_set_self hs, g2, ?_⟩
    refine he (σ.set i (some (.ref q))) H1 _ N1 _ _ r2 w2 fun v3 H3 N3 ρ3 z w3 n3 f3 r3 h3 => ?_
    refine ⟨N3, [z], _, rfl, .cons h3 .nil, r3.has, w3.2, fun v4 H4 N4 y w4 n4 m4 o4 s4 h4 => ?_⟩
    obtain ⟨r5, f5⟩ := r3.after ok n4 m4 o4 s4
    have fall := ((f1.trans f2).trans f3).trans f5
    have nall : ∀ b, N b → N4 b := fun b h => n4 b (n3 b (n1 b h))
    cases h4 <;> first | exact w4.elim | skip
    rename_i kk
    refine ⟨kk, rfl, ?_⟩
    cases kk with
    | true => exact hr D' _ H4 ρ3 N4 P r5 w4 (k.step nall fall)
    | false =>
      refine hb _ _ H4 ρ3 N4 _ r5 w4 {
        nx := fun σ6 H6 N6 ρ6 w6 n6 f6 r6 => hr D' σ6 H6 ρ6 N6 P r6 w6 (k.step (fun b h => n6 b (nall b h)) (fall.trans f6))
        rt := fun v6 H6 N6 ρ6 σ6 d6 w6 n6 f6 r6 h6 => k.rt v6 H6 N6 ρ6 σ6 d6 w6 (fun b h => n6 b (nall b h)) (fall.trans f6) r6 h6
        bk := fun σ6 H6 N6 ρ6 w6 n6 f6 r6 => k.bk σ6 H6 N6 ρ6 w6 (fun b h => n6 b (nall b h)) (fall.trans f6) r6
        ct := fun σ6 H6 N6 ρ6 w6 n6 f6 r6 => k.ct σ6 H6 N6 ρ6 w6 (fun b h => n6 b (nall b h)) (fall.trans f6) r6 }
end WD
namespace WD
open PySem PySem.Spec PyProof.Rows L2
structure FTabD (P : Program) (w : World) (K : PySem.W.Frag) (mg : Str → Option Value) (base : Heap) (k : Nat) (x : Str) (p : Addr) (fs : List (Str × W1)) : Prop where
  g : mg x = some (.ref p)
  D : ∃ es n, KDict K w p es n
  S : ∃ S : Addr → Option Sp, FTab K p fs S ∧ ∀ f sp, S f = some sp → Held P w K mg base k f sp
end WD
namespace WD
open PySem PySem.Spec PyProof.Rows L2
/-! ### the set of some texts, and how many it has -/
def stU (acc : List Str) (x : Str) : List Str := if x ∈ acc then acc else acc ++ [x]
/-- each text once, as first met -/
def uq (xs : List Str) : List Str := xs.foldl stU []
theorem uq_snoc (xs : List Str) (x : Str) : uq (xs ++ [x]) = stU (uq xs) x := by unfold uq; rw [List.foldl_append]; rfl
theorem mem_stU {acc : List Str} {x y : Str} : y ∈ stU acc x ↔ y ∈ acc ∨ y = x := by
  unfold stU
  split
  · rename_i h
    exact ⟨.inl, fun z => z.elim id fun e => e ▸ h⟩
  · simp
theorem len_stU (acc : List Str) (x : Str) : (stU acc x).length = if decide (x ∈ acc) then acc.length else acc.length + 1 := by
  unfold stU
  by_cases h : x ∈ acc <;> simp [h]
theorem len_stU_le (acc : List Str) (x : Str) : (stU acc x).length ≤ acc.length + 1 := by rw [len_stU]; split <;> omega
theorem take_uq {xs : List Str} {i : Nat} (h : i < xs.length) : uq (xs.take (i + 1)) = stU (uq (xs.take i)) (xs.getD i Str.empty) := by
  rw [List.take_add_one, List.getElem?_eq_getElem h, Option.toList_some, uq_snoc, List.getD_eq_getElem?_getD, List.getElem?_eq_getElem h]
  rfl
theorem len_uqT (xs : List Str) : ∀ i, i ≤ xs.length → (uq (xs.take i)).length ≤ i
  | 0, _ => by simp [uq]
  | i + 1, h => by
    rw [take_uq h]
    exact Nat.le_trans (len_stU_le _ _) (Nat.succ_le_succ (len_uqT xs i (Nat.le_of_lt h)))
theorem len_uq_le (xs : List Str) : (uq xs).length ≤ xs.length := by
  have := len_uqT xs xs.length (Nat.le_refl _)
  rwa [List.take_length] at this
section
variable {prog : Program} {w : World} {A : Around} {R : Result → Shared → Prop} {I : Addr} {fp wr : List Addr} {G : Array GenState → Array GenState → Prop} {n : Nat} {P : Nat → Value → Prop} {St : Nat → Shared → Prop}
/-- what the set at S holds when i of the texts are taken -/
def SetI (prog : Program) (w : World) (h : Heap) (S : Addr) (l : List Str) : Prop := h.SetOf (PySem.strKind prog w) S (fun y => decide (y ∈ l)) l.length
theorem SetI.at {h g : Heap} {S : Addr} {l : List Str} (x : SetI prog w h S l) (k : ∀ o, h.get? S = some o → g.get? S = some o) : SetI prog w g S l := by
  obtain ⟨o, es, ep, t, ho, z⟩ := x
  exact ⟨o, es, ep, t, k o ho, z⟩
theorem taking (Wk : WalksS prog w A.in1 I fp wr G n P St) {S : Addr} (no : S ∉ fp) {xs : List Str} (sz : xs.length = n) (few : n + 1 < scanBound)
    (each : ∀ i v, P i v → ∃ t, v = .str (xs.getD i Str.empty) t) : ∀ (left i : Nat) (s : Shared), n - i = left → i ≤ n → St i s → SetI prog w s.heap S (uq (xs.take i)) →
      (∀ s', Moved (S :: wr) G s s' → SetI prog w s'.heap S (uq (xs.take n)) → R (.ok (.ret .none)) s') → codeAny (model prog w) A (.builtin "set.update.loop" ⟨[.ref S, .ref I], []⟩) R s := by
  have out : S ∉ wr := fun z => no (Wk.sub _ z)
  have up : ∀ b ∈ wr, b ∈ S :: wr := fun b z => .tail _ z
  intro left
  induction left with
  | zero =>
    intro i s e le st is fin
    obtain rfl : i = n := by omega
    refine codeAny_builtin PyProof.Rows.F.entry_set_update_loop ?_
    rw [Around.under_plainId PyProof.Rows.F.plain_set_update_loop]
    change wpAny _ A.in1 (pyNext (.ref I) >>= fun _ => _) _ _ s
    refine wpAny_bind (Wk.done s _ _ st fun s1 mv => ?_)
    change wpAny _ A.in1 (ret Value.none) _ _ s1
    exact wpAny_pure (fin s1 (mv.mono up) (is.at fun o z => mv.heap S o out z))
  | succ left ih =>
    intro i s e le st is fin
    have lt : i < n := by omega
    refine codeAny_builtin PyProof.Rows.F.entry_set_update_loop ?_
    rw [Around.under_plainId PyProof.Rows.F.plain_set_update_loop]
    change wpAny _ A.in1 (pyNext (.ref I) >>= fun _ => _) _ _ s
    refine wpAny_bind (Wk.item i s _ _ lt st fun v s1 pv st1 mv => ?_)
    obtain ⟨t, rfl⟩ := each i v pv
    have is1 : SetI prog w s1.heap S (uq (xs.take i)) := is.at fun o z => mv.heap S o out z
    generalize hx : xs.getD i Str.empty = x at *
    change wpAny _ A.in1 (holding [Value.str x t] (setAdd S (.str x t)) >>= fun _ => _) _ _ s1
    refine wpAny_bind (wpAny_holding ?_)
    unfold setAdd
    refine wpAny_holding (wpAny_bind ((PySem.strKind prog w).pyHash (k := x) (strKind_is _ _ _ _) ?_))
    have room : (uq (xs.take i)).length + 1 < scanBound := Nat.lt_of_le_of_lt (Nat.succ_le_succ (Nat.le_trans (len_uqT xs i (by omega)) (Nat.le_of_lt lt))) few
    refine wpAny_setAddHashed_of (knd := PySem.strKind prog w) (s := { s1 with toks := s1.toks + 1 }) (strKind_is _ _ _ _) rfl is1 room fun h2 same is2 => ?_
    have is3 : SetI prog w h2 S (uq (xs.take (i + 1))) := by
      refine SetOf_congr is2 (fun y => ?_) ?_
      · rw [take_uq (by omega), hx, ← Bool.decide_or]
        exact decide_eq_decide.mpr mem_stU.symm
      · rw [take_uq (by omega), hx, len_stU]
    refine wpAny_pure ⟨plainId_quiet PyProof.Rows.F.plain_set_update_loop _, ih (i + 1) _ (by omega) lt (Wk.frame _ s1 _ _ st1 (Nat.le_succ _) fun b hb o z => ?_) is3 fun s3 mv3 is4 => ?_⟩
    · rw [same.2 b (fun q => no (q ▸ hb))]; exact z
    · refine fin s3 (Moved.trans Wk.gtrans ((mv.mono up).then_heap (Nat.le_succ _) fun b o nb z => ?_) mv3) is4
      rw [same.2 b (fun q => nb (q ▸ .head _))]; exact z
end
section
variable {prog : Program} {w : World} {A : Around} {E : Value → Shared → Prop} {s : Shared}
/-- a new set, empty -/
def nilSet (led : Bool) : Obj := { cls := .type "set", dict := none, data := .set #[] 0 (.fresh 0 0 led) }
set_option maxHeartbeats 3200000 in
theorem set_of_tuple {b : Addr} {its : Array Value} {xs : List Str} {Q : Value → Shared → Prop} (idle : A.handled = none) (tup : s.heap.IsTuple b its) (txs : StrsAre its.toList xs) (few : its.size + 1 < scanBound)
    (k : ∀ (g : Heap) (c : Nat), SetI prog w g s.heap.objs.size (uq xs) → (∀ p o, p < s.heap.objs.size → s.heap.get? p = some o → g.get? p = some o) → Q (.ref s.heap.objs.size) { s with heap := g, toks := c }) :
    wpAny (model prog w) A (call (.type "set") [.ref b]) Q E s := by
  have many : xs.length = its.size := by rw [← StrsAre.len_eq txs, Array.length_toList]
  have each : ∀ (i : Nat) (v : Value), its[i]? = some v → ∃ t, v = .str (xs.getD i Str.empty) t := fun i v z => SS.strs_at txs i v ((Array.getElem?_toList ..).trans z)
  obtain ⟨c0, c1, m0⟩ := PySem.F.called_set.mro
  have m1 := PySem.F.called_set.made
  have m2 := PySem.F.called_set.sub
  have m3 := PySem.F.called_set.notType
  have m4 := PySem.F.called_set.canCreate
  have m5 := PySem.F.typeCall_set_1 (.ref b)
  refine wpAny_call (codeAny_of_tree ?_)
  change wpAny _ _ (callAny (.type "set") _) _ _ _
  refine wpAny_pure ⟨Code.quiet_builtin _ (by decide +kernel), codeAny_builtin PySem.F.entry_type_call ?_⟩
  rw [Around.under_plain (weight_type_call_type "set" [.ref b] []) rfl]
  repeat (any_goals (first | assumption | wp_step))
  refine codeAny_mono (code_set_new_1 (.ref b) (E := E) (Q₁ := fun v t => ∃ led : Bool, v = .ref s.heap.objs.size ∧ t = { s with heap := s.heap.push (nilSet led) }) fun led => ⟨led, rfl, rfl⟩) fun res t ok => ?_
  match res, ok with
  | .error _, ok => exact ok
  | .ok (.ret v), ok => ?_
  obtain ⟨led, rfl, rfl⟩ := ok
  have at0 : (s.heap.push (nilSet led)).get? s.heap.objs.size = some (nilSet led) := Heap.get?_push_size _ rfl
  have ty : Shared.TypeIs { s with heap := s.heap.push (nilSet led) } (.ref s.heap.objs.size) "set" := ⟨_, at0, rfl⟩
  have m6 := PySem.F.called_set.init.lookup
  have m7 := PySem.F.called_set.init.bind (.ref s.heap.objs.size)
  repeat (any_goals (first | assumption | wp_step))
  refine codeAny_mono (codeAny_call_builtin (R := wants (fun v t => v = .none ∧ ∃ g c, t = { s with heap := g, toks := c } ∧ SetI prog w g s.heap.objs.size (uq xs) ∧
      (∀ p o, p < s.heap.objs.size → s.heap.get? p = some o → g.get? p = some o)) E) PySem.F.called_set.init.plain PySem.F.entry_set_init (check_set_init_1 ty ?_)) fun res t ok => ?_
  · obtain ⟨⟨oc, od, ot, os⟩, e0, ec, n0, et⟩ := tup
    cases ec
    cases et
    have e1 : (s.heap.push (nilSet led)).get? b = some { cls := .type "tuple", dict := od, data := .seq its n0, slots := os } := Heap.get?_push_of_some _ e0
    have e2 : (s.heap.push (nilSet led)).IsTuple b its := ⟨_, e1, rfl, n0, rfl⟩
    have f1 := PySem.F.sub_tuple_set
    have f2 := PySem.F.sub_tuple_frozenset
    have f3 : (Value.type "tuple" == Value.type "dict") = false := by decide
    unfold Builtin.«set.__init__» noKeywords Builtin.Frozenset.updateFrom
    generalize hIt : pyIter = It
    unfold nilSet at *
    wp_walk
    subst hIt
    refine wpAny_pyIter_tuple e2 (wpAny_bind (wpAny_runValue ?_))
    have lt := Heap.lt_size e0
    have q1 : (s.heap.push (nilSet led)).objs.size = s.heap.objs.size + 1 := Heap.size_push _ _
    have lt2 : b < (s.heap.push (nilSet led)).objs.size := q1 ▸ Nat.lt_succ_of_lt lt
    have q0 : s.heap.objs.size < (s.heap.push (nilSet led)).objs.size := q1 ▸ Nat.lt_succ_self _
    have q2 : b ≠ (s.heap.push (nilSet led)).objs.size := Nat.ne_of_lt lt2
    have q3 : s.heap.objs.size ∉ [(s.heap.push (nilSet led)).objs.size, b] := fun z => (List.mem_cons.mp z).elim (Nat.ne_of_lt q0) fun z => Nat.ne_of_gt lt (List.mem_singleton.mp z)
    have idle3 : A.in1.in1.in1.handled = none := by simp [idle]
    refine taking (Walks.tuple idle3 _ b q2 its).toS q3 many few each (its.size - 0) 0 _ (by omega) (Nat.zero_le _) ⟨⟨_, Heap.get?_push_size _ rfl, rfl, rfl⟩, e2.push _⟩ ?start ?fin
    case start => exact SetOf_congr ((setObjOf_fresh (knd := PySem.strKind prog w) led).setOf (Heap.get?_push_of_some _ at0) (by unfold scanBound; omega)) (fun _ => rfl) rfl
    case fin =>
      rintro ⟨h3, g3, d3, c3, o3⟩ mv is
      obtain rfl : g3 = s.gens := mv.gens
      obtain rfl : d3 = s.drawn := mv.drawn
      obtain rfl : o3 = s.os := mv.os
      rw [← many, List.take_length] at is
      change wpAny _ _ _ _ _ _
      refine wpAny_pure ?_
      change wpAny _ _ (ret Value.none) _ _ _
      refine wpAny_pure ⟨rfl, h3, c3, rfl, is, fun p o lp z => mv.heap p o ?_ (Heap.get?_push_of_some _ (Heap.get?_push_of_some _ z))⟩
      exact fun y => (List.mem_cons.mp y).elim (Nat.ne_of_lt lp) fun y => Nat.ne_of_lt (Nat.lt_trans lp q0) (List.mem_singleton.mp y)
  · match res, ok with
    | .error _, ok => exact ok
    | .ok (.ret v), ok => ?_
    obtain ⟨rfl, g, c, rfl, is, kept⟩ := ok
    repeat (any_goals (first | assumption | wp_step))
    exact k g c is kept
end
end WD
namespace WD
open PySem PySem.Spec PyProof.Rows L2
theorem txs_of : ∀ {xs : List Str} {us : List Value}, Vals (xs.map V.str) us → StrsAre us xs
  | [], _, .nil => .nil
  | x :: _, _, .cons r t => by
    obtain ⟨_, rfl⟩ := r
    exact .cons x _ (txs_of t)
/-- len(set(t)), t a tuple of texts -/
def tLenU (K : PySem.W.Frag) (ta : TE) : TE := fun σ H Q => ta σ H fun x H1 => ∃ (b : Addr) (xs : List Str), x = .ref b ∧ SqT K H1 b (xs.map V.str) ∧ xs.length ≤ 4000 ∧ Q (.int ((uq xs).length : Nat)) H1
theorem pe_lenU {X : Cx} {a : Expr} {ta : TE} {p p2 q pos : Pos} (calm : X.calm = true) (g1 : Gl X "len") (n1 : X.mg "len" = none) (g2 : Gl X "set") (n2 : X.mg "set" = none) (ha : PE X a ta)
    (na : starEach [a] X.env = (false, eval a X.env) :: starEach [] X.env := by rfl) : PE X (.Call (.Name "len" p) [.Call (.Name "set" p2) [a] [] q] [] pos) (tLenU X.K ta) := by
  refine ⟨fun pins s σ H Q I h => Call_ (ld_blt I g1 n1 boot_len ?_)⟩
  refine callWith_builtin1 (args_cons (Call_ (ld_blt I g2 n2 boot_set ?_)) rfl) rfl rfl
  refine callWith_type1 (args_cons (thn (ha.run pins s σ H _ I h) fun v s1 ⟨x, H1, I1, r1, b, xs, e, hb, few, hQ⟩ => args_nil ?_) na) na rfl
  subst e
  cases r1
  obtain ⟨its, r, tup, _⟩ := I1.tuple hb
  have many : its.toArray.size = xs.length := by rw [List.size_toArray, ← r.length, List.length_map]
  refine set_of_tuple (I1.ok.hd calm) tup (by simpa using txs_of r) (by rw [many]; unfold scanBound; omega) fun g c is kept => args_nil ?_
  obtain ⟨o, es, ep, t, e0, ex, ed, _, _, _, fit, num⟩ := is
  have I2 : Inv X pins σ H1 { s1 with heap := g, toks := c } := I1.kept fun b o z => kept b o (Heap.lt_size z) z
  exact call_len_set e0 ex ed fit (by have := len_uq_le xs; rw [num]; omega) ⟨.int ((uq xs).length : Nat), H1, I2.tok _, ⟨_, by rw [num]⟩, hQ⟩
variable {C : Ctx}
/-- the texts of things -/
def txD : List PyData → Option (List Str)
  | [] => some []
  | .str x :: ds => (txD ds).map (x :: ·)
  | _ :: _ => none
theorem Dns.txs {K : PySem.W.Frag} {H : Hp} {N : Addr → Prop} : ∀ {vs : List V} {ds : List PyData} {xs : List Str}, Dns K H N vs ds → txD ds = some xs → vs = xs.map V.str
  | [], _, xs, .nil, e => by cases e; rfl
  | v :: vs, d :: ds, xs, .cons h t, e => by
    cases h <;> first | (simp [txD] at e; done) | skip
    rename_i x
    simp only [txD, Option.map_eq_some_iff] at e
    obtain ⟨ys, e1, rfl⟩ := e
    rw [List.map_cons, t.txs e1]
def wLenU (a : WE) : WE := fun ρ P => a ρ fun d ρ1 => match d with
  | .tuple ds => match txD ds with
    | some xs => xs.length ≤ 4000 ∧ P (.int ((uq xs).length : Nat)) ρ1
    | none => False
  | _ => False
theorem fe_lenU {t : TE} {a : WE} (h : FE C t a) : FE C (tLenU C.K t) (wLenU a) := fun σ H ρ N Q P r w k => by
  refine h σ H ρ N _ _ r w fun v H1 N1 ρ1 d w1 n1 f1 r1 hd => ?_
  cases hd <;> first | exact w1.elim | skip
  rename_i b ys ds hb tb
  dsimp only at w1
  split at w1
  · rename_i xs e
    refine ⟨b, xs, rfl, ?_, w1.1, k _ H1 N1 ρ1 _ w1.2 n1 f1 r1 (.int _)⟩
    rw [← tb.txs e]
    exact hb
  · exact w1.elim
end WD
namespace WD
open PySem PySem.Spec PyProof.Rows L2
/-- truth, within a comprehension (K told) -/
theorem pt_truthK {X : Cx} {K : PySem.W.Frag} {a : Expr} {ta : TE} (e : X.K = K) (ha : PE X a ta) (he : ∀ whole, isTrue a X.env whole = (do let v ← whole; standAt a.pos; holding [v] (truthy v))) :
    PT X a (fun σ H Q => ta σ H fun x H' => ∃ k, TruV K x H' k ∧ Q k H') := by
  subst e
  exact pt_truth ha he
variable {C : Ctx}
/-! ### for c in a text -/
def signsOf (x : Str) : List PyData := x.cps.toList.map fun c => .str ⟨#[c]⟩
def wItS (a : WE) : WI := fun ρ P => a ρ fun d ρ1 => match d with
  | .str x => P (signsOf x) ρ1
  | _ => False
theorem fi_str {t : TE} {a : WE} (h : FE C t a) : FI C (iStr t) (wItS a) := fun σ H ρ N R P r w k => h σ H ρ N _ _ r w fun v H1 N1 ρ1 d w1 n1 f1 r1 h1 => by
  cases h1 <;> first | exact w1.elim | skip
  rename_i x
  refine ⟨x, rfl, k _ H1 N1 ρ1 _ w1 n1 f1 r1 fun i H2 kp => ?_⟩
  have l : (signsOf x).length = x.cps.size := by unfold signsOf; rw [List.length_map, Array.length_toList]
  rw [l]
  refine ⟨fun hi => ⟨hi, fun v H' y => ?_⟩, fun hi => hi⟩
  obtain ⟨e, c, hc, e2⟩ := y
  subst e e2
  refine ⟨.str ⟨#[c]⟩, ?_, fun σ ρ N n2 r => ⟨r.fr, r, .str _⟩⟩
  unfold signsOf
  rw [List.getElem?_map, Array.getElem?_toList, hc]
  rfl
end WD
namespace WD
open PySem PySem.Spec PyProof.Rows L2
variable {C : Ctx}
/-! ### ''.join(xs) -/
def wJoin (a b : WE) : WE := fun ρ P => a ρ fun d ρ1 => match d with
  | .str s => b ρ1 fun e ρ2 => match e with
    | .list ds => ∃ xs, txD ds = some xs ∧ (xs.map (·.length)).sum + xs.length * s.length ≤ 16777216 ∧ P (.str (Txt.join s xs)) ρ2
    | _ => False
  | _ => False
theorem fe_join {t u : TE} {a b : WE} (ha : FE C t a) (hb : FE C u b) : FE C (tM1 (fun x xs H Q => ∃ a p, ∃ ys : List Str, x = .str a ∧ xs = [.ref p] ∧ (SqL C.K H p (ys.map V.str) ∨ SqT C.K H p (ys.map V.str)) ∧
      (ys.map (·.length)).sum + ys.length * a.length ≤ 16777216 ∧ Q (.str (Txt.join a ys)) H) t u) (wJoin a b) := fun σ H ρ N Q P r w k =>
  ha σ H ρ N _ _ r w fun v H1 N1 ρ1 d w1 n1 k1 r1 h1 => by
    cases h1 <;> first | exact w1.elim | skip
    refine ⟨⟨_, rfl⟩, hb σ H1 ρ1 N1 _ _ r1 w1 fun v2 H2 N2 ρ2 d2 w2 n2 k2 r2 h2 => ?_⟩
    cases h2 <;> first | exact w2.elim | skip
    rename_i q vs ds hq nq t
    obtain ⟨xs, e1, e2, w2⟩ := w2
    refine ⟨_, q, xs, rfl, rfl, .inl ?_, e2, k _ H2 N2 ρ2 _ w2 (fun b h => n2 b (n1 b h)) (k1.trans k2) r2 (.str _)⟩
    rw [← t.txs e1]
    exact SqL.of hq
theorem pe_joinK {X : Cx} {K : PySem.W.Frag} {o e : Expr} {to te : TE} {apos pos : Pos} (hK : X.K = K) (ho : PE X o to) (he : PE X e te) (hs : starEach [e] X.env = (false, eval e X.env) :: starEach [] X.env := by rfl)
    (hbase : attributeBase o "join" X.env (eval o X.env) = eval o X.env := by rfl) (hline : (apos.endLine == pos.line) = true := by rfl) :
    PE X (.Call (.Attribute o "join" apos) [e] [] pos) (tM1 (fun x xs H Q => ∃ a p, ∃ ys : List Str, x = .str a ∧ xs = [.ref p] ∧ (SqL K H p (ys.map V.str) ∨ SqT K H p (ys.map V.str)) ∧
      (ys.map (·.length)).sum + ys.length * a.length ≤ 16777216 ∧ Q (.str (Txt.join a ys)) H) to te) := by
  subst hK
  exact pe_join ho he hs hbase hline
/-! ### x[i] = e, x an own list -/
def wgSet (i : Nat) (a : WE) : WG := fun d ρ P => (ownOf (ρ.at i)).isSome = true ∧ a ρ fun z ρ1 => match z with
  | .int n => ∃ ds j, ownOf (ρ1.at i) = some ds ∧ ixN ds.length n = some j ∧ P (ρ1.put i (.own (ds.set j d)))
  | _ => False
theorem fg_set (ok : C.Ok) {i : Nat} {t : TE} {a : WE} (h : FE C t a) : FG C [] (gSub (tVar i) t rSetL) (wgSet i a) := fun σ H ρ N v d Q P r hd w k => by
  obtain ⟨w0, w⟩ := w
  obtain ⟨ds0, e0⟩ := Option.isSome_iff_exists.mp w0
  obtain ⟨p, vs0, h1, h2, _⟩ := r.own i ds0 (ownOf_eq e0)
  refine ⟨.ref p, h1, ?_⟩
  refine h σ H ρ N _ _ r w fun z H1 N1 ρ1 y w1 n1 f1 r1 hy => ?_
  cases hy <;> first | exact w1.elim | skip
  rename_i n
  obtain ⟨ds, j, e1, e2, w1⟩ := w1
  have e1 := ownOf_eq e1
  obtain ⟨p', vs, g1, g2, g3, g4⟩ := r1.own i ds e1
  rw [h1] at g1
  cases g1
  refine ⟨p, vs, n, j, rfl, rfl, g2, by rw [g3.len]; exact e2, ?_⟩
  obtain ⟨r2, f2⟩ := r1.write ok e1 h1 g2 (g3.set (hd.mono (f1.kp r) n1) j)
  exact k σ _ N1 _ w1 n1 (f1.trans f2) r2 ⟨rfl, fun _ _ => rfl⟩
theorem fe_neg {n : Int} : FE C (tUn (rU fun i => .int (-i)) (tC (.int n))) (wK (.int (-n))) := fun σ H ρ N Q P r w k => ⟨n, rfl, k _ H N ρ _ w (fun _ h => h) r.fr r (.int _)⟩
end WD
namespace WD
open PySem PySem.Spec PyProof.Rows L2
variable {C : Ctx}
/-! ### new lists: a + b, x[::-1]; bool(x) -/
def wCatO (a b : WE) : WO := fun ρ P => a ρ fun d ρ1 => b ρ1 fun e ρ2 => match d, e with
  | .list xs, .list ys => xs.length + ys.length ≤ 16777216 ∧ P (xs ++ ys) ρ2
  | _, _ => False
theorem fo_cat (ok : C.Ok) {t u : TE} {a b : WE} (ha : FE C t a) (hb : FE C u b) : FO C (tOp rCat t u) (wCatO a b) := fun σ H ρ N Q P r w k =>
  ha σ H ρ N _ _ r w fun v H1 N1 ρ1 d w1 n1 f1 r1 h1 => hb σ H1 ρ1 N1 _ _ r1 w1 fun y H2 N2 ρ2 e w2 n2 f2 r2 h2 => by
    have h1 := h1.mono (f2.kp r1) n2
    cases h1 <;> cases h2 <;> first | exact w2.elim | skip
    rename_i p xs ds h n t q ys es h' n' t'
    refine ⟨_, _, _, _, rfl, rfl, h, h', by rw [szl, t.len, t'.len]; exact w2.1, fun c hc => ?_⟩
    obtain ⟨q1, q2⟩ := r2.h0 hc
    have f := f1.trans f2
    exact k c _ _ N2 ρ2 _ w2.2 (fun b h => n2 b (n1 b h)) (f.trans (r2.frA hc)) (r2.alloc ok hc) upd_same ((t.append t').mono (.upd hc) fun _ h => h) (r2.notN hc) (f.back hc) q1 q2 (r2.notOwn hc)
def wRevO (a : WE) : WO := fun ρ P => a ρ fun d ρ1 => match d with
  | .list xs => P xs.reverse ρ1
  | _ => False
theorem fo_rev (ok : C.Ok) {t : TE} {a : WE} (ha : FE C t a) : FO C (tRevL C.K t) (wRevO a) := fun σ H ρ N Q P r w k =>
  ha σ H ρ N _ _ r w fun v H1 N1 ρ1 d w1 n1 f1 r1 h1 => by
    cases h1 <;> first | exact w1.elim | skip
    rename_i p xs ds h n t
    refine ⟨p, xs, rfl, SqL.of h, fun c hc => ?_⟩
    obtain ⟨q1, q2⟩ := r1.h0 hc
    exact k c _ _ N1 ρ1 _ w1 n1 (f1.trans (r1.frA hc)) (r1.alloc ok hc) upd_same (t.reverse.mono (.upd hc) fun _ h => h) (r1.notN hc) (f1.back hc) q1 q2 (r1.notOwn hc)
def fBool1 : W1 := fun ds P => match ds with
  | [.int i] => P (.bool (i != 0))
  | [.bool b] => P (.bool b)
  | _ => False
theorem fc_bool1 : FC C (fun xs H Q => (∃ i, xs = [V.int i] ∧ Q (V.bl (i != 0)) H) ∨ ∃ k, xs = [V.bl k] ∧ Q (V.bl k) H) fBool1 := fun σ H ρ N Q P vs ds r h w k => by
  cases h with
  | nil => exact w.elim
  | cons h t =>
    cases t with
    | cons h2 t2 => cases h <;> exact w.elim
    | nil =>
      cases h <;> first | exact w.elim | skip
      · exact .inr ⟨_, rfl, k _ _ _ _ w (fun b h => h) r.fr r (.bl _)⟩
      · exact .inl ⟨_, rfl, k _ _ _ _ w (fun b h => h) r.fr r (.bl _)⟩
end WD
namespace WD
open PySem PySem.Spec PyProof.Rows L2
mutual
/-- without lists, without dicts -/
def noL : PyData → Bool
  | .list _ | .dict _ => false
  | .tuple ds => noLs ds
  | _ => true
def noLs : List PyData → Bool
  | [] => true
  | d :: ds => noL d && noLs ds
end
mutual
theorem Dn.bare {K : PySem.W.Frag} {H : Hp} {N N2 : Addr → Prop} : ∀ {d : PyData} {v : V}, noL d = true → Dn K H N v d → Dn K H N2 v d
  | _, _, _, .non => .non
  | _, _, _, .bl b => .bl b
  | _, _, _, .int i => .int i
  | _, _, _, .str x => .str x
  | _, _, q, .lst h n t => by simp [noL] at q
  | _, _, q, .tup h t => .tup h (Dns.bare (by simpa only [noL] using q) t)
  | _, _, q, .dct h n => by simp [noL] at q
theorem Dns.bare {K : PySem.W.Frag} {H : Hp} {N N2 : Addr → Prop} : ∀ {ds : List PyData} {vs : List V}, noLs ds = true → Dns K H N vs ds → Dns K H N2 vs ds
  | _, _, _, .nil => .nil
  | _, _, q, .cons h t => by
    simp only [noLs, Bool.and_eq_true] at q
    exact .cons (Dn.bare q.1 h) (Dns.bare q.2 t)
end
end WD
namespace WK
open PySem PySem.Spec PyProof.Rows L2 WD
/-- an expression that may be handed out: its one list, if it has one, holds bare things -/
def exprD : PyData → Bool
  | .tuple [.str x, .str y, .list ps] => decide (x = "call") && (noLs ps && decide (ps.length ≤ 16777216))
  | .tuple (.str x :: r) => !decide (x = "call") && noLs r
  | _ => false
/-- the copy's lists are new -/
def sp_copied_eN (K : PySem.W.Frag) : Sp := fun vs H Q _ => ∃ (N : Addr → Prop) (v : V) (d : PyData), vs = [v] ∧ Dn K H N v d ∧ exprD d = true ∧ ∀ u H', Same H H' → Dn K H' (fun b => H b = none) u d → Q u H'
section
variable {P : Program} {w : World} {K : PySem.W.Frag} {mg : Str → Option Value} {base : Heap}
theorem ok_copied_eN {f : Addr} {fd : FuncData} (F : Fun K "copied_e" "copied_e" s_copied_e f fd) (m_list : mg "list" = none) : FnOk P w K mg base CX0 1 f fd ["e"] (sp_copied_eN K) := by
  refine F.ok sc_copied_e (fun vs H Q E h => ?_) (fun cdv A outer s H vs Q E hr h => ?_)
  · obtain ⟨_, _, _, rfl, _⟩ := h
    rfl
  · obtain ⟨N, v, d, rfl, hd, hx, q⟩ := h
    refine ⟨_, (pss_cons (ps_if (pt_cmpR op_eq (pe_ix (r := rIxT K) ix_tup (pv 0) pe_int (fun _ _ => rfl)) pe_str (nomark _)) (pss_one (ps_ret (pe_tup (pa_cons pe_str (pa_cons (pe_ix (r := rIxT K) ix_tup (pv 0) pe_int (fun _ _ => rfl)) (pa_cons (pe_callTy call_list_of (by rfl) m_list (by decide +kernel) (pa_cons (pe_ix (r := rIxT K) ix_tup (pv 0) pe_int (fun _ _ => rfl)) pa_nil)) pa_nil)))))) pss_nil)
        (pss_one (ps_ret (pv 0)))), ?_⟩
    cases hd <;> first | (simp [exprD] at hx; done) | skip
    rename_i a xs ds h t
    cases t with
    | nil => simp [exprD] at hx
    | cons hv t =>
      cases hv <;> first | (simp [exprD] at hx; done) | skip
      rename_i vs es x
      have x0 : atI (V.str x :: vs) 0 = some (.str x) := by
        unfold atI ixN
        rw [if_pos (Int.le_refl 0), if_pos (by simp only [List.length_cons]; omega)]
        rfl
      by_cases hc : x = "call"
      · subst hc
        cases t with
        | nil => simp [exprD, noLs] at hx
        | cons hy t =>
          cases hy <;> first | (simp [exprD, noLs, noL] at hx; done) | skip
          rename_i vs2 es2 y
          cases t with
          | nil => simp [exprD, noLs, noL] at hx
          | cons hz t =>
            cases hz <;> first | (simp [exprD, noLs, noL] at hx; done) | skip
            rename_i vs3 es3 b zs ps hb nb tb
            cases t with
            | cons _ _ => simp [exprD] at hx
            | nil =>
              simp only [exprD, decide_true, Bool.true_and, Bool.and_eq_true, decide_eq_true_eq] at hx
              have at1 : atI [V.str ("call" : Str), V.str y, V.ref b] 1 = some (.str y) := rfl
              have at2 : atI [V.str ("call" : Str), V.str y, V.ref b] 2 = some (.ref b) := rfl
              refine ⟨.ref a, rfl, a, _, 0, _, rfl, rfl, h, x0, ⟨rfl, _, rfl, ?_⟩⟩
              show (if decide (V.str ("call" : Str) = V.str ("call" : Str)) = true then _ else _)
              rw [if_pos (by decide)]
              refine ⟨.ref a, rfl, a, _, 1, _, rfl, rfl, h, at1, .ref a, rfl, a, _, 2, _, rfl, rfl, h, at2, b, zs, rfl, .inl (SqL.of hb), fun l hl => ?_⟩
              have sl := same_upd (o := .lst zs) hl
              refine ⟨by show 3 ≤ sizeLine; decide, fun p hp => ?_⟩
              have sp := same_upd (o := .tup [V.str ("call" : Str), V.str y, V.ref l]) hp
              have ne : l ≠ p := fun e => by rw [← e, upd_same] at hp; cases hp
              refine q _ _ (sl.trans sp) (.tup (SqT.of upd_same) (.cons (.str _) (.cons (.str y) (.cons (.lst (sp _ _ upd_same) hl ?_) .nil))))
              exact (tb.bare (N2 := fun _ => False) hx.1).mono (.same (sl.trans sp)) fun _ z => z.elim
      · have bare : noLs es = true := by
          unfold exprD at hx
          split at hx
          · rename_i e
            cases e
            simp [hc] at hx
          · rename_i e
            cases e
            simpa [hc] using hx
          · cases hx
        refine ⟨.ref a, rfl, a, _, 0, _, rfl, rfl, h, x0, ?_⟩
        refine ⟨rfl, _, rfl, ?_⟩
        show (if decide (V.str x = V.str ("call" : Str)) = true then _ else _)
        rw [if_neg (by simpa using hc)]
        exact ⟨.ref a, rfl, q _ _ (Same.refl H) (.tup h (.cons (.str x) (t.bare bare)))⟩
end
end WK
namespace WK
open PySem PySem.Spec PyProof.Rows L2 WD
section
variable {P : Program} {w : World} {K : PySem.W.Frag} {mg : Str → Option Value} {base : Heap}
abbrev s_targets_of : Stmt := topS 30
theorem sc_targets_of : FnScope ["module", "targets", "_", "x"] ["module"] (defScope s_targets_of) := ⟨rfl, rfl, rfl, by decide +kernel, rfl, by decide +kernel, by decide +kernel⟩
def w_targets_of : WS := (wRet (wTell (wLc2 [] (wItL (wOp fIxT (wVar 0) (wK (.int 3)))) (wgTup 2 (wgCons (wName [] 1) (wgCons (wName [] 2) wgNil))) (wItT (wVar 1)) (wName [] 3) (wVar 3) [1, 2, 3] [3])))
def f_targets_of : W1 := wBody 3 w_targets_of
def sp_targets_of (K : PySem.W.Frag) : Sp := spD 1 f_targets_of K
theorem ok_targets_of {f : Addr} {fd : FuncData} (F : Fun K "targets_of" "targets_of" s_targets_of f fd) : FnOk P w K mg base CX0 1 f fd ["module"] (sp_targets_of K) := by
  refine F.ok sc_targets_of (fun vs H Q E h => spD_len h) (fun cdv A outer s H vs Q E hr h => ?_)
  refine ⟨_, (pss_one (ps_ret (pe_lc2 (own := [("targets", 1), ("_", 2), ("x", 3)]) (vs1 := [3]) (wi1 := iTup K (tVar 1)) (g := gTup K 2 (gCons (gName 1) (gCons (gName 2) gNil))) (g1 := gName 3) (by rfl) sc_targets_of.nd (pi_list (pe_ix (r := rIxT K) ix_tup (pv 0) pe_int (fun _ _ => rfl))) (blkOk_by (N := ["module", "targets", "_", "x"]) (sc := defScope s_targets_of) (by decide +kernel)) (by decide) (fun _ _ _ _ _ => (pg_tup (by rfl) (pgs_cons (pg_name (i := 1) sc_targets_of.nd rfl (Or.inl rfl)) (pgs_cons (pg_name (i := 2) sc_targets_of.nd rfl (Or.inl rfl)) pgs_nil)))) (fun _ _ _ _ _ => pts_nil) (fun _ _ _ _ _ => (pi_tup (pv 1))) (fun _ _ _ _ _ => (pg_name (i := 3) sc_targets_of.nd rfl (Or.inl rfl))) (fun _ _ _ _ _ => pts_nil) (fun _ _ _ _ _ => (pv 3))))), ?_⟩
  refine body_D (m := 3) (W := w_targets_of) (fun N => ?_) h rfl
  have ok := @ctxP_ok K H N
  exact (fs_ret (fe_o (fo_lc2 (vs := [1, 2, 3]) (vs1 := [3]) ok (fi_list (fe_op fr_ixT' fe_var fe_int)) (fg_tup (fg_cons fg_name (fg_cons fg_name fg_nil))) (by decide) (fi_tup fe_var) fg_name (by decide) fe_var)))
abbrev s_flows_of : Stmt := topS 31
theorem sc_flows_of : FnScope ["module"] ["module"] (defScope s_flows_of) := ⟨rfl, rfl, rfl, by decide +kernel, rfl, by decide +kernel, by decide +kernel⟩
def w_flows_of : WS := (wRet (wOp fCat (wTell (wListO (wCons (wOp fIxT (wVar 0) (wK (.int 1))) wNil))) (wCall 1 f_targets_of (wCons (wVar 0) wNil))))
def f_flows_of : W1 := wBody 0 w_flows_of
def sp_flows_of (K : PySem.W.Frag) : Sp := spD 1 f_flows_of K
theorem ok_flows_of {f : Addr} {fd : FuncData} (F : Fun K "flows_of" "flows_of" s_flows_of f fd) (m_list : mg "list" = none) {f_targets_of : Addr} {fd_targets_of : FuncData} (c_targets_of : Cal P w K mg base CX0 1 f_targets_of fd_targets_of "targets_of" ["module"] (sp_targets_of K)) : FnOk P w K mg base CX0 2 f fd ["module"] (sp_flows_of K) := by
  refine F.ok sc_flows_of (fun vs H Q E h => spD_len h) (fun cdv A outer s H vs Q E hr h => ?_)
  refine ⟨_, (pss_one (ps_ret (pe_op op_cat (pe_callTy call_list_of (by rfl) m_list (by decide +kernel) (pa_cons (pe_ix (r := rIxT K) ix_tup (pv 0) pe_int (fun _ _ => rfl)) pa_nil)) (pe_call c_targets_of.G (hr.mono (by decide)) (by rfl) c_targets_of.g c_targets_of.kp c_targets_of.b .nil pass0 (pa_cons (pv 0) pa_nil))))), ?_⟩
  refine body_D (m := 0) (W := w_flows_of) (fun N => ?_) h rfl
  have ok := @ctxP_ok K H N
  exact (fs_ret (fe_op (fr_cat ok) (fe_o (fo_list' ok (fa_cons (fe_op fr_ixT' fe_var fe_int) fa_nil))) (fe_callD ok (fa_cons fe_var fa_nil))))
abbrev s_outs_wrong : Stmt := topS 53
theorem sc_outs_wrong : FnScope ["module", "x", "targets"] ["module"] (defScope s_outs_wrong) := ⟨rfl, rfl, rfl, by decide +kernel, rfl, by decide +kernel, by decide +kernel⟩
def w_outs_wrong : WS := (wSeq (wAsg (wDc [] (wItL (wCall 1 f_targets_of (wCons (wVar 0) wNil))) (wName [] 1) (wVar 1) [1]) (wName [] 2))
  (wSeq (wFor (wItT (wOp fIxT (wVar 0) (wK (.int 2)))) (wName [] 1) (wIfS (wB (wOp (fInK true) (wVar 1) (wVar 2))) (wRet (wTup (wCons (wK (.str "out")) (wCons (wVar 1) wNil)))) wNext))
  (wRet (wK .none))))
def f_outs_wrong : W1 := wBody 2 w_outs_wrong
def sp_outs_wrong (K : PySem.W.Frag) : Sp := spD 1 f_outs_wrong K
theorem ok_outs_wrong {f : Addr} {fd : FuncData} (F : Fun K "_outs_wrong" "_outs_wrong" s_outs_wrong f fd) {f_targets_of : Addr} {fd_targets_of : FuncData} (c_targets_of : Cal P w K mg base CX0 1 f_targets_of fd_targets_of "targets_of" ["module"] (sp_targets_of K)) : FnOk P w K mg base CX0 2 f fd ["module"] (sp_outs_wrong K) := by
  refine F.ok sc_outs_wrong (fun vs H Q E h => spD_len h) (fun cdv A outer s H vs Q E hr h => ?_)
  refine ⟨_, (pss_cons (ps_setDc (i := 2) (own := [("x", 1)]) (g := gName 1) (by rfl) sc_outs_wrong.nd rfl rfl (sw_trueD rfl rfl rfl (by decide +kernel)) (pi_list (pe_call c_targets_of.G (hr.mono (by decide)) (by rfl) c_targets_of.g c_targets_of.kp c_targets_of.b .nil pass0 (pa_cons (pv 0) pa_nil))) (blkOk_by (N := ["module", "x", "targets"]) (sc := defScope s_outs_wrong) (by decide +kernel)) (fun _ _ _ _ _ => (pg_name (i := 1) sc_outs_wrong.nd rfl (Or.inl rfl))) (fun _ _ _ _ _ => pts_nil) (fun _ _ _ _ _ => (pv 1)) (fun _ _ _ _ _ => pe_bl))
        (pss_cons (ps_for PassesOwn.never rfl (pi_tup (pe_ix (r := rIxT K) ix_tup (pv 0) pe_int (fun _ _ => rfl))) (pg_name (i := 1) sc_outs_wrong.nd rfl (Or.inl rfl)) (pss_one (ps_if (pt_cmp (pc_dnotin (hu_of hr) (pv 1) (pv 2)) (by rfl)) (pss_one (ps_ret (pe_tup (pa_cons pe_str (pa_cons (pv 1) pa_nil))))) pss_nil)))
        (pss_one (ps_ret pe_non)))), ?_⟩
  refine body_D (m := 2) (W := w_outs_wrong) (fun N => ?_) h rfl
  have ok := @ctxP_ok K H N
  exact (fs_seq (fs_asg (fe_dc (vs := [1]) ok (fi_list (fe_callD ok (fa_cons fe_var fa_nil))) fg_name (by decide) fe_var) fg_name)
        (fs_seq (fs_for (fi_tup (fe_op fr_ixT' fe_var fe_int)) fg_name (fs_if (ft_b (fe_ninK fe_var fe_var)) (fs_ret (fe_tup ok (fa_cons fe_str (fa_cons fe_var fa_nil)))) fs_next))
        (fs_ret fe_non)))
end
end WK
namespace WD
open PySem PySem.Spec PyProof.Rows L2
variable {C : Ctx}
/-! ### what a name holds, forgotten -/
theorem at_put' {ρ : Env} {i j : Nat} {e : En} (hi : i < ρ.sl.length) : (ρ.put i e).at j = if j = i then e else ρ.at j := at_put hi
theorem Rep.forget {σ : L2.St} {ρ : Env} {N : Addr → Prop} {H : Hp} (r : Rep C σ ρ N H) (i : Nat) : Rep C σ (ρ.put i .un) N H ∧ Fr C σ ρ N σ (ρ.put i .un) N H H := by
  by_cases hi : i < ρ.sl.length
  · have un : ∀ j {e : En}, (ρ.put i .un).at j = e → e ≠ .un → ρ.at j = e := fun j e h ne => by
      rw [at_put hi] at h
      by_cases z : j = i
      · rw [if_pos z] at h; exact absurd h.symm ne
      · rw [if_neg z] at h; exact h
    have r2 : Rep C σ (ρ.put i .un) N H := {
      len := by show σ.length = (ρ.sl.set i .un).length; rw [List.length_set]; exact r.len
      dat := fun j d e => r.dat j d (un j e (fun z => nomatch z))
      own := fun j ds e => r.own j ds (un j e (fun z => nomatch z))
      sep := fun j k ds es a ne e1 e2 => r.sep j k ds es a ne (un j e1 (fun z => nomatch z)) (un k e2 (fun z => nomatch z))
      fix := fun p hp => by
        obtain ⟨g1, g2⟩ := r.fix p hp
        refine ⟨g1, ?_⟩
        rw [at_put hi]
        by_cases z : p = i
        · rw [if_pos z]
        · rw [if_neg z]; exact g2
      old := r.old
      new := r.new
      has := r.has
      mh := r.mh
      j := r.j }
    refine ⟨r2, ⟨fun _ _ h _ _ => h, fun b h => ⟨(r2.ownA h).1, .inl ?_⟩, fun _ h => h, fun _ h => .inl h⟩⟩
    obtain ⟨j, ds, e, q⟩ := h
    exact ⟨j, ds, un j e (fun z => nomatch z), q⟩
  · have e : ρ.put i .un = ρ := by
      unfold Env.put
      rw [List.set_eq_of_length_le (by omega)]
    rw [e]
    exact ⟨r, r.fr⟩
def forgot : List Nat → Env → Env
  | [], ρ => ρ
  | i :: js, ρ => forgot js (ρ.put i .un)
theorem Rep.forgets {σ : L2.St} {N : Addr → Prop} {H : Hp} : ∀ (js : List Nat) {ρ : Env}, Rep C σ ρ N H → Rep C σ (forgot js ρ) N H ∧ Fr C σ ρ N σ (forgot js ρ) N H H
  | [], _, r => ⟨r, r.fr⟩
  | i :: js, _, r => by
    obtain ⟨r1, f1⟩ := r.forget i
    obtain ⟨r2, f2⟩ := r1.forgets js
    exact ⟨r2, f1.trans f2⟩
def wForget (js : List Nat) (W : WS) : WS := fun ρ P => W (forgot js ρ) P
theorem fs_forget {t : TS} {W : WS} (js : List Nat) (h : FS C t W) : FS C t (wForget js W) := fun D σ H ρ N P r w k => by
  obtain ⟨r1, f1⟩ := r.forgets js
  exact h D σ H _ N P r1 w (k.step (fun _ h => h) f1)
end WD
namespace WK
open PySem PySem.Spec PyProof.Rows L2 WD
def fs_OWN_FORMS : List (Str × W1) := [("num", f_num_by_form), ("truth", f_truth_by_form), ("flow", f_flow_by_form), ("then", f_then_by_form), ("when", f_when_by_form), ("merge", f_flow_by_form), ("beats", f_beats_by_form), ("call", f_call_by_form)]
section
variable {P : Program} {w : World} {K : PySem.W.Frag} {mg : Str → Option Value} {base : Heap}
abbrev s_own_parts : Stmt := topS 36
theorem sc_own_parts : FnScope ["e", "word", "known", "own_form", "spot"] ["e", "word", "known"] (defScope s_own_parts) := ⟨rfl, rfl, rfl, by decide +kernel, rfl, by decide +kernel, by decide +kernel⟩
def w_own_parts : WS := (wSeq (wIfS (wB (wOp fNe (wTabGet kvs_SIZES (wVar 1)) (wCB fLen (wCons (wVar 0) wNil)))) (wRet (wK .none)) wNext)
  (wForm [] fs_OWN_FORMS 3 (wVar 1) (wVar 0) (wRet (wK .none))
  (wSeq (wIfS (wB (wOp fEq (wVar 1) (wK (.str "call")))) (wRet (wOp fIxT (wVar 0) (wK (.int 2)))) wNext)
  (wSeq (wIfS (wAnd (wB (wInTab false kvs_NAME_SPOTS (wVar 1))) (wB (wOp (fInK true) (wOp fIxT (wVar 0) (wIxTab kvs_NAME_SPOTS (wVar 1))) (wVar 2)))) (wRet (wK .none)) wNext)
  (wRet (wTell (wLc [] (wItT (wTabGet2 kvs_PART_SPOTS (wVar 1) (wTup wNil))) (wName [] 4) wYes (wOp fIxT (wVar 0) (wVar 4)) [4])))))))
def f_own_parts : W1 := wBody 2 w_own_parts
def sp_own_parts (K : PySem.W.Frag) : Sp := spD 3 f_own_parts K
theorem ok_own_parts {f : Addr} {fd : FuncData} (F : Fun K "_own_parts" "_own_parts" s_own_parts f fd) (m_len : mg "len" = none) {p_NAME_SPOTS : Addr} (t_NAME_SPOTS : TabD K w mg "NAME_SPOTS" p_NAME_SPOTS kvs_NAME_SPOTS) {p_PART_SPOTS : Addr} (t_PART_SPOTS : TabD K w mg "PART_SPOTS" p_PART_SPOTS kvs_PART_SPOTS) {p_SIZES : Addr} (t_SIZES : TabD K w mg "SIZES" p_SIZES kvs_SIZES) {p_OWN_FORMS : Addr} (ft_OWN_FORMS : FTabD P w K mg base 4 "OWN_FORMS" p_OWN_FORMS fs_OWN_FORMS) : FnOk P w K mg base CX0 5 f fd ["e", "word", "known"] (sp_own_parts K) := by
  refine F.ok sc_own_parts (fun vs H Q E h => spD_len h) (fun cdv A outer s H vs Q E hr h => ?_)
  refine ⟨_, (pss_cons (ps_if (pt_cmpR op_ne (pe_kget1 t_SIZES.D.choose_spec.choose_spec (pe_glob (v := .ref p_SIZES) (by rfl) t_SIZES.g rfl) (pv 1) ⟨rfl, rfl, rfl, rfl⟩) (pe_callB call_len_seq (by rfl) m_len PySem.boot_len (pa_cons (pv 0) pa_nil)) (nomark _)) (pss_one (ps_ret pe_non)) pss_nil)
        (pss_cons (ps_set (i := 3) sc_own_parts.nd rfl (Or.inl rfl) (pe_ix (L2.ix_kdict) (pe_glob (v := .ref p_OWN_FORMS) (by rfl) ft_OWN_FORMS.g rfl) (pv 1) (fun _ _ => rfl)))
        (pss_cons (ps_if (pt_not (pt_val (pe_callA (i := 3) ft_OWN_FORMS.S.choose_spec.2 (hr.mono (by decide)) rfl (Or.inl rfl) (pa_cons (pv 0) pa_nil)))) (pss_one (ps_ret pe_non)) pss_nil)
        (pss_cons (ps_if (pt_cmpR op_eq (pv 1) pe_str (nomark _)) (pss_one (ps_ret (pe_ix (r := rIxT K) ix_tup (pv 0) pe_int (fun _ _ => rfl)))) pss_nil)
        (pss_cons (ps_if (PW.pt (pw_and (pt_cmpR (op_in_kd t_NAME_SPOTS.D.choose_spec.choose_spec) (pv 1) (pe_glob (v := .ref p_NAME_SPOTS) (by rfl) t_NAME_SPOTS.g rfl) (by rfl)) (pw_and1 (pt_cmp (pc_dnotin (hu_of hr) (pe_ix (r := rIxT K) ix_tup (pv 0) (pe_ix (L2.ix_kdict) (pe_glob (v := .ref p_NAME_SPOTS) (by rfl) t_NAME_SPOTS.g rfl) (pv 1) (fun _ _ => rfl)) (fun _ _ => rfl)) (pv 2)) (by rfl))))) (pss_one (ps_ret pe_non)) pss_nil)
        (pss_one (ps_ret (pe_lc (own := [("spot", 4)]) (g := gName 4) (by rfl) sc_own_parts.nd (pi_tup (pe_kget2 t_PART_SPOTS.D.choose_spec.choose_spec (pe_glob (v := .ref p_PART_SPOTS) (by rfl) t_PART_SPOTS.g rfl) (pv 1) (pe_tup pa_nil) ⟨rfl, rfl, rfl, rfl⟩)) (blkOk_by (N := ["e", "word", "known", "own_form", "spot"]) (sc := defScope s_own_parts) (by decide +kernel)) (fun _ _ _ _ _ => (pg_name (i := 4) sc_own_parts.nd rfl (Or.inl rfl))) (fun _ _ _ _ _ => pts_nil) (fun _ _ _ _ _ => (pe_ix (r := rIxT K) ix_tup (pv 0) (pv 4) (fun _ _ => rfl))))))))))), ?_⟩
  refine body_D (m := 2) (W := w_own_parts) (fun N => ?_) h rfl
  have ok := @ctxP_ok K H N
  exact (fs_seq (fs_if (ft_test (fe_op fr_ne (fe_tabGet t_SIZES.T fe_var) (fe_cb fc_len (fa_cons fe_var fa_nil)))) (fs_ret fe_non) fs_next)
        (fs_form ok ft_OWN_FORMS.D.choose_spec.choose_spec ft_OWN_FORMS.S.choose_spec.1 fe_var fe_var (fs_ret fe_non) (fs_seq (fs_if (ft_test (fe_op fr_eq fe_var fe_str)) (fs_ret (fe_op fr_ixT' fe_var fe_int)) fs_next)
        (fs_seq (fs_if (ft_and (ft_test (fe_inTab t_NAME_SPOTS.T fe_var)) (ft_b (fe_ninK (fe_op fr_ixT' fe_var (fe_ixTab t_NAME_SPOTS.D.choose_spec.choose_spec t_NAME_SPOTS.T fe_var)) fe_var))) (fs_ret fe_non) fs_next)
        (fs_ret (fe_o (fo_lc (vs := [4]) ok (fi_tup (fe_tabGet2 t_PART_SPOTS.T fe_var (fe_tup ok fa_nil))) fg_name (by decide) ft_yes (fe_op fr_ixT' fe_var fe_var))))))))
abbrev s_all_parts : Stmt := topS 37
theorem sc_all_parts : FnScope ["level", "known", "may_call", "parts", "e", "word", "own"] ["level", "known", "may_call"] (defScope s_all_parts) := ⟨rfl, rfl, rfl, by decide +kernel, rfl, by decide +kernel, by decide +kernel⟩
def w_all_parts : WS := (wSeq (wOwn [] 3 (wLstO wNil))
  (wSeq (wFor (wItL (wVar 0)) (wName [] 4) (wSeq (wIfS (wOr (wNot (wB (wIsi isTup (wVar 4)))) (wOr (wNot (wTru (wVar 4))) (wNot (wB (wIsi isStr (wOp fIxT (wVar 4) (wK (.int 0)))))))) (wRet (wK .none)) wNext)
  (wSeq (wAsg (wOp fIxT (wVar 4) (wK (.int 0))) (wName [] 5))
  (wIfS (wB (wOp fEq (wVar 5) (wK (.str "flow")))) (wIfS (wOr (wB (wOp fNe (wCB fLen (wCons (wVar 4) wNil)) (wK (.int 2)))) (wOr (wNot (wB (wIsi isStr (wOp fIxT (wVar 4) (wK (.int 1)))))) (wB (wOp (fInK true) (wOp fIxT (wVar 4) (wK (.int 1))) (wVar 1))))) (wRet (wK .none)) wNext) (wIfS (wB (wInTab false kvs_ALL_PARTS (wVar 5))) (wSeq (wIfS (wB (wOp fNe (wCB fLen (wCons (wVar 4) wNil)) (wIxTab kvs_ALL_PARTS (wVar 5)))) (wRet (wK .none)) wNext)
  (wDrop (wExtendT 3 (wSlT (wVar 4) (wPart (wK (.int 1))) wNoP)))) (wSeq (wAsg (wIfE (wAnd (wB (wOp fEq (wVar 5) (wK (.str "call")))) (wNot (wB (wVar 2)))) (wK .none) (wCall 3 f_own_parts (wCons (wVar 4) (wCons (wVar 5) (wCons (wVar 1) wNil))))) (wName [] 6))
  (wSeq (wIfS (wB (wOp (fIsN false) (wVar 6) (wK .none))) (wRet (wK .none)) wNext)
  (wDrop (wExtend 3 (wVar 6))))))))))
  (wRet (wVar 3))))
def f_all_parts : W1 := wBody 4 w_all_parts
def sp_all_parts (K : PySem.W.Frag) : Sp := spD 3 f_all_parts K
theorem ok_all_parts {f : Addr} {fd : FuncData} (F : Fun K "_all_parts" "_all_parts" s_all_parts f fd) (m_isinstance : mg "isinstance" = none) (m_len : mg "len" = none) (m_str : mg "str" = none) (m_tuple : mg "tuple" = none) {f_own_parts : Addr} {fd_own_parts : FuncData} (c_own_parts : Cal P w K mg base CX0 5 f_own_parts fd_own_parts "_own_parts" ["e", "word", "known"] (sp_own_parts K)) {p_ALL_PARTS : Addr} (t_ALL_PARTS : TabD K w mg "ALL_PARTS" p_ALL_PARTS kvs_ALL_PARTS) : FnOk P w K mg base CX0 6 f fd ["level", "known", "may_call"] (sp_all_parts K) := by
  refine F.ok sc_all_parts (fun vs H Q E h => spD_len h) (fun cdv A outer s H vs Q E hr h => ?_)
  refine ⟨_, (pss_cons (ps_set (i := 3) sc_all_parts.nd rfl (Or.inl rfl) (pe_lst pa_nil))
        (pss_cons (ps_for PassesOwn.never rfl (pi_list (pv 0)) (pg_name (i := 4) sc_all_parts.nd rfl (Or.inl rfl)) (pss_cons (ps_if (PW.pt (pw_or (pt_not (pt_val (pe_callB call_isi (by rfl) m_isinstance (by decide +kernel) (pa_cons (pv 4) (pa_cons (pe_bltn (v := .ty "tuple") (by rfl) m_tuple (by decide +kernel) rfl) pa_nil))))) (pw_or (pt_not (pt_truth (pv 4) (by intro _; rfl))) (pw_or1 (pt_not (pt_val (pe_callB call_isi (by rfl) m_isinstance (by decide +kernel) (pa_cons (pe_ix (r := rIxT K) ix_tup (pv 4) pe_int (fun _ _ => rfl)) (pa_cons (pe_bltn (v := .ty "str") (by rfl) m_str (by decide +kernel) rfl) pa_nil))))))))) (pss_one (ps_ret pe_non)) pss_nil)
        (pss_cons (ps_set (i := 5) sc_all_parts.nd rfl (Or.inl rfl) (pe_ix (r := rIxT K) ix_tup (pv 4) pe_int (fun _ _ => rfl)))
        (pss_one (ps_if (pt_cmpR op_eq (pv 5) pe_str (nomark _)) (pss_one (ps_if (PW.pt (pw_or (pt_cmpR op_ne (pe_callB call_len_seq (by rfl) m_len PySem.boot_len (pa_cons (pv 4) pa_nil)) pe_int (nomark _)) (pw_or (pt_not (pt_val (pe_callB call_isi (by rfl) m_isinstance (by decide +kernel) (pa_cons (pe_ix (r := rIxT K) ix_tup (pv 4) pe_int (fun _ _ => rfl)) (pa_cons (pe_bltn (v := .ty "str") (by rfl) m_str (by decide +kernel) rfl) pa_nil))))) (pw_or1 (pt_cmp (pc_dnotin (hu_of hr) (pe_ix (r := rIxT K) ix_tup (pv 4) pe_int (fun _ _ => rfl)) (pv 1)) (by rfl)))))) (pss_one (ps_ret pe_non)) pss_nil)) (pss_one (ps_if (pt_cmpR (op_in_kd t_ALL_PARTS.D.choose_spec.choose_spec) (pv 5) (pe_glob (v := .ref p_ALL_PARTS) (by rfl) t_ALL_PARTS.g rfl) (by rfl)) (pss_cons (ps_if (pt_cmpR op_ne (pe_callB call_len_seq (by rfl) m_len PySem.boot_len (pa_cons (pv 4) pa_nil)) (pe_ix (L2.ix_kdict) (pe_glob (v := .ref p_ALL_PARTS) (by rfl) t_ALL_PARTS.g rfl) (pv 5) (fun _ _ => rfl)) (nomark _)) (pss_one (ps_ret pe_non)) pss_nil)
        (pss_one (ps_expr (pe_bm PySem.F.plainAttrs_list PySem.F.slot_list_extend PySem.F.type_list_extend mt_extendT (pv 3) (pa_cons (pe_slice sl_tupA (pv 4) (po_some pe_int) po_none) pa_nil))))) (pss_cons (ps_set (i := 6) sc_all_parts.nd rfl (Or.inl rfl) (pe_ifExp (PW.pt (pw_and (pt_cmpR op_eq (pv 5) pe_str (nomark _)) (pw_and1 (pt_not (pt_val (pv 2)))))) pe_non (pe_call c_own_parts.G (hr.mono (by decide)) (by rfl) c_own_parts.g c_own_parts.kp c_own_parts.b .nil pass0 (pa_cons (pv 4) (pa_cons (pv 5) (pa_cons (pv 1) pa_nil))))))
        (pss_cons (ps_if (pt_cmpR op_isN (pv 6) pe_non (nomark _)) (pss_one (ps_ret pe_non)) pss_nil)
        (pss_one (ps_expr (pe_bm PySem.F.plainAttrs_list PySem.F.slot_list_extend PySem.F.type_list_extend mt_extend (pv 3) (pa_cons (pv 6) pa_nil)))))))))))))
        (pss_one (ps_ret (pv 3))))), ?_⟩
  refine body_D (m := 4) (W := w_all_parts) (fun N => ?_) h rfl
  have ok := @ctxP_ok K H N
  exact (fs_seq (fs_own' (fo_lst' ok fa_nil))
        (fs_seq (fs_for (fi_list fe_var) fg_name (fs_seq (fs_if (ft_or (ft_not (ft_b (fe_isi kTup fe_var))) (ft_or (ft_not (ft_tru fe_var)) (ft_not (ft_b (fe_isi kStr (fe_op fr_ixT' fe_var fe_int)))))) (fs_ret fe_non) fs_next)
        (fs_seq (fs_asg (fe_op fr_ixT' fe_var fe_int) fg_name)
        (fs_if (ft_test (fe_op fr_eq fe_var fe_str)) (fs_if (ft_or (ft_test (fe_op fr_ne (fe_cb fc_len (fa_cons fe_var fa_nil)) fe_int)) (ft_or (ft_not (ft_b (fe_isi kStr (fe_op fr_ixT' fe_var fe_int)))) (ft_b (fe_ninK (fe_op fr_ixT' fe_var fe_int) fe_var)))) (fs_ret fe_non) fs_next) (fs_if (ft_test (fe_inTab t_ALL_PARTS.T fe_var)) (fs_seq (fs_if (ft_test (fe_op fr_ne (fe_cb fc_len (fa_cons fe_var fa_nil)) (fe_ixTab t_ALL_PARTS.D.choose_spec.choose_spec t_ALL_PARTS.T fe_var))) (fs_ret fe_non) fs_next)
        (fs_drop (fe_extendT ok (fe_slT ok fe_var (fp_some fe_int) fp_none)))) (fs_seq (fs_asg (fe_if (ft_and (ft_test (fe_op fr_eq fe_var fe_str)) (ft_not (ft_b fe_var))) fe_non (fe_callD ok (fa_cons fe_var (fa_cons fe_var (fa_cons fe_var fa_nil))))) fg_name)
        (fs_seq (fs_if (ft_test (fe_op fr_isN fe_var fe_non)) (fs_ret fe_non) fs_next)
        (fs_drop (fe_extend ok fe_var)))))))))
        (fs_ret fe_var)))
abbrev s_many_fitting : Stmt := topS 38
theorem sc_many_fitting : FnScope ["rows", "known", "targets", "whole", "level", "many", "within", "_"] ["rows", "known"] (defScope s_many_fitting) := ⟨rfl, rfl, rfl, by decide +kernel, rfl, by decide +kernel, by decide +kernel⟩
def w_many_fitting : WS := (wSeq (wFor (wItL (wVar 0)) (wgTup 2 (wgCons (wName [] 2) (wgCons (wName [] 3) wgNil))) (wIfS (wAnd (wB (wOp (f2I fun i j => .bool (decide (j < i))) (wCB fLen (wCons (wVar 2) wNil)) (wK (.int 1)))) (wNot (wAnd (wB (wIsi isTup (wVar 3))) (wAnd (wTru (wVar 3)) (wB (wOp fEq (wOp fIxT (wVar 3) (wK (.int 0))) (wK (.str "call")))))))) (wRet (wK .none)) wNext))
  (wSeq (wForget [3] (wAsg (wTell (wLc [] (wItL (wVar 0)) (wgTup 2 (wgCons (wName [] 7) (wgCons (wName [] 3) wgNil))) wYes (wVar 3) [7, 3])) (wName [] 4)))
  (wSeq (wAsg (wK (.int 0)) (wName [] 5))
  (wSeq (wAsg (wK (.int 0)) (wName [] 6))
  (wSeq (wWhile (wTru (wVar 4)) (wSeq (wAug (fun i j => i + j) 5 [] (wCB fLen (wCons (wVar 4) wNil)))
  (wSeq (wAug (fun i j => i + j) 6 [] (wK (.int 1)))
  (wSeq (wIfS (wOr (wB (wOp (f2I fun i j => .bool (decide (j < i))) (wVar 6) (wK (.int 8)))) (wB (wOp (f2I fun i j => .bool (decide (j < i))) (wVar 5) (wK (.int 200))))) (wRet (wK .none)) wNext)
  (wSeq (wAsg (wCall 3 f_all_parts (wCons (wVar 4) (wCons (wVar 1) (wCons (wOp fEq (wVar 6) (wK (.int 1))) wNil)))) (wName [] 4))
  (wIfS (wB (wOp (fIsN false) (wVar 4) (wK .none))) (wRet (wK .none)) wNext))))))
  (wRet (wVar 5)))))))
def f_many_fitting : W1 := wBody 6 w_many_fitting
def sp_many_fitting (K : PySem.W.Frag) : Sp := spD 2 f_many_fitting K
theorem ok_many_fitting {f : Addr} {fd : FuncData} (F : Fun K "many_fitting" "many_fitting" s_many_fitting f fd) (m_isinstance : mg "isinstance" = none) (m_len : mg "len" = none) (m_tuple : mg "tuple" = none) (g_MOST_EXPRESSIONS : ∃ t, mg "MOST_EXPRESSIONS" = some (.int 200 t)) (g_MOST_WITHIN : ∃ t, mg "MOST_WITHIN" = some (.int 8 t)) {f_all_parts : Addr} {fd_all_parts : FuncData} (c_all_parts : Cal P w K mg base CX0 6 f_all_parts fd_all_parts "_all_parts" ["level", "known", "may_call"] (sp_all_parts K)) : FnOk P w K mg base CX0 7 f fd ["rows", "known"] (sp_many_fitting K) := by
  refine F.ok sc_many_fitting (fun vs H Q E h => spD_len h) (fun cdv A outer s H vs Q E hr h => ?_)
  refine ⟨_, (pss_cons (ps_for PassesOwn.never rfl (pi_list (pv 0)) (pg_tup (by rfl) (pgs_cons (pg_name (i := 2) sc_many_fitting.nd rfl (Or.inl rfl)) (pgs_cons (pg_name (i := 3) sc_many_fitting.nd rfl (Or.inl rfl)) pgs_nil))) (pss_one (ps_if (PW.pt (pw_and (pt_cmpR op_gt (pe_callB call_len_seq (by rfl) m_len PySem.boot_len (pa_cons (pv 2) pa_nil)) pe_int (nomark _)) (pw_and1 (pt_not (PW.pt (pw_and (pt_val (pe_callB call_isi (by rfl) m_isinstance (by decide +kernel) (pa_cons (pv 3) (pa_cons (pe_bltn (v := .ty "tuple") (by rfl) m_tuple (by decide +kernel) rfl) pa_nil)))) (pw_and (pt_truth (pv 3) (by intro _; rfl)) (pw_and1 (pt_cmpR op_eq (pe_ix (r := rIxT K) ix_tup (pv 3) pe_int (fun _ _ => rfl)) pe_str (nomark _)))))))))) (pss_one (ps_ret pe_non)) pss_nil)))
        (pss_cons (ps_setLc (i := 4) (own := [("_", 7), ("whole", 3)]) (g := gTup K 2 (gCons (gName 7) (gCons (gName 3) gNil))) (by rfl) sc_many_fitting.nd rfl rfl (sw_true rfl rfl rfl (by decide +kernel)) (pi_list (pv 0)) (blkOk_by (N := ["rows", "known", "targets", "whole", "level", "many", "within", "_"]) (sc := defScope s_many_fitting) (by decide +kernel)) (fun _ _ _ _ _ => (pg_tup (by rfl) (pgs_cons (pg_name (i := 7) sc_many_fitting.nd rfl (Or.inl rfl)) (pgs_cons (pg_name (i := 3) sc_many_fitting.nd rfl (Or.inl rfl)) pgs_nil)))) (fun _ _ _ _ _ => pts_nil) (fun _ _ _ _ _ => (pv 3)))
        (pss_cons (ps_set (i := 5) sc_many_fitting.nd rfl (Or.inl rfl) pe_int)
        (pss_cons (ps_set (i := 6) sc_many_fitting.nd rfl (Or.inl rfl) pe_int)
        (pss_cons (ps_while PassesOwn.never (pt_truth (pv 4) (by intro _; rfl)) (pss_cons (ps_aug (i := 5) sc_many_fitting.nd rfl (Or.inl rfl) (pe_callB call_len_seq (by rfl) m_len PySem.boot_len (pa_cons (pv 4) pa_nil)) ip_add)
        (pss_cons (ps_aug (i := 6) sc_many_fitting.nd rfl (Or.inl rfl) pe_int ip_add)
        (pss_cons (ps_if (PW.pt (pw_or (pt_cmpR op_gt (pv 6) (pe_glob (v := .int 8) (by rfl) g_MOST_WITHIN.choose_spec ⟨_, rfl⟩) (nomark _)) (pw_or1 (pt_cmpR op_gt (pv 5) (pe_glob (v := .int 200) (by rfl) g_MOST_EXPRESSIONS.choose_spec ⟨_, rfl⟩) (nomark _))))) (pss_one (ps_ret pe_non)) pss_nil)
        (pss_cons (ps_set (i := 4) sc_many_fitting.nd rfl (Or.inl rfl) (pe_call c_all_parts.G (hr.mono (by decide)) (by rfl) c_all_parts.g c_all_parts.kp c_all_parts.b .nil pass0 (pa_cons (pv 4) (pa_cons (pv 1) (pa_cons (pe_cmpR op_eq (pv 6) pe_int (nomark _)) pa_nil)))))
        (pss_one (ps_if (pt_cmpR op_isN (pv 4) pe_non (nomark _)) (pss_one (ps_ret pe_non)) pss_nil)))))))
        (pss_one (ps_ret (pv 5)))))))), ?_⟩
  refine body_D (m := 6) (W := w_many_fitting) (fun N => ?_) h rfl
  have ok := @ctxP_ok K H N
  exact (fs_seq (fs_for (fi_list fe_var) (fg_tup (fg_cons fg_name (fg_cons fg_name fg_nil))) (fs_if (ft_and (ft_test (fe_op fr_gt (fe_cb fc_len (fa_cons fe_var fa_nil)) fe_int)) (ft_not (ft_and (ft_b (fe_isi kTup fe_var)) (ft_and (ft_tru fe_var) (ft_test (fe_op fr_eq (fe_op fr_ixT' fe_var fe_int) fe_str)))))) (fs_ret fe_non) fs_next))
        (fs_seq (fs_forget [3] (fs_asg (fe_o (fo_lc (vs := [7, 3]) ok (fi_list fe_var) (fg_tup (fg_cons fg_name (fg_cons fg_name fg_nil))) (by decide) ft_yes fe_var)) fg_name))
        (fs_seq (fs_asg fe_int fg_name)
        (fs_seq (fs_asg fe_int fg_name)
        (fs_seq (fs_while (ft_tru fe_var) (fs_seq (fs_aug (fe_cb fc_len (fa_cons fe_var fa_nil)))
        (fs_seq (fs_aug fe_int)
        (fs_seq (fs_if (ft_or (ft_test (fe_op fr_gt fe_var fe_int)) (ft_test (fe_op fr_gt fe_var fe_int))) (fs_ret fe_non) fs_next)
        (fs_seq (fs_asg (fe_callD ok (fa_cons fe_var (fa_cons fe_var (fa_cons (fe_op fr_eq fe_var fe_int) fa_nil)))) fg_name)
        (fs_if (ft_test (fe_op fr_isN fe_var fe_non)) (fs_ret fe_non) fs_next))))))
        (fs_ret fe_var))))))
end
end WK
namespace WK
open PySem PySem.Spec PyProof.Rows L2 WD
section
variable {P : Program} {w : World} {K : PySem.W.Frag} {mg : Str → Option Value} {base : Heap}
abbrev s_are_doors : Stmt := topS 43
theorem sc_are_doors : FnScope ["names", "x"] ["names"] (defScope s_are_doors) := ⟨rfl, rfl, rfl, by decide +kernel, rfl, by decide +kernel, by decide +kernel⟩
def w_are_doors : WS := (wSeq (wIfS (wOr (wB (wOp (f2I fun i j => .bool (decide (j < i))) (wCB fLen (wCons (wVar 0) wNil)) (wK (.int 8)))) (wNot (wTru (wCB fAll (wCons (wTell (wLc [] (wItT (wVar 0)) (wName [] 1) wYes (wCall 1 f_is_name (wCons (wVar 1) wNil)) [1])) wNil))))) (wRet (wK (.bool false))) wNext)
  (wRet (wOp fEq (wLenU (wVar 0)) (wCB fLen (wCons (wVar 0) wNil)))))
def f_are_doors : W1 := wBody 1 w_are_doors
def sp_are_doors (K : PySem.W.Frag) : Sp := spD 1 f_are_doors K
theorem ok_are_doors {f : Addr} {fd : FuncData} (F : Fun K "_are_doors" "_are_doors" s_are_doors f fd) (m_all : mg "all" = none) (m_len : mg "len" = none) (m_set : mg "set" = none) (g_MOST_DOORS : ∃ t, mg "MOST_DOORS" = some (.int 8 t)) {f_is_name : Addr} {fd_is_name : FuncData} (c_is_name : Cal P w K mg base CX0 1 f_is_name fd_is_name "is_name" ["thing"] (sp_is_name K)) : FnOk P w K mg base CX0 3 f fd ["names"] (sp_are_doors K) := by
  refine F.ok sc_are_doors (fun vs H Q E h => spD_len h) (fun cdv A outer s H vs Q E hr h => ?_)
  refine ⟨_, (pss_cons (ps_if (PW.pt (pw_or (pt_cmpR op_gt (pe_callB call_len_seq (by rfl) m_len PySem.boot_len (pa_cons (pv 0) pa_nil)) (pe_glob (v := .int 8) (by rfl) g_MOST_DOORS.choose_spec ⟨_, rfl⟩) (nomark _)) (pw_or1 (pt_not (pt_truth (pe_callB (cr_all rfl) (by rfl) m_all (by decide +kernel) (pa_cons (pe_lc (own := [("x", 1)]) (g := gName 1) (by rfl) sc_are_doors.nd (pi_tup (pv 0)) (blkOk_by (N := ["names", "x"]) (sc := defScope s_are_doors) (by decide +kernel)) (fun _ _ _ _ _ => (pg_name (i := 1) sc_are_doors.nd rfl (Or.inl rfl))) (fun _ _ _ _ _ => pts_nil) (fun _ _ _ _ _ => (pe_call c_is_name.G (hr.mono (by decide)) (by rfl) c_is_name.g c_is_name.kp c_is_name.b .nil pass0 (pa_cons (pv 1) pa_nil)))) pa_nil)) (by intro _; rfl)))))) (pss_one (ps_ret pe_bl)) pss_nil)
        (pss_one (ps_ret (pe_cmpR op_eq (pe_lenU (by rfl) (by rfl) m_len (by rfl) m_set (pv 0)) (pe_callB call_len_seq (by rfl) m_len PySem.boot_len (pa_cons (pv 0) pa_nil)) (nomark _))))), ?_⟩
  refine body_D (m := 1) (W := w_are_doors) (fun N => ?_) h rfl
  have ok := @ctxP_ok K H N
  exact (fs_seq (fs_if (ft_or (ft_test (fe_op fr_gt (fe_cb fc_len (fa_cons fe_var fa_nil)) fe_int)) (ft_not (ft_tru (fe_cb fc_all (fa_cons (fe_o (fo_lc (vs := [1]) ok (fi_tup fe_var) fg_name (by decide) ft_yes (fe_callD ok (fa_cons fe_var fa_nil)))) fa_nil))))) (fs_ret fe_bl) fs_next)
        (fs_ret (fe_op fr_eq (fe_lenU fe_var) (fe_cb fc_len (fa_cons fe_var fa_nil)))))
end
end WK
namespace WK
open PySem PySem.Spec PyProof.Rows L2 WD
section
variable {P : Program} {w : World} {K : PySem.W.Frag} {mg : Str → Option Value} {base : Heap}
abbrev s_head_wrong : Stmt := topS 44
theorem sc_head_wrong : FnScope ["thing", "name", "ins", "outs", "_"] ["thing"] (defScope s_head_wrong) := ⟨rfl, rfl, rfl, by decide +kernel, rfl, by decide +kernel, by decide +kernel⟩
def w_head_wrong : WS := (wSeq (wAsg (wVar 0) (wgTup 4 (wgCons (wName [] 1) (wgCons (wName [] 2) (wgCons (wName [] 3) (wgCons (wName [] 4) wgNil))))))
  (wSeq (wIfS (wNot (wB (wCall 1 f_is_name (wCons (wVar 1) wNil)))) (wRet (wTup (wCons (wK (.str "name")) wNil))) wNext)
  (wSeq (wIfS (wNot (wB (wCall 1 f_are_doors (wCons (wVar 2) wNil)))) (wRet (wTup (wCons (wK (.str "ins")) wNil))) wNext)
  (wSeq (wIfS (wOr (wNot (wTru (wVar 3))) (wNot (wB (wCall 1 f_are_doors (wCons (wVar 3) wNil))))) (wRet (wTup (wCons (wK (.str "outs")) wNil))) wNext)
  (wRet (wK .none))))))
def f_head_wrong : W1 := wBody 4 w_head_wrong
def sp_head_wrong (K : PySem.W.Frag) : Sp := spD 1 f_head_wrong K
theorem ok_head_wrong {f : Addr} {fd : FuncData} (F : Fun K "_head_wrong" "_head_wrong" s_head_wrong f fd) {f_is_name : Addr} {fd_is_name : FuncData} (c_is_name : Cal P w K mg base CX0 1 f_is_name fd_is_name "is_name" ["thing"] (sp_is_name K)) {f_are_doors : Addr} {fd_are_doors : FuncData} (c_are_doors : Cal P w K mg base CX0 3 f_are_doors fd_are_doors "_are_doors" ["names"] (sp_are_doors K)) : FnOk P w K mg base CX0 4 f fd ["thing"] (sp_head_wrong K) := by
  refine F.ok sc_head_wrong (fun vs H Q E h => spD_len h) (fun cdv A outer s H vs Q E hr h => ?_)
  refine ⟨_, (pss_cons (ps_asg (pv 0) (pg_tup (by rfl) (pgs_cons (pg_name (i := 1) sc_head_wrong.nd rfl (Or.inl rfl)) (pgs_cons (pg_name (i := 2) sc_head_wrong.nd rfl (Or.inl rfl)) (pgs_cons (pg_name (i := 3) sc_head_wrong.nd rfl (Or.inl rfl)) (pgs_cons (pg_name (i := 4) sc_head_wrong.nd rfl (Or.inl rfl)) pgs_nil))))))
        (pss_cons (ps_if (pt_not (pt_val (pe_call c_is_name.G (hr.mono (by decide)) (by rfl) c_is_name.g c_is_name.kp c_is_name.b .nil pass0 (pa_cons (pv 1) pa_nil)))) (pss_one (ps_ret (pe_tup (pa_cons pe_str pa_nil)))) pss_nil)
        (pss_cons (ps_if (pt_not (pt_val (pe_call c_are_doors.G (hr.mono (by decide)) (by rfl) c_are_doors.g c_are_doors.kp c_are_doors.b .nil pass0 (pa_cons (pv 2) pa_nil)))) (pss_one (ps_ret (pe_tup (pa_cons pe_str pa_nil)))) pss_nil)
        (pss_cons (ps_if (PW.pt (pw_or (pt_not (pt_truth (pv 3) (by intro _; rfl))) (pw_or1 (pt_not (pt_val (pe_call c_are_doors.G (hr.mono (by decide)) (by rfl) c_are_doors.g c_are_doors.kp c_are_doors.b .nil pass0 (pa_cons (pv 3) pa_nil))))))) (pss_one (ps_ret (pe_tup (pa_cons pe_str pa_nil)))) pss_nil)
        (pss_one (ps_ret pe_non)))))), ?_⟩
  refine body_D (m := 4) (W := w_head_wrong) (fun N => ?_) h rfl
  have ok := @ctxP_ok K H N
  exact (fs_seq (fs_asg fe_var (fg_tup (fg_cons fg_name (fg_cons fg_name (fg_cons fg_name (fg_cons fg_name fg_nil))))))
        (fs_seq (fs_if (ft_not (ft_b (fe_callD ok (fa_cons fe_var fa_nil)))) (fs_ret (fe_tup ok (fa_cons fe_str fa_nil))) fs_next)
        (fs_seq (fs_if (ft_not (ft_b (fe_callD ok (fa_cons fe_var fa_nil)))) (fs_ret (fe_tup ok (fa_cons fe_str fa_nil))) fs_next)
        (fs_seq (fs_if (ft_or (ft_not (ft_tru fe_var)) (ft_not (ft_b (fe_callD ok (fa_cons fe_var fa_nil))))) (fs_ret (fe_tup ok (fa_cons fe_str fa_nil))) fs_next)
        (fs_ret fe_non)))))
abbrev s_outer_wrong : Stmt := topS 47
theorem sc_outer_wrong : FnScope ["thing"] ["thing"] (defScope s_outer_wrong) := ⟨rfl, rfl, rfl, by decide +kernel, rfl, by decide +kernel, by decide +kernel⟩
def w_outer_wrong : WS := (wRet (wOrT (wCall 1 f_frame_wrong (wCons (wVar 0) wNil)) (wOrT (wCall 1 f_head_wrong (wCons (wVar 0) wNil)) (wCall 1 f_rows_wrong (wCons (wOp fIxT (wVar 0) (wK (.int 3))) wNil)))))
def f_outer_wrong : W1 := wBody 0 w_outer_wrong
def sp_outer_wrong (K : PySem.W.Frag) : Sp := spD 1 f_outer_wrong K
theorem ok_outer_wrong {f : Addr} {fd : FuncData} (F : Fun K "outer_wrong" "outer_wrong" s_outer_wrong f fd) {f_frame_wrong : Addr} {fd_frame_wrong : FuncData} (c_frame_wrong : Cal P w K mg base CX0 1 f_frame_wrong fd_frame_wrong "_frame_wrong" ["thing"] (sp_frame_wrong K)) {f_head_wrong : Addr} {fd_head_wrong : FuncData} (c_head_wrong : Cal P w K mg base CX0 4 f_head_wrong fd_head_wrong "_head_wrong" ["thing"] (sp_head_wrong K)) {f_rows_wrong : Addr} {fd_rows_wrong : FuncData} (c_rows_wrong : Cal P w K mg base CX0 3 f_rows_wrong fd_rows_wrong "_rows_wrong" ["rows"] (sp_rows_wrong K)) : FnOk P w K mg base CX0 5 f fd ["thing"] (sp_outer_wrong K) := by
  refine F.ok sc_outer_wrong (fun vs H Q E h => spD_len h) (fun cdv A outer s H vs Q E hr h => ?_)
  refine ⟨_, (pss_one (ps_ret (pe_orT (pe_call c_frame_wrong.G (hr.mono (by decide)) (by rfl) c_frame_wrong.g c_frame_wrong.kp c_frame_wrong.b .nil pass0 (pa_cons (pv 0) pa_nil)) (pe_orT (pe_call c_head_wrong.G (hr.mono (by decide)) (by rfl) c_head_wrong.g c_head_wrong.kp c_head_wrong.b .nil pass0 (pa_cons (pv 0) pa_nil)) (pe_one (pe_call c_rows_wrong.G (hr.mono (by decide)) (by rfl) c_rows_wrong.g c_rows_wrong.kp c_rows_wrong.b .nil pass0 (pa_cons (pe_ix (r := rIxT K) ix_tup (pv 0) pe_int (fun _ _ => rfl)) pa_nil))))))), ?_⟩
  refine body_D (m := 0) (W := w_outer_wrong) (fun N => ?_) h rfl
  have ok := @ctxP_ok K H N
  exact (fs_ret (fe_orT (fe_callD ok (fa_cons fe_var fa_nil)) (fe_orT (fe_callD ok (fa_cons fe_var fa_nil)) (fe_callD ok (fa_cons (fe_op fr_ixT' fe_var fe_int) fa_nil)))))
abbrev s_many_right : Stmt := topS 56
theorem sc_many_right : FnScope ["module", "flows", "known", "x"] ["module"] (defScope s_many_right) := ⟨rfl, rfl, rfl, by decide +kernel, rfl, by decide +kernel, by decide +kernel⟩
def w_many_right : WS := (wSeq (wAsg (wCall 1 f_flows_of (wCons (wVar 0) wNil)) (wName [] 1))
  (wSeq (wAsg (wDc [] (wItL (wVar 1)) (wName [] 3) (wVar 3) [3]) (wName [] 2))
  (wSeq (wIfS (wOr (wB (wOp fNe (wCB fLenK (wCons (wVar 2) wNil)) (wCB fLen (wCons (wVar 1) wNil)))) (wB (wOp (fIsN true) (wCall 1 f_outs_wrong (wCons (wVar 0) wNil)) (wK .none)))) (wRet (wK .none)) wNext)
  (wRet (wCall 2 f_many_fitting (wCons (wOp fIxT (wVar 0) (wK (.int 3))) (wCons (wVar 2) wNil)))))))
def f_many_right : W1 := wBody 3 w_many_right
def sp_many_right (K : PySem.W.Frag) : Sp := spD 1 f_many_right K
theorem ok_many_right {f : Addr} {fd : FuncData} (F : Fun K "many_right" "many_right" s_many_right f fd) (m_len : mg "len" = none) {f_flows_of : Addr} {fd_flows_of : FuncData} (c_flows_of : Cal P w K mg base CX0 2 f_flows_of fd_flows_of "flows_of" ["module"] (sp_flows_of K)) {f_outs_wrong : Addr} {fd_outs_wrong : FuncData} (c_outs_wrong : Cal P w K mg base CX0 2 f_outs_wrong fd_outs_wrong "_outs_wrong" ["module"] (sp_outs_wrong K)) {f_many_fitting : Addr} {fd_many_fitting : FuncData} (c_many_fitting : Cal P w K mg base CX0 7 f_many_fitting fd_many_fitting "many_fitting" ["rows", "known"] (sp_many_fitting K)) : FnOk P w K mg base CX0 8 f fd ["module"] (sp_many_right K) := by
  refine F.ok sc_many_right (fun vs H Q E h => spD_len h) (fun cdv A outer s H vs Q E hr h => ?_)
  refine ⟨_, (pss_cons (ps_set (i := 1) sc_many_right.nd rfl (Or.inl rfl) (pe_call c_flows_of.G (hr.mono (by decide)) (by rfl) c_flows_of.g c_flows_of.kp c_flows_of.b .nil pass0 (pa_cons (pv 0) pa_nil)))
        (pss_cons (ps_setDc (i := 2) (own := [("x", 3)]) (g := gName 3) (by rfl) sc_many_right.nd rfl rfl (sw_trueD rfl rfl rfl (by decide +kernel)) (pi_list (pv 1)) (blkOk_by (N := ["module", "flows", "known", "x"]) (sc := defScope s_many_right) (by decide +kernel)) (fun _ _ _ _ _ => (pg_name (i := 3) sc_many_right.nd rfl (Or.inl rfl))) (fun _ _ _ _ _ => pts_nil) (fun _ _ _ _ _ => (pv 3)) (fun _ _ _ _ _ => pe_bl))
        (pss_cons (ps_if (PW.pt (pw_or (pt_cmpR op_ne (pe_callB call_lenD (by rfl) m_len PySem.boot_len (pa_cons (pv 2) pa_nil)) (pe_callB call_len_seq (by rfl) m_len PySem.boot_len (pa_cons (pv 1) pa_nil)) (nomark _)) (pw_or1 (pt_cmpR op_notN (pe_call c_outs_wrong.G (hr.mono (by decide)) (by rfl) c_outs_wrong.g c_outs_wrong.kp c_outs_wrong.b .nil pass0 (pa_cons (pv 0) pa_nil)) pe_non (nomark _))))) (pss_one (ps_ret pe_non)) pss_nil)
        (pss_one (ps_ret (pe_call c_many_fitting.G (hr.mono (by decide)) (by rfl) c_many_fitting.g c_many_fitting.kp c_many_fitting.b .nil pass0 (pa_cons (pe_ix (r := rIxT K) ix_tup (pv 0) pe_int (fun _ _ => rfl)) (pa_cons (pv 2) pa_nil)))))))), ?_⟩
  refine body_D (m := 3) (W := w_many_right) (fun N => ?_) h rfl
  have ok := @ctxP_ok K H N
  exact (fs_seq (fs_asg (fe_callD ok (fa_cons fe_var fa_nil)) fg_name)
        (fs_seq (fs_asg (fe_dc (vs := [3]) ok (fi_list fe_var) fg_name (by decide) fe_var) fg_name)
        (fs_seq (fs_if (ft_or (ft_test (fe_op fr_ne (fe_cb fc_lenK (fa_cons fe_var fa_nil)) (fe_cb fc_len (fa_cons fe_var fa_nil)))) (ft_test (fe_op fr_notN (fe_callD ok (fa_cons fe_var fa_nil)) fe_non))) (fs_ret fe_non) fs_next)
        (fs_ret (fe_callD ok (fa_cons (fe_op fr_ixT' fe_var fe_int) (fa_cons fe_var fa_nil)))))))
abbrev s_looked_at : Stmt := topS 58
theorem sc_looked_at : FnScope ["thing", "wrong", "many"] ["thing"] (defScope s_looked_at) := ⟨rfl, rfl, rfl, by decide +kernel, rfl, by decide +kernel, by decide +kernel⟩
def w_looked_at : WS := (wSeq (wAsg (wCall 1 f_outer_wrong (wCons (wVar 0) wNil)) (wName [] 1))
  (wSeq (wIfS (wB (wOp (fIsN true) (wVar 1) (wK .none))) (wRet (wTup (wCons (wK .none) (wCons (wVar 1) wNil)))) wNext)
  (wSeq (wAsg (wCall 1 f_many_right (wCons (wVar 0) wNil)) (wName [] 2))
  (wSeq (wIfS (wB (wOp (fIsN false) (wVar 2) (wK .none))) wNever wNext)
  (wRet (wTup (wCons (wVar 2) (wCons (wK .none) wNil))))))))
def f_looked_at : W1 := wBody 2 w_looked_at
def sp_looked_at (K : PySem.W.Frag) : Sp := spD 1 f_looked_at K
theorem ok_looked_at {f : Addr} {fd : FuncData} (F : Fun K "_looked_at" "_looked_at" s_looked_at f fd) {f_outer_wrong : Addr} {fd_outer_wrong : FuncData} (c_outer_wrong : Cal P w K mg base CX0 5 f_outer_wrong fd_outer_wrong "outer_wrong" ["thing"] (sp_outer_wrong K)) {f_many_right : Addr} {fd_many_right : FuncData} (c_many_right : Cal P w K mg base CX0 8 f_many_right fd_many_right "many_right" ["module"] (sp_many_right K)) : FnOk P w K mg base CX0 9 f fd ["thing"] (sp_looked_at K) := by
  refine F.ok sc_looked_at (fun vs H Q E h => spD_len h) (fun cdv A outer s H vs Q E hr h => ?_)
  refine ⟨_, (pss_cons (ps_set (i := 1) sc_looked_at.nd rfl (Or.inl rfl) (pe_call c_outer_wrong.G (hr.mono (by decide)) (by rfl) c_outer_wrong.g c_outer_wrong.kp c_outer_wrong.b .nil pass0 (pa_cons (pv 0) pa_nil)))
        (pss_cons (ps_if (pt_cmpR op_notN (pv 1) pe_non (nomark _)) (pss_one (ps_ret (pe_tup (pa_cons pe_non (pa_cons (pv 1) pa_nil))))) pss_nil)
        (pss_cons (ps_set (i := 2) sc_looked_at.nd rfl (Or.inl rfl) (pe_call c_many_right.G (hr.mono (by decide)) (by rfl) c_many_right.g c_many_right.kp c_many_right.b .nil pass0 (pa_cons (pv 0) pa_nil)))
        (pss_cons (ps_if (pt_cmpR op_isN (pv 2) pe_non (nomark _)) (pss_one ps_never) pss_nil)
        (pss_one (ps_ret (pe_tup (pa_cons (pv 2) (pa_cons pe_non pa_nil))))))))), ?_⟩
  refine body_D (m := 2) (W := w_looked_at) (fun N => ?_) h rfl
  have ok := @ctxP_ok K H N
  exact (fs_seq (fs_asg (fe_callD ok (fa_cons fe_var fa_nil)) fg_name)
        (fs_seq (fs_if (ft_test (fe_op fr_notN fe_var fe_non)) (fs_ret (fe_tup ok (fa_cons fe_non (fa_cons fe_var fa_nil)))) fs_next)
        (fs_seq (fs_asg (fe_callD ok (fa_cons fe_var fa_nil)) fg_name)
        (fs_seq (fs_if (ft_test (fe_op fr_isN fe_var fe_non)) fs_never fs_next)
        (fs_ret (fe_tup ok (fa_cons fe_var (fa_cons fe_non fa_nil))))))))
abbrev s_check_module : Stmt := topS 59
theorem sc_check_module : FnScope ["thing", "many", "wrong"] ["thing"] (defScope s_check_module) := ⟨rfl, rfl, rfl, by decide +kernel, rfl, by decide +kernel, by decide +kernel⟩
def w_check_module : WS := (wSeq (wAsg (wCall 1 f_looked_at (wCons (wVar 0) wNil)) (wgTup 2 (wgCons (wName [] 1) (wgCons (wName [] 2) wgNil))))
  (wSeq (wIfS (wB (wOp (fIsN true) (wVar 2) (wK .none))) wNever wNext)
  (wRet (wVar 1))))
def f_check_module : W1 := wBody 2 w_check_module
def sp_check_module (K : PySem.W.Frag) : Sp := spD 1 f_check_module K
theorem ok_check_module {f : Addr} {fd : FuncData} (F : Fun K "check_module" "check_module" s_check_module f fd) {f_looked_at : Addr} {fd_looked_at : FuncData} (c_looked_at : Cal P w K mg base CX0 9 f_looked_at fd_looked_at "_looked_at" ["thing"] (sp_looked_at K)) : FnOk P w K mg base CX0 10 f fd ["thing"] (sp_check_module K) := by
  refine F.ok sc_check_module (fun vs H Q E h => spD_len h) (fun cdv A outer s H vs Q E hr h => ?_)
  refine ⟨_, (pss_cons (ps_asg (pe_call c_looked_at.G (hr.mono (by decide)) (by rfl) c_looked_at.g c_looked_at.kp c_looked_at.b .nil pass0 (pa_cons (pv 0) pa_nil)) (pg_tup (by rfl) (pgs_cons (pg_name (i := 1) sc_check_module.nd rfl (Or.inl rfl)) (pgs_cons (pg_name (i := 2) sc_check_module.nd rfl (Or.inl rfl)) pgs_nil))))
        (pss_cons (ps_if (pt_cmpR op_notN (pv 2) pe_non (nomark _)) (pss_one ps_never) pss_nil)
        (pss_one (ps_ret (pv 1))))), ?_⟩
  refine body_D (m := 2) (W := w_check_module) (fun N => ?_) h rfl
  have ok := @ctxP_ok K H N
  exact (fs_seq (fs_asg (fe_callD ok (fa_cons fe_var fa_nil)) (fg_tup (fg_cons fg_name (fg_cons fg_name fg_nil))))
        (fs_seq (fs_if (ft_test (fe_op fr_notN fe_var fe_non)) fs_never fs_next)
        (fs_ret fe_var)))
abbrev s_found : Stmt := topS 62
theorem sc_found : FnScope ["module", "place"] ["module", "place"] (defScope s_found) := ⟨rfl, rfl, rfl, by decide +kernel, rfl, by decide +kernel, by decide +kernel⟩
def w_found : WS := (wSeq (wIfS (wOr (wNot (wB (wCall 1 f_is_spot (wCons (wVar 1) wNil)))) (wNot (wB (wChain (f2I fun i j => .bool (decide (i ≤ j))) (f2I fun i j => .bool (decide (i < j))) (wK (.int 0)) (wOp fIxT (wVar 1) (wK (.int 0))) (wCB fLen (wCons (wOp fIxT (wVar 0) (wK (.int 3))) wNil)))))) (wRet (wK .none)) wNext)
  (wRet (wCall 2 f_part_at (wCons (wOp fIxT (wOp fIxL (wOp fIxT (wVar 0) (wK (.int 3))) (wOp fIxT (wVar 1) (wK (.int 0)))) (wK (.int 1))) (wCons (wOp fIxT (wVar 1) (wK (.int 1))) wNil)))))
def f_found : W1 := wBody 0 w_found
def sp_found (K : PySem.W.Frag) : Sp := spD 2 f_found K
theorem ok_found {f : Addr} {fd : FuncData} (F : Fun K "_found" "_found" s_found f fd) (m_len : mg "len" = none) {f_is_spot : Addr} {fd_is_spot : FuncData} (c_is_spot : Cal P w K mg base CX0 2 f_is_spot fd_is_spot "is_spot" ["thing"] (sp_is_spot K)) {f_part_at : Addr} {fd_part_at : FuncData} (c_part_at : Cal P w K mg base CX0 2 f_part_at fd_part_at "part_at" ["e", "path"] (sp_part_at K)) : FnOk P w K mg base CX0 3 f fd ["module", "place"] (sp_found K) := by
  refine F.ok sc_found (fun vs H Q E h => spD_len h) (fun cdv A outer s H vs Q E hr h => ?_)
  refine ⟨_, (pss_cons (ps_if (PW.pt (pw_or (pt_not (pt_val (pe_call c_is_spot.G (hr.mono (by decide)) (by rfl) c_is_spot.g c_is_spot.kp c_is_spot.b .nil pass0 (pa_cons (pv 1) pa_nil)))) (pw_or1 (pt_not (pt_chain op_le op_lt pe_int (pe_ix (r := rIxT K) ix_tup (pv 1) pe_int (fun _ _ => rfl)) (pe_callB call_len_seq (by rfl) m_len PySem.boot_len (pa_cons (pe_ix (r := rIxT K) ix_tup (pv 0) pe_int (fun _ _ => rfl)) pa_nil))))))) (pss_one (ps_ret pe_non)) pss_nil)
        (pss_one (ps_ret (pe_call c_part_at.G (hr.mono (by decide)) (by rfl) c_part_at.g c_part_at.kp c_part_at.b .nil pass0 (pa_cons (pe_ix (r := rIxT K) ix_tup (pe_ix (r := rIxL K) ix_list (pe_ix (r := rIxT K) ix_tup (pv 0) pe_int (fun _ _ => rfl)) (pe_ix (r := rIxT K) ix_tup (pv 1) pe_int (fun _ _ => rfl)) (fun _ _ => rfl)) pe_int (fun _ _ => rfl)) (pa_cons (pe_ix (r := rIxT K) ix_tup (pv 1) pe_int (fun _ _ => rfl)) pa_nil)))))), ?_⟩
  refine body_D (m := 0) (W := w_found) (fun N => ?_) h rfl
  have ok := @ctxP_ok K H N
  exact (fs_seq (fs_if (ft_or (ft_not (ft_b (fe_callD ok (fa_cons fe_var fa_nil)))) (ft_not (ft_test (fe_chain fr_le fr_lt fe_int (fe_op fr_ixT' fe_var fe_int) (fe_cb fc_len (fa_cons (fe_op fr_ixT' fe_var fe_int) fa_nil)))))) (fs_ret fe_non) fs_next)
        (fs_ret (fe_callD ok (fa_cons (fe_op fr_ixT' (fe_op fr_ixL' (fe_op fr_ixT' fe_var fe_int) (fe_op fr_ixT' fe_var fe_int)) fe_int) (fa_cons (fe_op fr_ixT' fe_var fe_int) fa_nil)))))
abbrev s_flows : Stmt := topS 64
theorem sc_flows : FnScope ["module"] ["module"] (defScope s_flows) := ⟨rfl, rfl, rfl, by decide +kernel, rfl, by decide +kernel, by decide +kernel⟩
def w_flows : WS := (wSeq (wDrop (wCall 1 f_check_module (wCons (wVar 0) wNil)))
  (wRet (wCall 1 f_flows_of (wCons (wVar 0) wNil))))
def f_flows : W1 := wBody 0 w_flows
def sp_flows (K : PySem.W.Frag) : Sp := spD 1 f_flows K
theorem ok_flows {f : Addr} {fd : FuncData} (F : Fun K "flows" "flows" s_flows f fd) {f_check_module : Addr} {fd_check_module : FuncData} (c_check_module : Cal P w K mg base CX0 10 f_check_module fd_check_module "check_module" ["thing"] (sp_check_module K)) {f_flows_of : Addr} {fd_flows_of : FuncData} (c_flows_of : Cal P w K mg base CX0 2 f_flows_of fd_flows_of "flows_of" ["module"] (sp_flows_of K)) : FnOk P w K mg base CX0 11 f fd ["module"] (sp_flows K) := by
  refine F.ok sc_flows (fun vs H Q E h => spD_len h) (fun cdv A outer s H vs Q E hr h => ?_)
  refine ⟨_, (pss_cons (ps_expr (pe_call c_check_module.G (hr.mono (by decide)) (by rfl) c_check_module.g c_check_module.kp c_check_module.b .nil pass0 (pa_cons (pv 0) pa_nil)))
        (pss_one (ps_ret (pe_call c_flows_of.G (hr.mono (by decide)) (by rfl) c_flows_of.g c_flows_of.kp c_flows_of.b .nil pass0 (pa_cons (pv 0) pa_nil))))), ?_⟩
  refine body_D (m := 0) (W := w_flows) (fun N => ?_) h rfl
  have ok := @ctxP_ok K H N
  exact (fs_seq (fs_drop (fe_callD ok (fa_cons fe_var fa_nil)))
        (fs_ret (fe_callD ok (fa_cons fe_var fa_nil))))
end
end WK
namespace WK
open PySem PySem.Spec PyProof.Rows L2 WD
abbrev s_e_at : Stmt := topS 63
theorem sc_e_at : FnScope ["module", "place", "e"] ["module", "place"] (defScope s_e_at) := ⟨rfl, rfl, rfl, by decide +kernel, rfl, by decide +kernel, by decide +kernel⟩
/-- f tells z of ds -/
def TellsW (f : W1) (ds : List PyData) (z : PyData) : Prop := ∀ P : PyData → Prop, P z → f ds P
/-- an expression told by its place; its lists are new -/
def sp_e_atN (K : PySem.W.Frag) : Sp := fun vs H Q _ => ∃ (N : Addr → Prop) (dm dp e : PyData), Dns K H N vs [dm, dp] ∧ (∀ b, N b → H b ≠ none) ∧ (∃ z, TellsW f_check_module [dm] z) ∧ TellsW f_found [dm, dp] e ∧ exprD e = true ∧ ∀ u H', Same H H' → Dn K H' (fun b => H b = none) u e → Q u H'
theorem none_back {H H' : Hp} {b : Addr} (s : Same H H') (h : H' b = none) : H b = none := by
  cases e : H b with
  | none => rfl
  | some o => rw [s _ _ e] at h; cases h
section
variable {P : Program} {w : World} {K : PySem.W.Frag} {mg : Str → Option Value} {base : Heap}
theorem ok_e_atN {f : Addr} {fd : FuncData} (F : Fun K "e_at" "e_at" s_e_at f fd) {f_check_module : Addr} {fd_check_module : FuncData} (c_check_module : Cal P w K mg base CX0 10 f_check_module fd_check_module "check_module" ["thing"] (sp_check_module K)) {f_found : Addr} {fd_found : FuncData} (c_found : Cal P w K mg base CX0 3 f_found fd_found "_found" ["module", "place"] (sp_found K)) {f_copied_e : Addr} {fd_copied_e : FuncData} (c_copied_e : Cal P w K mg base CX0 1 f_copied_e fd_copied_e "copied_e" ["e"] (sp_copied_eN K)) : FnOk P w K mg base CX0 12 f fd ["module", "place"] (sp_e_atN K) := by
  refine F.ok sc_e_at (fun vs H Q E h => ?_) (fun cdv A outer s H vs Q E hr h => ?_)
  · obtain ⟨_, _, _, _, t, _⟩ := h
    exact t.len
  · obtain ⟨N, dm, dp, e, t, hN, ⟨z1, w1⟩, w2, hx, q⟩ := h
    refine ⟨_, (pss_cons (ps_expr (pe_call c_check_module.G (hr.mono (by decide)) (by rfl) c_check_module.g c_check_module.kp c_check_module.b .nil pass0 (pa_cons (pv 0) pa_nil)))
        (pss_cons (ps_set (i := 2) sc_e_at.nd rfl (Or.inl rfl) (pe_call c_found.G (hr.mono (by decide)) (by rfl) c_found.g c_found.kp c_found.b .nil pass0 (pa_cons (pv 0) (pa_cons (pv 1) pa_nil))))
        (pss_cons (ps_if (pt_cmpR op_isN (pv 2) pe_non (nomark _)) (pss_one ps_never) pss_nil)
        (pss_one (ps_ret (pe_call c_copied_e.G (hr.mono (by decide)) (by rfl) c_copied_e.g c_copied_e.kp c_copied_e.b .nil pass0 (pa_cons (pv 2) pa_nil))))))), ?_⟩
    have ok := @ctxP_ok K H N
    have r0 := rep0 (n := 1) t hN
    have hl := t.len
    obtain ⟨vm, vs, rfl⟩ : ∃ a b, vs = a :: b := by cases t; exact ⟨_, _, rfl⟩
    obtain ⟨vp, vs, rfl⟩ : ∃ a b, vs = a :: b := by cases t with | cons _ t => cases t; exact ⟨_, _, rfl⟩
    obtain rfl : vs = [] := by cases vs with | nil => rfl | cons _ _ => cases hl
    refine fe_callD (C := ctxP K H N) (n := 1) (f := WK.f_check_module) ok (fa_cons fe_var fa_nil) _ H _ N _ (fun _ ρ => ρ = env0 [dm, dp] 1) r0 ⟨rfl, ?_⟩ fun v1 H1 N1 ρ1 d1 p1 n1 f1 r1 h1 => ?_
    · exact w1 _ rfl
    subst p1
    refine fe_callD (C := ctxP K H N) (n := 2) (f := WK.f_found) ok (fa_cons fe_var (fa_cons fe_var fa_nil)) _ H1 _ N1 _ (fun z ρ => z = e ∧ ρ = env0 [dm, dp] 1) r1 ⟨rfl, ?_⟩ fun v2 H2 N2 ρ2 d2 p2 n2 f2 r2 h2 => ?_
    · exact w2 _ ⟨rfl, rfl⟩
    obtain ⟨e2, _⟩ := p2
    subst e2
    obtain ⟨a, ea⟩ : ∃ a, v2 = V.ref a := by cases h2 <;> first | exact ⟨_, rfl⟩ | (simp [exprD] at hx; done)
    subst ea
    have s1 : Same H H2 := fun b o x => r2.old b o x fun z => z
    show tSeq _ _ _ [some vm, some vp, some (V.ref a)] H2
    refine ⟨.ref a, rfl, rfl, _, rfl, ?_⟩
    show (if decide (V.ref a = V.non) = true then _ else _)
    rw [if_neg (by simp)]
    refine ⟨.ref a, rfl, N2, .ref a, d2, by rfl, h2, hx, fun u H3 s3 hu => ?_⟩
    exact q u H3 (s1.trans s3) (hu.mono .refl fun b n => none_back s1 n)
end
end WK
namespace WK
open PySem PySem.Spec PyProof.Rows L2 WD
/-! what the program's small defs tell of good names, signs, atoms -/
theorem take_all {α : Type} {p : α → Bool} : ∀ {l : List α}, (∀ c ∈ l, p c = true) → l.takeWhile p = l
  | [], _ => rfl
  | a :: l, h => by
    rw [List.takeWhile_cons, if_pos (h a (.head _)), take_all fun c hc => h c (.tail _ hc)]
theorem strip_gone {x y : Str} (h : ∀ c ∈ x.cps.toList, y.cps.contains c = true) : (Txt.stripChars x y).length = 0 := by
  unfold Txt.stripChars
  rw [stripBy_eq]
  have e : stripLo y.cps.contains true x = x.length := by
    show (x.cps.toList.takeWhile _).length = x.length
    rw [take_all h]
    exact Array.length_toList
  have e2 : stripHi y.cps.contains true x x.length = x.length := by
    show x.length - ((x.cps.toList.drop x.length).reverse.takeWhile _).length = x.length
    have : x.cps.toList.drop x.length = [] := List.drop_eq_nil_of_le (by rw [Array.length_toList]; exact Nat.le_refl _)
    rw [this]
    rfl
  rw [e, e2]
  show (x.cps.extract x.length x.length).size = 0
  rw [Array.size_extract]
  show min x.length x.length - x.length = 0
  omega
/-- a name: one to eight letters -/
def NameS (x : Str) : Prop := 1 ≤ x.length ∧ x.length ≤ 8 ∧ ∀ c ∈ x.cps.toList, ("abcdefghijklmnopqrstuvwxyz" : Str).cps.contains c = true
def SignsS (x : Str) : Prop := x.length ≤ 60 ∧ ∀ c ∈ x.cps.toList, ("01" : Str).cps.contains c = true
theorem tells_name {x : Str} (h : NameS x) : TellsW f_is_name [.str x] (.bool true) := fun P p => by
  obtain ⟨h1, h2, h3⟩ := h
  have e0 := strip_gone h3
  have le : (Txt.stripChars x ("abcdefghijklmnopqrstuvwxyz" : Str)).length ≤ 16777216 := by rw [e0]; decide
  refine ⟨by omega, ?_⟩
  show (match (PyData.bool (decide ((1 : Int) ≤ ((x.length : Nat) : Int)))) with | .bool true => _ | .bool false => _ | _ => False)
  rw [decide_eq_true (show (1 : Int) ≤ ((x.length : Nat) : Int) by omega)]
  show (match (PyData.bool (decide (((x.length : Nat) : Int) ≤ 8))) with | .bool true => _ | .bool false => _ | _ => False)
  rw [decide_eq_true (show ((x.length : Nat) : Int) ≤ 8 by omega)]
  refine ⟨by omega, le, ?_⟩
  show P (.bool (!(((Txt.stripChars x ("abcdefghijklmnopqrstuvwxyz" : Str)).length : Int) != 0)))
  rw [e0]
  exact p
theorem tells_signs {x : Str} (h : SignsS x) : TellsW f_is_signs [.str x] (.bool true) := fun P p => by
  obtain ⟨h2, h3⟩ := h
  have e0 := strip_gone h3
  have le : (Txt.stripChars x ("01" : Str)).length ≤ 16777216 := by rw [e0]; decide
  refine ⟨by omega, le, ?_⟩
  show P (.bool (!(((Txt.stripChars x ("01" : Str)).length : Int) != 0)))
  rw [e0]
  exact p
theorem tells_whole {i : Int} : TellsW f_is_whole [.int i] (.bool true) := fun P p => p
end WK
/-! ### enumerate(t), t a tuple -/
namespace WD
open PySem PySem.Spec PyProof.Rows L2
/-- the cell that enumerate(..) makes, its walker at it -/
def enumAt (it : Addr) : Obj := { cls := .type "enumerate", data := .fields #[.none, .bool false, .ref it, rawInt 0, .none, .none] }
set_option maxHeartbeats 1000000 in
theorem meets_enumOne {v : Value} {o : Obj} {L : Heap → Prop} (B : Begins v o L) :
    Meets (Builtin.«enumerate.__new__» ⟨[.type "enumerate", v], []⟩) fun _ R s => L s.heap ∧ R (.ok (.ret (.ref (s.heap.push o).objs.size))) { s with heap := (s.heap.push o).push (enumAt s.heap.objs.size) } :=
  .of_wp fun prog w A R s h => by
    obtain ⟨hp, g, d, tk, os⟩ := s
    obtain ⟨l, h⟩ := h
    have sub := sub_enumerate
    have go : ∀ {A' : Around} {E : Value → Shared → Prop} {Q : Value → Shared → Prop}, Q (.ref hp.objs.size) ⟨hp.push o, g, d, tk, os⟩ → wpAny (model prog w) A' (pyIter v) Q E ⟨hp, g, d, tk, os⟩ := fun q => B.iter prog w _ _ ⟨hp, g, d, tk, os⟩ _ l q
    unfold enumAt at h
    wp_walk using go
    refine wpAny_stack_any fun st => wpAny_pure ?_
    split
    · rename_i c _ _ _ _ _
      cases (c == Value.type "enumerate") <;> (wp_walk using go; exact ⟨_, rfl, h⟩)
    · wp_walk using go
      exact ⟨_, rfl, h⟩
theorem call_enumOne {prog : Program} {w : World} {A : Around} {E : Value → Shared → Prop} {s : Shared} {v : Value} {o : Obj} {L : Heap → Prop} {Q : Value → Shared → Prop} (B : Begins v o L) (l : L s.heap)
    (k : ∀ g : Heap, IsEnum g (s.heap.objs.size + 1) s.heap.objs.size 0 .none → g.get? s.heap.objs.size = some o → (∀ b u, s.heap.get? b = some u → g.get? b = some u) → Q (.ref (s.heap.objs.size + 1)) { s with heap := g }) :
    wpAny (model prog w) A (call (.type "enumerate") [v]) Q E s := by
  refine callType_new F.called_enumerate (by decide) (F.typeCall_enumerate_1 _) (F.newCall_enumerate_1 _) (fun obj => F.args_object_init_2 obj _) F.entry_enumerate_new (meets_enumOne B) ⟨l, ?_⟩
  have z : (s.heap.push o).objs.size = s.heap.objs.size + 1 := Heap.size_push ..
  have e : ((s.heap.push o).push (enumAt s.heap.objs.size)).get? (s.heap.objs.size + 1) = some (enumAt s.heap.objs.size) := z ▸ Heap.get?_push_size (s.heap.push o) (o := enumAt s.heap.objs.size) rfl
  show _ ∧ _
  rw [z]
  exact ⟨⟨_, e, rfl⟩, k _ e (Heap.get?_push_of_some _ (Heap.get?_push_size _ B.free)) fun b u x => Heap.get?_push_of_some _ (Heap.get?_push_of_some _ x)⟩
/-- the tuple at a, each item in a new pair -/
def IteT (K : PySem.W.Frag) (a : Addr) (n : Nat) : It :=
  ⟨fun i H => ∃ (xs : List V) (x : V), SqT K H a xs ∧ xs[i]? = some x ∧ xs.length = n, fun i H v H' => ∃ T x, v = .ref T ∧ H T = none ∧ H' = upd H T (.tup [.int (i : Nat), x]) ∧ ∀ xs, SqT K H a xs → xs[i]? = some x, fun i H => ∃ xs : List V, SqT K H a xs ∧ xs.length = n ∧ n ≤ i⟩
theorem turn_enumT {P : Program} {w : World} {K : PySem.W.Frag} {elts : List Expr} {kk : Nat} {tpos : Pos} (a e it : Addr) (n : Nat) :
    Turn P w K (.Tuple elts kk tpos) (IteT K a n) [e, it] e (fun i h => (∃ old, IsEnum h e it ((i : Nat) : Int) old) ∧ h.IsTupleIter it a i ∧ e ≠ it ∧ e ≠ a ∧ a ≠ it ∧ i ≤ n) where
  mem := .head _
  obj := fun i h ⟨⟨old, q⟩, ⟨o, q1, _, q2⟩, _⟩ b hb => by
    rcases List.mem_cons.mp hb with z | z
    · exact z ▸ ⟨_, q, fun v x => nomatch x⟩
    · exact (List.mem_singleton.mp z) ▸ ⟨o, q1, fun v x => by rw [q2] at x; cases x⟩
  keep := fun i h g ⟨⟨old, q⟩, q1, ne⟩ k => ⟨⟨old, k e (.head _) _ q⟩, q1.at fun o x => k it (.tail _ (.head _)) o x, ne⟩
  item := by
    rintro X rfl rfl rfl calm i pins s σ H E I fresh ⟨⟨old, q⟩, q1, ne, ne2, ne3, _⟩ ⟨xs, x, hq, hx, hn⟩
    obtain ⟨its, rv, tup, hz⟩ := I.tuple hq
    obtain ⟨u, hu, ru⟩ := rv.get hx
    have le : e < s.heap.objs.size := Heap.lt_size q
    have li : it < s.heap.objs.size := by obtain ⟨_, y, _⟩ := q1; exact Heap.lt_size y
    have lt : i < its.toArray.size := by rw [List.size_toArray]; exact (List.getElem?_eq_some_iff.mp hu).1
    refine wpAny_pyNext_enum_itemD (Draws.tuple (by rw [← I.ok.hd calm]) it a ne3 its.toArray) q ⟨q1, tup⟩ lt ne (fun z => ?_) fun y g tk hy out st ht _ kept => ?_
    · rcases List.mem_cons.mp z with z | z
      · exact ne z
      · exact ne2 (List.mem_singleton.mp z)
    obtain rfl : u = y := by
      have hy : its.toArray[i]? = some y := hy
      rw [List.getElem?_toArray, hu] at hy
      exact Option.some.inj hy
    refine ⟨_, rfl, wpAny_letOwnedTupleGo_enum (s := { s with heap := g, toks := tk + 1 }) out fun g2 q2 sb => ?_⟩
    have ht2 : g2.get? s.heap.objs.size = some { cls := .type "tuple", data := .seq #[.int i tk, u] } := (sb.2 _ (Nat.ne_of_gt le)).trans ht
    have new : ObjOk X.prog X.w (upd H s.heap.objs.size (.tup [.int (i : Nat), x])) g2 s.heap.objs.size (.tup [.int (i : Nat), x]) := ⟨by show 2 ≤ sizeLine; decide, [.int i tk, u], .cons ⟨_, rfl⟩ (.cons ru .nil), ⟨_, ht2, rfl, _, rfl⟩⟩
    have I2 : Inv X pins σ (upd H s.heap.objs.size (.tup [.int (i : Nat), x])) { s with heap := g2, toks := tk + 1 } :=
      I.turnedNew (ch := [e, it]) (fun b o hb y => (sb.2 b fun z => hb (z ▸ .head _)).trans (kept b o (fun z => hb (z ▸ .head _)) (fun z => hb (z ▸ .tail _ (.head _))) y)) fresh (Nat.le_refl _) new
    refine ⟨.ref s.heap.objs.size, _, I2, rfl, ⟨_, x, rfl, I.hok.fresh (Nat.le_refl _), rfl, fun ys hy => ?_⟩, ⟨⟨u, ?_⟩, st.1.at fun o z => (sb.2 it (Ne.symm ne)).trans z, ne, ne2, ne3, by rw [← hn]; exact (List.getElem?_eq_some_iff.mp hx).1⟩, fun b hb => ?_⟩
    · rw [I.tuple_inj hy hq]; exact hx
    · rw [show ((i + 1 : Nat) : Int) = (i : Int) + 1 by omega]; exact q2
    · have lb : b < s.heap.objs.size := (List.mem_cons.mp hb).elim (fun z => z ▸ le) fun z => (List.mem_singleton.mp z) ▸ li
      rw [upd_ne (Nat.ne_of_lt lb)]
      exact (fresh b hb).1
  done := by
    rintro X rfl rfl rfl calm i pins s σ H E I fresh ⟨⟨old, q⟩, q1, ne, ne2, ne3, up⟩ ⟨xs, hq, hn, hx⟩
    obtain ⟨its, rv, tup, hz⟩ := I.tuple hq
    obtain ⟨f0, f1, f2, f3, f4, f5⟩ := fresh it (.tail _ (.head _))
    have many : its.toArray.size = i := by rw [List.size_toArray, ← rv.length]; omega
    refine wpAny_pyNext_enum_endD (Draws.tuple (by rw [← I.ok.hd calm]) it a ne3 its.toArray) q ⟨many ▸ q1, tup⟩ fun g eb => ⟨rfl, I.turned (t' := s.toks) (fun b o hb z => eb b o hb z) f0 f1 f3 f4 f5⟩
  self := fun A i s Q E ⟨⟨_, q⟩, _⟩ h => wpAny_pyIter_enum q h
def iEnumT (K : PySem.W.Frag) (ta : TA) : TI := fun σ H R => ta σ H fun vs H1 => ∃ a xs, vs = [.ref a] ∧ SqT K H1 a xs ∧ R (IteT K a xs.length) H1
theorem pi_enumT {X : Cx} {e : Expr} {ta : TA} {p pos tpos : Pos} {elts : List Expr} {kk : Nat} (g : Gl X "enumerate") (m : X.mg "enumerate" = none) (ha : PA X [e] ta) (hs : starEach [e] X.env = [(false, eval e X.env)] := by rfl) :
    PI X (.Tuple elts kk tpos) (.Call (.Name "enumerate" p) [e] [] pos) (iEnumT X.K ta) := by
  refine ⟨fun pins s σ H R I h => Call_ (ld_blt I g m boot_enumerate (callWith_type1 (thn (ha.run pos pins s σ H _ I h) fun us s1 ⟨vs, H1, I1, r1, a, xs, ex, hq, q⟩ => ?_) hs rfl))⟩
  subst ex
  cases r1 with
  | cons r rr =>
    cases rr
    cases r
    obtain ⟨its, rv, tup, hz⟩ := I1.tuple hq
    have la : a < s1.heap.objs.size := by obtain ⟨o, z, _⟩ := tup; exact Heap.lt_size z
    refine call_enumOne (begins_tuple a its.toArray) tup fun g he hi kept => wpAny_pyIter_enum he ?_
    have I2 : Inv X pins σ H1 { s1 with heap := g } := I1.kept (t' := s1.toks) kept
    refine ⟨s1.heap.objs.size + 1, [s1.heap.objs.size + 1, s1.heap.objs.size], _, _, H1, rfl, I2, turn_enumT a (s1.heap.objs.size + 1) s1.heap.objs.size xs.length, ⟨⟨.none, he⟩, ⟨_, hi, rfl, rfl⟩, Nat.succ_ne_self _, Nat.ne_of_gt (Nat.lt_succ_of_lt la), Nat.ne_of_lt la, Nat.zero_le _⟩, fun b hb => ?_, q⟩
    have le : s1.heap.objs.size ≤ b := (List.mem_cons.mp hb).elim (fun z => z ▸ Nat.le_succ _) fun z => (List.mem_singleton.mp z) ▸ Nat.le_refl _
    exact I1.fpOk le (I1.hok.fresh le)
variable {C : Ctx}
def wItET (a : WA) : WI := fun ρ P => a ρ fun ds ρ1 => match ds with
  | [.tuple xs] => P (numbered xs) ρ1
  | _ => False
theorem fi_enumT (ok : C.Ok) {t : TA} {a : WA} (h : FA C t a) : FI C (iEnumT C.K t) (wItET a) := fun σ H ρ N R P r w k => h σ H ρ N _ _ r w fun v H1 N1 ρ1 d w1 n1 f1 r1 h1 => by
  cases h1 with
  | nil => exact w1.elim
  | cons h t =>
    cases t with
    | cons _ _ => cases h <;> exact w1.elim
    | nil =>
      cases h <;> first | exact w1.elim | skip
      rename_i a xs ds h t
      refine ⟨_, _, rfl, h, k _ H1 N1 ρ1 _ w1 n1 f1 r1 fun i H2 kp => ?_⟩
      have h2 := kp.t _ _ h
      rw [numbered_len]
      refine ⟨fun hi => ?_, fun hi => ⟨_, h2, rfl, by rw [t.len]; exact hi⟩⟩
      have hx : i < xs.length := by rw [t.len]; exact hi
      refine ⟨⟨xs, xs[i], h2, List.getElem?_eq_getElem hx, rfl⟩, fun x H' y => ?_⟩
      obtain ⟨T, z, e1, e2, e3, y⟩ := y
      subst e1 e3
      obtain ⟨d, g1, g2⟩ := t.at' (y xs h2)
      exact ⟨_, numbered_at g1, fun σ ρ N n2 r => ⟨r.frA e2, r.alloc ok e2, .tup (SqT.of upd_same) (.cons (.int _) (.cons ((g2.mono kp n2).mono (.upd e2) fun _ h => h) .nil))⟩⟩
end WD
namespace WD
open PySem PySem.Spec PyProof.Rows L2
/-! ### a list handed in, to be told into -/
/-- all but the list at p stays -/
def heapBut (H H' : Hp) (p : Addr) : Hp := fun b => if b = p then H p else H' b
theorem heapBut_same {H H' : Hp} {p : Addr} (keep : ∀ b o, b ≠ p → H b = some o → H' b = some o) : Same H (heapBut H H' p) := fun b o e => by
  unfold heapBut
  by_cases z : b = p
  · rw [if_pos z, ← z]; exact e
  · rw [if_neg z]; exact keep b o z e
theorem heapBut_upd {H H' : Hp} {p : Addr} {o : HO} (e : H' p = some o) : upd (heapBut H H' p) p o = H' := by
  funext b
  by_cases z : b = p
  · rw [z, upd_same, e]
  · rw [upd_ne z]
    unfold heapBut
    rw [if_neg z]
theorem heapBut_kp {K : PySem.W.Frag} {N : Addr → Prop} {H H' : Hp} {p : Addr} {xs : List V} (e : H' p = some (.lst xs)) (np : ¬ N p) : Kp K N H' (heapBut H H' p) := by
  have ne : ∀ b o, H' b = some o → (∀ ys, o ≠ .lst ys) → heapBut H H' p b = some o := fun b o h no => by
    unfold heapBut
    rw [if_neg (fun z => by rw [z, e] at h; exact no _ (Option.some.inj h).symm)]
    exact h
  refine ⟨fun b o n h => ?_, fun b ys h => ?_⟩
  · unfold heapBut
    rw [if_neg (fun z : b = p => np (z ▸ n))]
    exact h
  · rcases h with (h | ⟨u, h⟩) | h
    · exact .inl (.inl (ne _ _ h fun _ z => nomatch z))
    · exact .inl (.inr ⟨u, ne _ _ h fun _ z => nomatch z⟩)
    · exact .inr h
variable {C : Ctx}
/-- an own list, written by another -/
theorem Rep.writeC (ok : C.Ok) {σ : L2.St} {ρ : Env} {N N' : Addr → Prop} {H H' : Hp} {i : Nat} {ds es : List PyData} {a : Addr} {us : List V} (r : Rep C σ ρ N H) (e : ρ.at i = .own ds) (ha : σ[i]? = some (some (.ref a)))
    (n1 : ∀ b, N b → N' b) (n2 : ∀ b, N' b → N b ∨ H b = none) (n3 : ∀ b, N' b → H' b ≠ none) (keep : ∀ b o, b ≠ a → H b = some o → H' b = some o) (hv : H' a = some (.lst us)) (hd : Dns C.K H' N' us es) :
    Rep C σ (ρ.put i (.own es)) N' H' ∧ Fr C σ ρ N σ (ρ.put i (.own es)) N' H H' := by
  obtain ⟨a', vs, h1, h2, h3, h4, h5, h6⟩ := r.own i ds e
  rw [ha] at h1
  cases h1
  have na : ¬ N' a := fun z => by
    rcases n2 a z with z | z
    · exact h4 z
    · rw [h2] at z; cases z
  have at1 : heapBut H H' a a = some (.lst vs) := by unfold heapBut; rw [if_pos rfl]; exact h2
  obtain ⟨r1, f1⟩ := r.after ok n1 n2 (fun b n => by
    unfold heapBut
    rw [if_neg (fun z : b = a => na (z ▸ n))]
    exact n3 b n) (heapBut_same keep)
  obtain ⟨r2, f2⟩ := r1.write ok e ha at1 (hd.mono (heapBut_kp hv na) fun _ h => h)
  rw [heapBut_upd hv] at r2 f2
  exact ⟨r2, f1.trans f2⟩
/-- T: what is to stand in the list at p in the end; i: the name that holds it -/
def ctxT (K : PySem.W.Frag) (H0 : Hp) (N0 : Addr → Prop) (p : Addr) (i : Nat) (T : List PyData) : Ctx :=
  ⟨K, H0, fun b => b = p, N0, fun n N H => ∃ us, H p = some (.lst us) ∧ Dns K H N us (T.take n), [i], .ref p⟩
variable {K : PySem.W.Frag} {H0 : Hp} {N0 : Addr → Prop} {p : Addr} {i : Nat} {T : List PyData}
theorem ctxT_ok : (ctxT K H0 N0 p i T).Ok := ⟨fun {n N H H'} kp ⟨us, h1, h2⟩ => ⟨us, kp.n _ _ (.inr rfl) h1, h2.mono (kp.sub fun b h => .inl h) fun _ h => h⟩⟩
theorem Rep.told {σ : L2.St} {ρ : Env} {N : Addr → Prop} {H : Hp} {us : List V} {m : Nat} (r : Rep (ctxT K H0 N0 p i T) σ ρ N H) (hd : Dns K H N us (T.take m)) :
    Rep (ctxT K H0 N0 p i T) σ ⟨ρ.sl, m⟩ N (upd H p (.lst us)) ∧ Fr (ctxT K H0 N0 p i T) σ ρ N σ ⟨ρ.sl, m⟩ N H (upd H p (.lst us)) := by
  obtain ⟨N1, _, vs, hp, _⟩ := r.j
  have np : ¬ N p := fun z => (r.new p z).2 rfl
  have kp : Kp K N H (upd H p (.lst us)) := .set hp np
  refine ⟨{
    len := r.len
    dat := fun j d e => ?_
    own := fun j ds e => ?_
    sep := r.sep
    fix := r.fix
    old := fun b o e m => ?_
    new := r.new
    has := fun b n => ?_
    mh := fun b m => ⟨us, by rw [show b = p from m]; exact upd_same⟩
    j := ⟨N, fun _ h => h, us, upd_same, hd.mono kp fun _ h => h⟩ }, {
    keep := fun b o e m _ => ?_
    own := fun b h => ⟨(r.ownA h).1, .inl h⟩
    dom := fun b h => ?_
    up := fun _ h => .inl h }⟩
  · obtain ⟨v, h1, h2⟩ := r.dat j d e
    exact ⟨v, h1, h2.mono kp fun _ h => h⟩
  · obtain ⟨a, ws, h1, h2, h3, h4, h5, h6⟩ := r.own j ds e
    exact ⟨a, ws, h1, by rw [upd_ne (show a ≠ p from h6)]; exact h2, h3.mono kp fun _ h => h, h4, h5, h6⟩
  · rw [upd_ne (show b ≠ p from m)]
    exact r.old b o e m
  · rw [upd_ne (fun z : b = p => np (z ▸ n))]
    exact r.has b n
  · rw [upd_ne (show b ≠ p from m)]
    exact e
  · by_cases z : b = p
    · rw [z, upd_same]; exact fun q => nomatch q
    · rw [upd_ne z]; exact h
/-- the list handed in, written by another -/
theorem Rep.toldC {σ : L2.St} {ρ : Env} {N N' : Addr → Prop} {H H' : Hp} {us : List V} {m : Nat} (r : Rep (ctxT K H0 N0 p i T) σ ρ N H)
    (n1 : ∀ b, N b → N' b) (n2 : ∀ b, N' b → N b ∨ H b = none) (n3 : ∀ b, N' b → H' b ≠ none) (keep : ∀ b o, b ≠ p → H b = some o → H' b = some o) (hv : H' p = some (.lst us)) (hd : Dns K H' N' us (T.take m)) :
    Rep (ctxT K H0 N0 p i T) σ ⟨ρ.sl, m⟩ N' H' ∧ Fr (ctxT K H0 N0 p i T) σ ρ N σ ⟨ρ.sl, m⟩ N' H H' := by
  obtain ⟨N1, _, vs, hp, _⟩ := r.j
  have np : ¬ N p := fun z => (r.new p z).2 rfl
  have np' : ¬ N' p := fun z => by
    rcases n2 p z with z | z
    · exact np z
    · rw [hp] at z; cases z
  obtain ⟨r1, f1⟩ := r.after ctxT_ok n1 n2 (fun b n => by
    unfold heapBut
    rw [if_neg (fun z : b = p => np' (z ▸ n))]
    exact n3 b n) (heapBut_same keep)
  obtain ⟨r2, f2⟩ := r1.told (m := m) (hd.mono (heapBut_kp hv np') fun _ h => h)
  rw [heapBut_upd hv] at r2 f2
  exact ⟨r2, f1.trans f2⟩
/-- told.append(e) -/
def wTold (T : List PyData) (a : WE) : WE := fun ρ P => a ρ fun d ρ1 => T.length ≤ 16777216 ∧ T[ρ1.went]? = some d ∧ P .none ⟨ρ1.sl, ρ1.went + 1⟩
theorem fe_told {t : TE} {a : WE} (h : FE (ctxT K H0 N0 p i T) t a) : FE (ctxT K H0 N0 p i T) (tBM K "list" rAppend (tVar i) (tCons t tNil)) (wTold T a) := fun σ H ρ N Q P r w k => by
  have h1 := (r.fix i (List.mem_singleton.mpr rfl)).1
  obtain ⟨_, _, vs0, hp0, _⟩ := r.j
  refine ⟨.ref p, h1, .inl ⟨rfl, vs0, SqL.of hp0⟩, ?_⟩
  refine h σ H ρ N _ _ r w fun v H1 N1 ρ1 d w1 n1 f1 r1 hd => ?_
  obtain ⟨l, e, w1⟩ := w1
  obtain ⟨N2, s2, vs, hp, ht⟩ := r1.j
  have lt := (List.getElem?_eq_some_iff.mp e).1
  have lv : vs.length = ρ1.went := by rw [ht.len, List.length_take]; omega
  refine ⟨p, vs, v, rfl, rfl, hp, by rw [szl, lv]; omega, ?_⟩
  obtain ⟨r2, f2⟩ := r1.told (us := vs ++ [v]) (m := ρ1.went + 1) (by
    rw [List.take_succ, e]
    exact (ht.mono .refl s2).append (.cons hd .nil))
  exact k .non _ N1 _ .none w1 n1 (f1.trans f2) r2 .non
/-- the promise of a def that tells into the list handed in: f says what -/
def spT (n : Nat) (f : List PyData → Option (List PyData)) (K : PySem.W.Frag) : Sp := fun vs H Q _ => ∃ (N : Addr → Prop) (p : Addr) (us ws : List V) (es ds L : List PyData), vs = .ref p :: ws ∧ ds.length = n ∧ H p = some (.lst us) ∧ ¬ N p ∧ Dns K H N us es ∧ Dns K H N ws ds ∧ (∀ b, N b → H b ≠ none) ∧
  f ds = some L ∧ es.length + L.length ≤ 16777216 ∧
  ∀ H' N' us', (∀ b, N b → N' b) → (∀ b, N' b → N b ∨ H b = none) → (∀ b, N' b → H' b ≠ none) → (∀ b o, b ≠ p → H b = some o → H' b = some o) → H' p = some (.lst us') → Dns K H' N' us' (es ++ L) → Q .non H'
theorem spT_len {n : Nat} {f : List PyData → Option (List PyData)} {K : PySem.W.Frag} {vs : List V} {H : Hp} {Q : VK} {E : XK} (h : spT n f K vs H Q E) : vs.length = n + 1 := by
  obtain ⟨N, p, us, ws, es, ds, L, rfl, l, _, _, _, t, _⟩ := h
  rw [List.length_cons, t.len, l]
/-- f(told, ..), told an own list -/
def wCallO (i n : Nat) (f : List PyData → Option (List PyData)) (a : WA) : WE := fun ρ P => (ownOf (ρ.at i)).isSome = true ∧ a ρ fun ds ρ1 => ds.length = n ∧ ∃ es L, ownOf (ρ1.at i) = some es ∧ f ds = some L ∧ es.length + L.length ≤ 16777216 ∧ P .none (ρ1.put i (.own (es ++ L)))
theorem fe_callO (ok : C.Ok) {i n : Nat} {f : List PyData → Option (List PyData)} {t : TA} {a : WA} {E : XK} (h : FA C t a) : FE C (tCall (spT n f C.K) [] E (tCons (tVar i) t)) (wCallO i n f a) := fun σ H ρ N Q P r w k => by
  obtain ⟨w0, w⟩ := w
  obtain ⟨ds0, e0⟩ := Option.isSome_iff_exists.mp w0
  obtain ⟨p, vs, h1, h2, _⟩ := r.own i ds0 (ownOf_eq e0)
  refine ⟨.ref p, h1, ?_⟩
  refine h σ H ρ N _ _ r w fun ws H1 N1 ρ1 ds w1 n1 f1 r1 hd => ?_
  obtain ⟨l, es, L, e1, e2, l2, w1⟩ := w1
  have e1 := ownOf_eq e1
  obtain ⟨p', us, g1, g2, g3, g4, g5, g6⟩ := r1.own i es e1
  rw [h1] at g1
  cases g1
  refine ⟨N1, p, us, ws, es, ds, L, by rw [List.append_nil], l, g2, g4, g3, hd, r1.has, e2, l2, fun H2 N2 us2 m1 m2 m3 kp hv hu => ?_⟩
  obtain ⟨r2, f2⟩ := r1.writeC ok e1 h1 m1 m2 m3 kp hv hu
  exact k .non H2 N2 _ .none w1 (fun b h => m1 b (n1 b h)) (f1.trans f2) r2 .non
/-- f(told, ..), told the list handed in -/
def wCallT (T : List PyData) (n : Nat) (f : List PyData → Option (List PyData)) (a : WA) : WE := fun ρ P => a ρ fun ds ρ1 => ds.length = n ∧ T.length ≤ 16777216 ∧ ∃ L, f ds = some L ∧ T.take ρ1.went ++ L = T.take (ρ1.went + L.length) ∧ P .none ⟨ρ1.sl, ρ1.went + L.length⟩
theorem fe_callT {n : Nat} {f : List PyData → Option (List PyData)} {t : TA} {a : WA} {E : XK} (h : FA (ctxT K H0 N0 p i T) t a) : FE (ctxT K H0 N0 p i T) (tCall (spT n f K) [] E (tCons (tVar i) t)) (wCallT T n f a) := fun σ H ρ N Q P r w k => by
  refine ⟨.ref p, (r.fix i (List.mem_singleton.mpr rfl)).1, ?_⟩
  refine h σ H ρ N _ _ r w fun ws H1 N1 ρ1 ds w1 n1 f1 r1 hd => ?_
  obtain ⟨l, l2, L, e2, e3, w1⟩ := w1
  obtain ⟨N2, s2, us, hp, ht⟩ := r1.j
  refine ⟨N1, p, us, ws, _, ds, L, by rw [List.append_nil], l, hp, fun z => (r1.new p z).2 rfl, ht.mono .refl s2, hd, r1.has, e2, ?_, fun H2 N3 us2 m1 m2 m3 kp hv hu => ?_⟩
  · rw [← List.length_append, e3, List.length_take]
    omega
  · rw [e3] at hu
    obtain ⟨r2, f2⟩ := r1.toldC m1 m2 m3 kp hv hu
    exact k .non H2 N3 _ .none w1 (fun b h => m1 b (n1 b h)) (f1.trans f2) r2 .non
end WD
namespace WD
open PySem PySem.Spec PyProof.Rows L2
/-! ### a def that tells into the list handed in first -/
def envT (k : Nat) (ds : List PyData) (m : Nat) : Env := ⟨.un :: (env0 ds m).sl, k⟩
theorem envT_at {k m j : Nat} {ds : List PyData} : (envT k ds m).at (j + 1) = (env0 ds m).at j := rfl
def toldAll (T : List PyData) : Fl → Prop
  | .nx ρ => ρ.went = T.length
  | _ => False
variable {K : PySem.W.Frag}
theorem repT {H : Hp} {N : Addr → Prop} {p : Addr} {us ws : List V} {es ds L : List PyData} {m : Nat} (hp : H p = some (.lst us)) (np : ¬ N p) (tu : Dns K H N us es) (tw : Dns K H N ws ds) (hN : ∀ b, N b → H b ≠ none) :
    Rep (ctxT K H N p 0 (es ++ L)) (some (.ref p) :: (ws.map some ++ List.replicate m none)) (envT es.length ds m) N H := by
  have r := rep0 (n := m) tw hN
  refine {
    len := congrArg Nat.succ r.len
    dat := fun i d e => ?_
    own := fun i fs e => ?_
    sep := fun i j fs gs a _ e _ _ _ => ?_
    fix := fun q hq => ?_
    old := fun b o e _ => e
    new := fun b n => ⟨.inl n, fun z => np ((show b = p from z) ▸ n)⟩
    has := hN
    mh := fun b z => ⟨us, by rw [show b = p from z]; exact hp⟩
    j := ⟨N, fun _ h => h, us, hp, by rw [show (envT es.length ds m).went = es.length from rfl, List.take_left]; exact tu⟩ }
  · cases i with
    | zero => cases e
    | succ i => exact r.dat i d e
  · cases i with
    | zero => cases e
    | succ i => exact (env0_own (i := i) (ds := ds) (n := m) e).elim
  · cases i with
    | zero => cases e
    | succ i => exact env0_own (i := i) (ds := ds) (n := m) e
  · cases List.mem_singleton.mp hq
    exact ⟨rfl, rfl⟩
theorem body_T {t : TS} {W : Addr → List PyData → WS} {n m : Nat} {H : Hp} {vs : List V} {Q : VK} {E : XK} {Nn : Nat} {g : List PyData → Option (List PyData)} (h : ∀ N p T, FS (ctxT K H N p 0 T) t (W p T)) (hs : spT n g K vs H Q E) (hm : Nn - (n + 1) = m)
    (hw : ∀ p es ds L, ds.length = n → g ds = some L → es.length + L.length ≤ 16777216 → W p (es ++ L) (envT es.length ds m) (toldAll (es ++ L))) :
    t { nx := fun _ H' => Q .non H', rt := Q } (vs.map some ++ List.replicate (Nn - vs.length) none) H := by
  have hl := spT_len hs
  obtain ⟨N, p, us, ws, es, ds, L, rfl, l, hp, np, tu, tw, hN, e, b, q⟩ := hs
  rw [hl, hm]
  refine h N p (es ++ L) _ _ H _ N _ (repT hp np tu tw hN) (hw p es ds L l e b) {
    nx := fun σ' H' N' ρ' pr n1 f r => ?_
    rt := fun v H' N' ρ' σ' d pr n1 f r hd => pr.elim
    bk := fun σ' H' N' ρ' pr n1 f r => pr.elim
    ct := fun σ' H' N' ρ' pr n1 f r => pr.elim }
  obtain ⟨N1, s1, us', hp', ht⟩ := r.j
  have pr : ρ'.went = (es ++ L).length := pr
  rw [pr, List.take_length] at ht
  refine q H' N' us' n1 (fun b nb => (r.new b nb).1) r.has (fun b o ne e => ?_) hp' (ht.mono .refl s1)
  exact r.old b o e ne
end WD
namespace WK
open PySem PySem.Spec PyProof.Rows L2 WD
section
variable {P : Program} {w : World} {K : PySem.W.Frag} {mg : Str → Option Value} {base : Heap}
abbrev s_walk_into : Stmt := topS 28
theorem sc_walk_into : FnScope ["told", "k", "path", "e", "i", "spot", "part"] ["told", "k", "path", "e"] (defScope s_walk_into) := ⟨rfl, rfl, rfl, by decide +kernel, rfl, by decide +kernel, by decide +kernel⟩
def w_walk_into (g : List PyData → Option (List PyData)) (p : Addr) (T : List PyData) : WS := (wSeq (wDrop (wTold T (wTup (wCons (wVar 1) (wCons (wVar 2) (wCons (wVar 3) wNil))))))
  (wIfS (wB (wInTab false kvs_PART_SPOTS (wOp fIxT (wVar 3) (wK (.int 0))))) (wFor (wItET (wCons (wIxTab kvs_PART_SPOTS (wOp fIxT (wVar 3) (wK (.int 0)))) wNil)) (wgTup 2 (wgCons (wName [0] 4) (wgCons (wName [0] 5) wgNil))) (wDrop (wCallT T 3 g (wCons (wVar 1) (wCons (wTup (wStar (wVar 2) (wCons (wVar 4) wNil))) (wCons (wOp fIxT (wVar 3) (wVar 5)) wNil)))))) (wIfS (wB (wOp fEq (wOp fIxT (wVar 3) (wK (.int 0))) (wK (.str "call")))) (wFor (wItE (wCons (wOp fIxT (wVar 3) (wK (.int 2))) wNil)) (wgTup 2 (wgCons (wName [0] 4) (wgCons (wName [0] 6) wgNil))) (wDrop (wCallT T 3 g (wCons (wVar 1) (wCons (wTup (wStar (wVar 2) (wCons (wVar 4) wNil))) (wCons (wVar 6) wNil)))))) wNext)))
theorem st_walk_into {n : Nat} {g g2 : List PyData → Option (List PyData)} {f : Addr} {fd : FuncData} (F : Fun K "_walk_into" "_walk_into" s_walk_into f fd) (m_enumerate : mg "enumerate" = none) {p_PART_SPOTS : Addr} (t_PART_SPOTS : TabD K w mg "PART_SPOTS" p_PART_SPOTS kvs_PART_SPOTS) {f_walk_into : Addr} {fd_walk_into : FuncData} (c_walk_into : Cal P w K mg base CX0 n f_walk_into fd_walk_into "_walk_into" ["told", "k", "path", "e"] (spT 3 g K))
    (hw : ∀ p es ds L, ds.length = 3 → g2 ds = some L → es.length + L.length ≤ 16777216 → w_walk_into g p (es ++ L) (envT es.length ds 3) (toldAll (es ++ L))) : FnOk P w K mg base CX0 (n + 1) f fd ["told", "k", "path", "e"] (spT 3 g2 K) := by
  refine F.ok sc_walk_into (fun vs H Q E h => spT_len h) (fun cdv A outer s H vs Q E hr h => ?_)
  refine ⟨_, (pss_cons (ps_expr (pe_bm PySem.F.plainAttrs_list PySem.F.slot_list_append PySem.F.type_list_append mt_append (pv 0) (pa_cons (pe_tup (pa_cons (pv 1) (pa_cons (pv 2) (pa_cons (pv 3) pa_nil)))) pa_nil)))
        (pss_one (ps_if (pt_cmpR (op_in_kd t_PART_SPOTS.D.choose_spec.choose_spec) (pe_ix (r := rIxT K) ix_tup (pv 3) pe_int (fun _ _ => rfl)) (pe_glob (v := .ref p_PART_SPOTS) (by rfl) t_PART_SPOTS.g rfl) (by rfl)) (pss_one (ps_for PassesOwn.never rfl (pi_enumT (by rfl) m_enumerate (pa_cons (pe_ix (L2.ix_kdict) (pe_glob (v := .ref p_PART_SPOTS) (by rfl) t_PART_SPOTS.g rfl) (pe_ix (r := rIxT K) ix_tup (pv 3) pe_int (fun _ _ => rfl)) (fun _ _ => rfl)) pa_nil)) (pg_tup (by rfl) (pgs_cons (pg_name (i := 4) sc_walk_into.nd rfl (Or.inl rfl)) (pgs_cons (pg_name (i := 5) sc_walk_into.nd rfl (Or.inl rfl)) pgs_nil))) (pss_one (ps_expr (pe_call c_walk_into.G (hr.mono (by omega)) (by rfl) c_walk_into.g c_walk_into.kp c_walk_into.b .nil pass0 (pa_cons (pv 0) (pa_cons (pv 1) (pa_cons (pe_tup (StX.pa_star (pv 2) (pa_cons (pv 4) pa_nil))) (pa_cons (pe_ix (r := rIxT K) ix_tup (pv 3) (pv 5) (fun _ _ => rfl)) pa_nil))))))))) (pss_one (ps_if (pt_cmpR op_eq (pe_ix (r := rIxT K) ix_tup (pv 3) pe_int (fun _ _ => rfl)) pe_str (nomark _)) (pss_one (ps_for PassesOwn.never rfl (pi_enum (by rfl) m_enumerate (pa_cons (pe_ix (r := rIxT K) ix_tup (pv 3) pe_int (fun _ _ => rfl)) pa_nil)) (pg_tup (by rfl) (pgs_cons (pg_name (i := 4) sc_walk_into.nd rfl (Or.inl rfl)) (pgs_cons (pg_name (i := 6) sc_walk_into.nd rfl (Or.inl rfl)) pgs_nil))) (pss_one (ps_expr (pe_call c_walk_into.G (hr.mono (by omega)) (by rfl) c_walk_into.g c_walk_into.kp c_walk_into.b .nil pass0 (pa_cons (pv 0) (pa_cons (pv 1) (pa_cons (pe_tup (StX.pa_star (pv 2) (pa_cons (pv 4) pa_nil))) (pa_cons (pv 6) pa_nil))))))))) pss_nil))))), ?_⟩
  refine body_T (m := 3) (W := w_walk_into g) (fun N p T => ?_) h rfl hw
  have ok := @ctxT_ok K H N p 0 T
  exact (fs_seq (fs_drop (fe_told (fe_tup ok (fa_cons fe_var (fa_cons fe_var (fa_cons fe_var fa_nil))))))
        (fs_if (ft_test (fe_inTab t_PART_SPOTS.T (fe_op fr_ixT' fe_var fe_int))) (fs_for (fi_enumT ok (fa_cons (fe_ixTab t_PART_SPOTS.D.choose_spec.choose_spec t_PART_SPOTS.T (fe_op fr_ixT' fe_var fe_int)) fa_nil)) (fg_tup (fg_cons fg_name (fg_cons fg_name fg_nil))) (fs_drop (fe_callT (fa_cons fe_var (fa_cons (fe_tup ok (fa_star fe_var (fa_cons fe_var fa_nil))) (fa_cons (fe_op fr_ixT' fe_var fe_var) fa_nil)))))) (fs_if (ft_test (fe_op fr_eq (fe_op fr_ixT' fe_var fe_int) fe_str)) (fs_for (fi_enum ok (fa_cons (fe_op fr_ixT' fe_var fe_int) fa_nil)) (fg_tup (fg_cons fg_name (fg_cons fg_name fg_nil))) (fs_drop (fe_callT (fa_cons fe_var (fa_cons (fe_tup ok (fa_star fe_var (fa_cons fe_var fa_nil))) (fa_cons fe_var fa_nil)))))) fs_next)))
end
end WK
namespace WK
open PySem PySem.Spec PyProof.Rows L2 WD
/-! what _walk_into tells: an expression with its place, then its parts with theirs -/
def pickL (es : List PyData) : List PyData → Option (List PyData)
  | [] => some []
  | .int j :: r => match atI es j, pickL es r with
    | some d, some ds => some (d :: ds)
    | _, _ => none
  | _ :: _ => none
def partsD : PyData → Option (List PyData)
  | .tuple (.str x :: r) => match kvs_PART_SPOTS.lookup x with
    | some (.tuple ss) => pickL (.str x :: r) ss
    | some _ => none
    | none => if x = "call" then (match atI (.str x :: r) 2 with
      | some (.list ps) => some ps
      | _ => none) else some []
  | _ => none
def walkL (g : List PyData → Option (List PyData)) (k : PyData) (p : List PyData) : List PyData → Nat → Option (List PyData)
  | [], _ => some []
  | d :: ds, i => match g [k, .tuple (p ++ [.int (i : Nat)]), d], walkL g k p ds (i + 1) with
    | some a, some b => some (a ++ b)
    | _, _ => none
def walkB : Nat → List PyData → Option (List PyData)
  | 0, _ => none
  | n + 1, [k, .tuple p, e] => match partsD e with
    | some ps => if p.length < 16777216 then (walkL (walkB n) k p ps 0).map (.tuple [k, .tuple p, e] :: ·) else none
    | none => none
  | _ + 1, _ => none
def numF (i : Nat) : List PyData → List PyData
  | [] => []
  | d :: ds => .tuple [.int (i : Nat), d] :: numF (i + 1) ds
theorem numF_eq (ds : List PyData) : ∀ i, (ds.zipIdx i).map (fun p => PyData.tuple [.int (p.2 : Nat), p.1]) = numF i ds := by
  induction ds with
  | nil => intro i; rfl
  | cons d ds ih => intro i; rw [List.zipIdx_cons, List.map_cons, ih]; rfl
theorem numbered_numF (ds : List PyData) : numbered ds = numF 0 ds := numF_eq ds 0
theorem walkL_cons {g : List PyData → Option (List PyData)} {k d : PyData} {p ds L : List PyData} {i : Nat} (h : walkL g k p (d :: ds) i = some L) : ∃ a b, g [k, .tuple (p ++ [.int (i : Nat)]), d] = some a ∧ walkL g k p ds (i + 1) = some b ∧ L = a ++ b := by
  unfold walkL at h
  split at h
  · rename_i a b h1 h2
    exact ⟨a, b, h1, h2, (Option.some.inj h).symm⟩
  · cases h
theorem take_pre {T pre a b : List PyData} (h : T = pre ++ (a ++ b)) : T.take pre.length ++ a = T.take (pre.length + a.length) := by
  subst h
  rw [List.take_left, List.take_append, List.take_of_length_le (by omega), Nat.add_sub_cancel_left, List.take_left]
abbrev en7 (k p e : PyData) (x y z : En) : List En := [.un, .dat k, .dat p, .dat e, x, y, z]
theorem loop_list {g : List PyData → Option (List PyData)} {T p : List PyData} {k e : PyData} {q : Addr} (hT : T.length ≤ 16777216) (hp : p.length < 16777216) : ∀ (ds : List PyData) (i : Nat) (x y z : En) (pre L : List PyData), walkL g k p ds i = some L → T = pre ++ L →
    wLoop (wgTup 2 (wgCons (wName [0] 4) (wgCons (wName [0] 6) wgNil))) (wDrop (wCallT T 3 g (wCons (wVar 1) (wCons (wTup (wStar (wVar 2) (wCons (wVar 4) wNil))) (wCons (wVar 6) wNil))))) (numF i ds) ⟨en7 k (.tuple p) e x y z, pre.length⟩ (toldAll T)
  | [], i, x, y, z, pre, L, h, hL => by
    cases h
    rw [List.append_nil] at hL
    show pre.length = T.length
    rw [hL]
  | d :: ds, i, x, y, z, pre, L, h, hL => by
    obtain ⟨a, b, h1, h2, rfl⟩ := walkL_cons h
    have ih := loop_list (q := q) (e := e) hT hp ds (i + 1) (.dat (.int (i : Nat))) y (.dat d) (pre ++ a) b h2 (by rw [List.append_assoc]; exact hL)
    rw [List.length_append] at ih
    refine ⟨rfl, rfl, by show 4 < 7; decide, rfl, by show 6 < 7; decide, rfl, ?_⟩
    refine ⟨by rw [List.length_append]; exact hp, ?_⟩
    exact ⟨rfl, hT, a, h1, take_pre hL, ih⟩
theorem loop_spots {g : List PyData → Option (List PyData)} {T p es : List PyData} {k : PyData} {q : Addr} (hT : T.length ≤ 16777216) (hp : p.length < 16777216) : ∀ (ss ds : List PyData) (i : Nat) (x y z : En) (pre L : List PyData), pickL es ss = some ds → walkL g k p ds i = some L → T = pre ++ L →
    wLoop (wgTup 2 (wgCons (wName [0] 4) (wgCons (wName [0] 5) wgNil))) (wDrop (wCallT T 3 g (wCons (wVar 1) (wCons (wTup (wStar (wVar 2) (wCons (wVar 4) wNil))) (wCons (wOp fIxT (wVar 3) (wVar 5)) wNil))))) (numF i ss) ⟨en7 k (.tuple p) (.tuple es) x y z, pre.length⟩ (toldAll T)
  | [], ds, i, x, y, z, pre, L, hs, h, hL => by
    cases hs
    cases h
    rw [List.append_nil] at hL
    show pre.length = T.length
    rw [hL]
  | s :: ss, ds0, i, x, y, z, pre, L, hs, h, hL => by
    unfold pickL at hs
    split at hs
    · cases ‹_ = ([] : List PyData)›
    · rename_i j r e0
      cases e0
      split at hs
      · rename_i d ds hd hr
        cases hs
        obtain ⟨a, b, h1, h2, rfl⟩ := walkL_cons h
        have ih := loop_spots (q := q) hT hp ss ds (i + 1) (.dat (.int (i : Nat))) (.dat (.int j)) z (pre ++ a) b hr h2 (by rw [List.append_assoc]; exact hL)
        rw [List.length_append] at ih
        refine ⟨rfl, rfl, by show 4 < 7; decide, rfl, by show 5 < 7; decide, rfl, ?_⟩
        refine ⟨by rw [List.length_append]; exact hp, ?_⟩
        exact ⟨d, hd, rfl, hT, a, h1, take_pre hL, ih⟩
      · cases hs
    · cases hs
theorem walk_hw {n : Nat} (q : Addr) (es ds L : List PyData) (h3 : ds.length = 3) (h : walkB (n + 1) ds = some L) (hb : es.length + L.length ≤ 16777216) : w_walk_into (walkB n) q (es ++ L) (envT es.length ds 3) (toldAll (es ++ L)) := by
  unfold walkB at h
  split at h
  · cases h
  · rename_i m k p e e1
    cases e1
    split at h
    · rename_i ps hps
      split at h
      · rename_i hp
        obtain ⟨M, hM, rfl⟩ := Option.map_eq_some_iff.mp h
        have hT : (es ++ (PyData.tuple [k, .tuple p, e] :: M)).length ≤ 16777216 := by rw [List.length_append]; exact hb
        have hL : es ++ (PyData.tuple [k, .tuple p, e] :: M) = (es ++ [PyData.tuple [k, .tuple p, e]]) ++ M := by simp
        have hl1 : (es ++ [PyData.tuple [k, .tuple p, e]]).length = es.length + 1 := by simp
        generalize hTT : es ++ (PyData.tuple [k, .tuple p, e] :: M) = T at hT hL
        have at0 : T[es.length]? = some (.tuple [k, .tuple p, e]) := by rw [← hTT]; simp
        refine ⟨by show 3 ≤ 16777216; decide, hT, at0, ?_⟩
        unfold partsD at hps
        split at hps
        · rename_i x r
          have hx : atI (PyData.str x :: r) 0 = some (.str x) := by
            unfold atI ixN
            rw [if_pos (Int.le_refl 0), if_pos (by simp only [List.length_cons]; omega)]
            rfl
          refine ⟨.str x, hx, ?_⟩
          have lists := fun (M : List PyData) ds h hL => loop_list (q := q) (e := .tuple (.str x :: r)) (g := walkB n) (k := k) hT hp ds 0 .un .un .un (es ++ [PyData.tuple [k, .tuple p, .tuple (.str x :: r)]]) M h hL
          have spots := fun (ss ds : List PyData) h h2 => loop_spots (q := q) (es := .str x :: r) (g := walkB n) (k := k) hT hp ss ds 0 .un .un .un (es ++ [PyData.tuple [k, .tuple p, .tuple (.str x :: r)]]) M h h2 hL
          rw [hl1] at spots
          cases lk : kvs_PART_SPOTS.lookup x with
          | some v =>
            rw [lk] at hps
            show (if (xor false (kvs_PART_SPOTS.lookup x).isSome) = true then _ else _)
            rw [lk, if_pos (by rfl)]
            cases v <;> first | (cases hps; done) | skip
            rename_i ss
            refine ⟨.str x, hx, .tuple ss, lk, ?_⟩
            show wLoop _ _ (numbered ss) _ _
            rw [numbered_numF]
            exact spots ss ps hps hM
          | none =>
            rw [lk] at hps
            show (if (xor false (kvs_PART_SPOTS.lookup x).isSome) = true then _ else _)
            rw [lk, if_neg (by decide)]
            refine ⟨.str x, hx, _, rfl, ?_⟩
            by_cases hc : x = "call"
            · have hps : (match atI (PyData.str x :: r) 2 with | some (.list ps) => some ps | _ => none) = some ps := by rw [if_pos hc] at hps; exact hps
              show (if decide (x = ("call" : Str)) = true then _ else _)
              rw [if_pos (decide_eq_true hc)]
              split at hps
              · rename_i ps' h2
                cases hps
                refine ⟨.list ps, h2, ?_⟩
                show wLoop _ _ (numbered ps) _ _
                rw [numbered_numF]
                have := lists M ps hM hL
                rw [hl1] at this
                exact this
              · cases hps
            · have hps : some ([] : List PyData) = some ps := by rw [if_neg hc] at hps; exact hps
              cases hps
              cases hM
              show (if decide (x = ("call" : Str)) = true then _ else _)
              rw [if_neg (by simpa using hc)]
              show es.length + 1 = T.length
              rw [hL, List.append_nil, hl1]
        · cases hps
      · cases h
    · cases h
  · cases h
section
variable {P : Program} {w : World} {K : PySem.W.Frag} {mg : Str → Option Value} {base : Heap}
theorem walk_all {f : Addr} {fd : FuncData} (hf : mg "_walk_into" = some (.ref f)) (F : Fun K "_walk_into" "_walk_into" s_walk_into f fd) (m_enumerate : mg "enumerate" = none) {p_PART_SPOTS : Addr} (t_PART_SPOTS : TabD K w mg "PART_SPOTS" p_PART_SPOTS kvs_PART_SPOTS) :
    ∀ n, FnOk P w K mg base CX0 n f fd ["told", "k", "path", "e"] (spT 3 (walkB n) K)
  | 0 => ⟨fun _ _ _ _ h => (by obtain ⟨_, _, _, _, _, _, _, _, _, _, _, _, _, _, e, _⟩ := h; cases e), fun _ _ _ _ _ _ _ _ _ _ _ _ _ h => (by obtain ⟨_, _, _, _, _, _, _, _, _, _, _, _, _, _, e, _⟩ := h; cases e)⟩
  | n + 1 => st_walk_into F m_enumerate t_PART_SPOTS (f_walk_into := f) (fd_walk_into := fd) ⟨walk_all hf F m_enumerate t_PART_SPOTS n, hf, F.kp, F.binds (ps := ["told", "k", "path", "e"]) fun _ _ _ _ _ _ us hl => match us, hl with | [_, _, _, _], _ => rfl⟩ walk_hw
end
def sp_walk_into (K : PySem.W.Frag) : Sp := spT 3 (walkB 12) K
end WK
namespace WK
open PySem PySem.Spec PyProof.Rows L2 WD
theorem iteT' {A B : Prop} (h : A) : if true = true then A else B := by rw [if_pos rfl]; exact h
theorem comp_pick {es : List PyData} {a b c : En} {n : Nat} {P : List PyData → WD.Env → Prop} : ∀ (ss ds acc : List PyData), pickL es ss = some ds → acc.length + ds.length ≤ 1000 → P (acc ++ ds) ⟨[.dat (.tuple es), a, b, c, .un], n⟩ →
    wComp (wName [] 4) wYes (wOp fIxT (wVar 0) (wVar 4)) [4] ss [.dat (.tuple es), a, b, c, .un] n acc P
  | [], ds, acc, h, _, p => by
    cases h
    rw [List.append_nil] at p
    exact p
  | s :: ss, ds0, acc, h, l, p => by
    unfold pickL at h
    split at h
    · cases ‹_ = ([] : List PyData)›
    · rename_i j r e0
      cases e0
      split at h
      · rename_i d ds hd hr
        cases h
        rw [List.length_cons] at l
        have ih := comp_pick (a := a) (b := b) (c := c) (n := n) (P := P) ss ds (acc ++ [d]) hr (by rw [List.length_append]; simp only [List.length_cons, List.length_nil]; omega) (by rw [List.append_assoc]; exact p)
        refine ⟨rfl, by show 4 < 5; decide, ?_⟩
        exact ⟨d, hd, rfl, by omega, ih⟩
      · cases h
    · cases h
/-- the known flows -/
abbrev knD (ks : List Str) : PyData := .dict (keysD ks)
theorem tells_own {es ss ds : List PyData} {x : Str} {n : Int} {ks : List Str} {f : W1} (hx : x ≠ "call") (h1 : kvs_SIZES.lookup x = some (.int n)) (h2 : (es.length : Int) = n) (h3 : fs_OWN_FORMS.lookup x = some f) (h4 : TellsW f [.tuple es] (.bool true))
    (h5 : kvs_NAME_SPOTS.lookup x = none ∨ ∃ j y, kvs_NAME_SPOTS.lookup x = some (.int j) ∧ atI es j = some (.str y) ∧ inD (keysD ks) y = true) (h6 : (kvs_PART_SPOTS.lookup x).getD (.tuple []) = .tuple ss) (h7 : pickL es ss = some ds) (h8 : ds.length ≤ 1000) :
    TellsW f_own_parts [.tuple es, .str x, knD ks] (.list ds) := fun P p => by
  refine ⟨true, ?_, ?_⟩
  · show eqFlat ((kvs_SIZES.lookup x).getD .none) (.int (es.length : Nat)) = some true
    rw [h1]
    show some (decide (n = _)) = some true
    rw [decide_eq_true h2.symm]
  show (if (!true) = true then _ else _)
  rw [if_neg (by decide)]
  refine ⟨f, h3, rfl, by show 3 < 5; decide, rfl, h4 _ ?_⟩
  refine ⟨false, ?_, ?_⟩
  · show some (decide (x = "call")) = some false
    rw [decide_eq_false hx]
  show (if false = true then _ else _)
  rw [if_neg (by decide)]
  have go : P (.list ds) → (wRet (wTell (wLc [] (wItT (wTabGet2 kvs_PART_SPOTS (wVar 1) (wTup wNil))) (wName [] 4) wYes (wOp fIxT (wVar 0) (wVar 4)) [4]))) ⟨[.dat (.tuple es), .dat (.str x), .dat (knD ks), .un, .un], 0⟩ (fun f => match f with
      | .nx _ => P .none
      | .rt d _ => P d
      | _ => False) := fun p => by
    refine ⟨by decide, ?_⟩
    show (match (kvs_PART_SPOTS.lookup x).getD (.tuple []) with | .tuple ds => _ | _ => False)
    rw [h6]
    exact ⟨⟨rfl, rfl⟩, comp_pick ss ds [] h7 (by simpa using h8) p⟩
  show (if (xor false (kvs_NAME_SPOTS.lookup x).isSome) = true then _ else _)
  rcases h5 with h5 | ⟨j, y, h5, h9, h10⟩
  · rw [h5, if_neg (by decide)]
    exact go p
  · rw [h5, if_pos (by rfl)]
    refine ⟨.int j, h5, .str y, h9, ?_⟩
    show (if (xor true (inD (keysD ks) y)) = true then _ else _)
    rw [h10, if_neg (by decide)]
    exact go p
end WK
namespace WK
open PySem PySem.Spec PyProof.Rows L2 WD
def NumD : PyData → Prop
  | .int i => 0 ≤ i ∧ i < 10 ^ 12
  | _ => False
/-- a number or a truth, as a thing -/
inductive Atom : PyData → Prop
  | num {i : Int} (h : 0 ≤ i) (h2 : i < 10 ^ 12) : Atom (.tuple [.str "num", .int i])
  | truth (b : Bool) : Atom (.tuple [.str "truth", .bool b])
theorem tells_num {x : PyData} {i : Int} (h : 0 ≤ i) (h2 : i < 10 ^ 12) : TellsW f_num_by_form [.tuple [x, .int i]] (.bool true) := fun P p => by
  refine ⟨.int i, rfl, rfl, tells_whole _ ?_⟩
  refine ⟨.int i, rfl, ?_⟩
  show (match (PyData.bool (decide ((0 : Int) ≤ i))) with | .bool true => _ | .bool false => _ | _ => False)
  rw [decide_eq_true h]
  refine ⟨⟨by decide, by decide +kernel⟩, ?_⟩
  show P (.bool (decide (i < 10 ^ (12 : Int).toNat)))
  rw [decide_eq_true (show i < 10 ^ (12 : Int).toNat from h2)]
  exact p
theorem tells_truth {x : PyData} {b : Bool} : TellsW f_truth_by_form [.tuple [x, .bool b]] (.bool true) := fun P p => ⟨.bool b, rfl, p⟩
theorem tells_flow {x : PyData} {y : Str} {r : List PyData} (h : NameS y) : TellsW f_flow_by_form [.tuple (x :: .str y :: r)] (.bool true) := fun P p => by
  have e : atI (x :: PyData.str y :: r) 1 = some (.str y) := by
    unfold atI ixN
    rw [if_pos (by decide), if_pos (by simp only [List.length_cons]; omega)]
    rfl
  exact ⟨.str y, e, rfl, tells_name h _ p⟩
theorem tells_then {x k c : PyData} (h : Atom k) : TellsW f_then_by_form [.tuple [x, k, c]] (.bool true) := fun P p => by
  cases h with
  | num h h2 => exact ⟨_, rfl, rfl, by show 1 < 2; decide, true, rfl, _, rfl, true, rfl, rfl, tells_num h h2 _ p⟩
  | truth b => exact ⟨_, rfl, rfl, by show 1 < 2; decide, true, rfl, _, rfl, false, rfl, _, rfl, true, rfl, rfl, tells_truth _ p⟩
theorem tells_when {x a : PyData} {y : Str} {b : Bool} (h : NameS y) : TellsW f_when_by_form [.tuple [x, a, .str y, .bool b]] (.bool true) := fun P p => ⟨.str y, rfl, rfl, tells_name h _ ⟨.bool b, rfl, p⟩⟩
theorem tells_beats {x : PyData} {y z : Str} (h : SignsS y) (h2 : SignsS z) (h3 : 1 ≤ z.length) : TellsW f_beats_by_form [.tuple [x, .str y, .str z]] (.bool true) := fun P p => by
  have l1 := h.1
  have l2 := h2.1
  refine ⟨_, rfl, _, rfl, rfl, rfl, by show 1 < 3; decide, by show 2 < 3; decide, rfl, tells_signs h _ ⟨rfl, tells_signs h2 _ ?_⟩⟩
  refine ⟨by omega, ?_⟩
  show (match (PyData.bool (decide (((y.length : Nat) : Int) ≤ 60))) with | .bool true => _ | .bool false => _ | _ => False)
  rw [decide_eq_true (show ((y.length : Nat) : Int) ≤ 60 by omega)]
  refine ⟨by omega, ?_⟩
  show (match (PyData.bool (decide ((1 : Int) ≤ ((z.length : Nat) : Int)))) with | .bool true => _ | .bool false => _ | _ => False)
  rw [decide_eq_true (show (1 : Int) ≤ ((z.length : Nat) : Int) by omega)]
  show P (.bool (decide (((z.length : Nat) : Int) ≤ 60)))
  rw [decide_eq_true (show ((z.length : Nat) : Int) ≤ 60 by omega)]
  exact p
end WK
namespace WK
open PySem PySem.Spec PyProof.Rows L2 WD
def bodyAP : WS := (wSeq (wIfS (wOr (wNot (wB (wIsi isTup (wVar 4)))) (wOr (wNot (wTru (wVar 4))) (wNot (wB (wIsi isStr (wOp fIxT (wVar 4) (wK (.int 0)))))))) (wRet (wK .none)) wNext)
  (wSeq (wAsg (wOp fIxT (wVar 4) (wK (.int 0))) (wName [] 5))
  (wIfS (wB (wOp fEq (wVar 5) (wK (.str "flow")))) (wIfS (wOr (wB (wOp fNe (wCB fLen (wCons (wVar 4) wNil)) (wK (.int 2)))) (wOr (wNot (wB (wIsi isStr (wOp fIxT (wVar 4) (wK (.int 1)))))) (wB (wOp (fInK true) (wOp fIxT (wVar 4) (wK (.int 1))) (wVar 1))))) (wRet (wK .none)) wNext) (wIfS (wB (wInTab false kvs_ALL_PARTS (wVar 5))) (wSeq (wIfS (wB (wOp fNe (wCB fLen (wCons (wVar 4) wNil)) (wIxTab kvs_ALL_PARTS (wVar 5)))) (wRet (wK .none)) wNext)
  (wDrop (wExtendT 3 (wSlT (wVar 4) (wPart (wK (.int 1))) wNoP)))) (wSeq (wAsg (wIfE (wAnd (wB (wOp fEq (wVar 5) (wK (.str "call")))) (wNot (wB (wVar 2)))) (wK .none) (wCall 3 f_own_parts (wCons (wVar 4) (wCons (wVar 5) (wCons (wVar 1) wNil))))) (wName [] 6))
  (wSeq (wIfS (wB (wOp (fIsN false) (wVar 6) (wK .none))) (wRet (wK .none)) wNext)
  (wDrop (wExtend 3 (wVar 6)))))))))
theorem all_parts_eq : w_all_parts = wSeq (wOwn [] 3 (wLstO wNil)) (wSeq (wFor (wItL (wVar 0)) (wName [] 4) bodyAP) (wRet (wVar 3))) := rfl
abbrev enA (lv kn mc : PyData) (acc : List PyData) (x y z : En) : WD.Env := ⟨[.dat lv, .dat kn, .dat mc, .own acc, x, y, z], 0⟩
theorem at_head {x : PyData} {r : List PyData} : atI (x :: r) 0 = some x := by
  unfold atI ixN
  rw [if_pos (Int.le_refl 0), if_pos (by simp only [List.length_cons]; omega)]
  rfl
/-- a flow: nothing more -/
theorem step_flow {lv mc : PyData} {ks : List Str} {acc : List PyData} {y z : En} {f : Str} {P : Fl → Prop} (hk : inD (keysD ks) f = true) (p : P (.nx (enA lv (knD ks) mc acc (.dat (.tuple [.str "flow", .str f])) (.dat (.str "flow")) z))) :
    bodyAP (enA lv (knD ks) mc acc (.dat (.tuple [.str "flow", .str f])) y z) P := by
  refine ⟨trivial, .str "flow", rfl, .str "flow", rfl, rfl, by show 5 < 7; decide, true, rfl, ?_⟩
  refine ⟨true, rfl, .str f, rfl, .str f, rfl, ?_⟩
  show (if (xor true (inD (keysD ks) f)) = true then _ else _)
  rw [hk, if_neg (by decide)]
  exact p
theorem cut_one {x : PyData} {r : List PyData} : WD.cutD (x :: r) (some 1) none = r := by
  unfold WD.cutD
  rw [show (1 : Int) = ((1 : Nat) : Int) from rfl, HT.sIx_nat, HT.sIx_none, Nat.min_eq_left (by simp only [List.length_cons]; omega), List.drop_one, List.tail_cons, List.take_of_length_le (by simp only [List.length_cons]; omega)]
/-- a word of the first table: its parts are all that stands behind it -/
theorem step_word {lv kn mc : PyData} {acc r : List PyData} {y z : En} {x : Str} {n : Int} {P : Fl → Prop} (hx : x ≠ "flow") (h1 : kvs_ALL_PARTS.lookup x = some (.int n)) (h2 : ((PyData.str x :: r).length : Int) = n) (l : acc.length + r.length ≤ 16777216)
    (p : P (.nx (enA lv kn mc (acc ++ r) (.dat (.tuple (.str x :: r))) (.dat (.str x)) z))) :
    bodyAP (enA lv kn mc acc (.dat (.tuple (.str x :: r))) y z) P := by
  refine ⟨trivial, .str x, at_head, .str x, at_head, rfl, by show 5 < 7; decide, false, ?_, ?_⟩
  · show some (decide (x = "flow")) = some false
    rw [decide_eq_false hx]
  show (if (xor false (kvs_ALL_PARTS.lookup x).isSome) = true then _ else _)
  rw [h1, if_pos (by rfl)]
  refine ⟨.int n, h1, true, ?_, ?_⟩
  · show some (decide (((PyData.str x :: r).length : Int) = n)) = some true
    rw [decide_eq_true h2]
  refine ⟨rfl, ?_⟩
  show ∃ ds, some acc = some ds ∧ ds.length + (WD.cutD (PyData.str x :: r) (some 1) none).length ≤ 16777216 ∧ _
  rw [cut_one]
  exact ⟨acc, rfl, l, p⟩
/-- any other word: what _own_parts tells -/
theorem step_own {lv kn : PyData} {mc : Bool} {acc r ps : List PyData} {y z : En} {x : Str} {P : Fl → Prop} (hx : x ≠ "flow") (h1 : kvs_ALL_PARTS.lookup x = none) (hc : x ≠ "call" ∨ mc = true) (h : TellsW f_own_parts [.tuple (.str x :: r), .str x, kn] (.list ps)) (l : acc.length + ps.length ≤ 16777216)
    (p : P (.nx (enA lv kn (.bool mc) (acc ++ ps) (.dat (.tuple (.str x :: r))) (.dat (.str x)) (.dat (.list ps))))) :
    bodyAP (enA lv kn (.bool mc) acc (.dat (.tuple (.str x :: r))) y z) P := by
  refine ⟨trivial, .str x, at_head, .str x, at_head, rfl, by show 5 < 7; decide, false, ?_, ?_⟩
  · show some (decide (x = "flow")) = some false
    rw [decide_eq_false hx]
  show (if (xor false (kvs_ALL_PARTS.lookup x).isSome) = true then _ else _)
  rw [h1, if_neg (by decide)]
  have go : (wCall 3 f_own_parts (wCons (wVar 4) (wCons (wVar 5) (wCons (wVar 1) wNil)))) (enA lv kn (.bool mc) acc (.dat (.tuple (.str x :: r))) (.dat (.str x)) z) (fun d ρ1 => wName [] 6 d ρ1 fun ρ2 => wSeq (wIfS (wB (wOp (fIsN false) (wVar 6) (wK .none))) (wRet (wK .none)) wNext) (wDrop (wExtend 3 (wVar 6))) ρ2 P) := by
    refine ⟨rfl, h _ ⟨rfl, by show 6 < 7; decide, ?_⟩⟩
    exact ⟨rfl, acc, rfl, l, p⟩
  refine ⟨decide (x = "call"), rfl, ?_⟩
  rcases hc with hc | hc
  · rw [decide_eq_false hc]
    exact go
  · subst hc
    cases decide (x = "call") <;> exact go
end WK
namespace WK
open PySem PySem.Spec PyProof.Rows L2 WD
def twoW : List Str := ["sum", "less", "times", "below", "same", "both", "either"]
mutual
/-- e is a good expression of at most d levels, s expressions in all; a call only where m -/
inductive Exq (ks : List Str) : Bool → Nat → PyData → Nat → Prop
  | atom {m : Bool} {d : Nat} {e : PyData} (h : Atom e) : Exq ks m (d + 1) e 1
  | flow {m : Bool} {d : Nat} {f : Str} (hk : inD (keysD ks) f = true) (hn : NameS f) : Exq ks m (d + 1) (.tuple [.str "flow", .str f]) 1
  | beats {m : Bool} {d : Nat} {y z : Str} (h : SignsS y) (h2 : SignsS z) (h3 : 1 ≤ z.length) : Exq ks m (d + 1) (.tuple [.str "beats", .str y, .str z]) 1
  | two {m : Bool} {d s t : Nat} {x : Str} {a b : PyData} (hx : x ∈ twoW) (ha : Exq ks false d a s) (hb : Exq ks false d b t) : Exq ks m (d + 1) (.tuple [.str x, a, b]) (s + t + 1)
  | not {m : Bool} {d s : Nat} {a : PyData} (ha : Exq ks false d a s) : Exq ks m (d + 1) (.tuple [.str "not", a]) (s + 1)
  | pick {m : Bool} {d s t u : Nat} {a b c : PyData} (ha : Exq ks false d a s) (hb : Exq ks false d b t) (hc : Exq ks false d c u) : Exq ks m (d + 1) (.tuple [.str "pick", a, b, c]) (s + t + u + 1)
  | thn {m : Bool} {d s : Nat} {k a : PyData} (hk : Atom k) (ha : Exq ks false d a s) : Exq ks m (d + 1) (.tuple [.str "then", k, a]) (s + 1)
  | whn {m : Bool} {d s : Nat} {a : PyData} {f : Str} {b : Bool} (ha : Exq ks false d a s) (hk : inD (keysD ks) f = true) (hn : NameS f) : Exq ks m (d + 1) (.tuple [.str "when", a, .str f, .bool b]) (s + 1)
  | merge {m : Bool} {d s t : Nat} {f : Str} {a b : PyData} (hk : inD (keysD ks) f = true) (hn : NameS f) (ha : Exq ks false d a s) (hb : Exq ks false d b t) : Exq ks m (d + 1) (.tuple [.str "merge", .str f, a, b]) (s + t + 1)
  | call {d n : Nat} {f : Str} {ps : List PyData} (hn : NameS f) (hl : ps.length ≤ 8) (h : LevQ ks false d ps n) : Exq ks true (d + 1) (.tuple [.str "call", .str f, .list ps]) (n + 1)
inductive LevQ (ks : List Str) : Bool → Nat → List PyData → Nat → Prop
  | nil {m : Bool} {d : Nat} : LevQ ks m d [] 0
  | cons {m : Bool} {d s n : Nat} {e : PyData} {l : List PyData} (h : Exq ks m d e s) (t : LevQ ks m d l n) : LevQ ks m d (e :: l) (s + n)
end
theorem LevQ.app {ks : List Str} {m : Bool} {d : Nat} : ∀ {a b : List PyData} {M N : Nat}, LevQ ks m d a M → LevQ ks m d b N → LevQ ks m d (a ++ b) (M + N)
  | [], _, _, _, .nil, h => by rw [Nat.zero_add]; exact h
  | _ :: _, _, _, _, .cons h t, g => by rw [Nat.add_assoc]; exact .cons h (t.app g)
theorem lev1 {ks : List Str} {m : Bool} {d s : Nat} {a : PyData} (h : Exq ks m d a s) : LevQ ks m d [a] s := .cons h .nil
theorem tells_call {x : PyData} {f : Str} {ps : List PyData} (hn : NameS f) (hl : ps.length ≤ 8) : TellsW f_call_by_form [.tuple [x, .str f, .list ps]] (.bool true) := fun P p => by
  refine ⟨.str f, rfl, rfl, tells_name hn _ ⟨.list ps, rfl, .list ps, rfl, ?_⟩⟩
  show P (.bool (decide (((ps.length : Nat) : Int) ≤ 8)))
  rw [decide_eq_true (by omega)]
  exact p
theorem tells_own_call {f : Str} {ps : List PyData} {ks : List Str} (hn : NameS f) (hl : ps.length ≤ 8) : TellsW f_own_parts [.tuple [.str "call", .str f, .list ps], .str "call", knD ks] (.list ps) := fun P p => by
  refine ⟨true, rfl, f_call_by_form, rfl, rfl, by show 3 < 5; decide, rfl, tells_call hn hl _ ?_⟩
  exact ⟨true, rfl, .list ps, rfl, p⟩
/-- a step of the loop over a level -/
theorem exq_step {ks : List Str} {m : Bool} {d s : Nat} {e lv : PyData} (h : Exq ks m (d + 1) e s) : ∃ ps M, LevQ ks false d ps M ∧ s = M + 1 ∧ ∀ (acc : List PyData) (y z : En) (P : Fl → Prop), acc.length + ps.length ≤ 16777216 →
    (∀ y z, P (.nx (enA lv (knD ks) (.bool m) (acc ++ ps) (.dat e) y z))) → bodyAP (enA lv (knD ks) (.bool m) acc (.dat e) y z) P := by
  cases h with
  | atom h =>
    refine ⟨[], 0, .nil, rfl, fun acc y z P l p => ?_⟩
    cases h with
    | num h1 h2 => exact step_own (by decide) (by rfl) (.inl (by decide)) (tells_own (n := 2) (by decide) (by rfl) (by rfl) (by rfl) (tells_num h1 h2) (.inl (by rfl)) (by rfl) (by rfl) (by decide)) l (p _ _)
    | truth b => exact step_own (by decide) (by rfl) (.inl (by decide)) (tells_own (n := 2) (by decide) (by rfl) (by rfl) (by rfl) tells_truth (.inl (by rfl)) (by rfl) (by rfl) (by decide)) l (p _ _)
  | flow hk hn => exact ⟨[], 0, .nil, rfl, fun acc y z P l p => step_flow hk (by have := p (.dat (.str "flow")) z; rwa [List.append_nil] at this)⟩
  | beats h1 h2 h3 =>
    refine ⟨[], 0, .nil, rfl, fun acc y z P l p => ?_⟩
    exact step_own (by decide) (by rfl) (.inl (by decide)) (tells_own (n := 3) (by decide) (by rfl) (by rfl) (by rfl) (tells_beats h1 h2 h3) (.inl (by rfl)) (by rfl) (by rfl) (by decide)) l (p _ _)
  | @two _ _ s t x a b hx ha hb =>
    refine ⟨[a, b], s + (t + 0), .cons ha (.cons hb .nil), rfl, fun acc y z P l p => ?_⟩
    have hx2 : x ≠ "flow" ∧ kvs_ALL_PARTS.lookup x = some (.int 3) := by
      unfold twoW at hx
      simp only [List.mem_cons, List.not_mem_nil, or_false] at hx
      rcases hx with rfl | rfl | rfl | rfl | rfl | rfl | rfl <;> exact ⟨by decide, by rfl⟩
    exact step_word hx2.1 hx2.2 (by rfl) l (p _ _)
  | @not _ _ s a ha => exact ⟨[a], s + 0, .cons ha .nil, rfl, fun acc y z P l p => step_word (n := 2) (by decide) (by rfl) (by rfl) l (p _ _)⟩
  | @pick _ _ s t u a b c ha hb hc => exact ⟨[a, b, c], s + (t + (u + 0)), .cons ha (.cons hb (.cons hc .nil)), by omega, fun acc y z P l p => step_word (n := 4) (by decide) (by rfl) (by rfl) l (p _ _)⟩
  | @thn _ _ s k a hk ha => exact ⟨[a], s + 0, .cons ha .nil, rfl, fun acc y z P l p => step_own (by decide) (by rfl) (.inl (by decide)) (tells_own (n := 3) (by decide) (by rfl) (by rfl) (by rfl) (tells_then hk) (.inl (by rfl)) (by rfl) (by rfl) (by show 1 ≤ 1000; decide)) l (p _ _)⟩
  | @whn _ _ s a f b ha hk hn => exact ⟨[a], s + 0, .cons ha .nil, rfl, fun acc y z P l p => step_own (by decide) (by rfl) (.inl (by decide)) (tells_own (n := 4) (by decide) (by rfl) (by rfl) (by rfl) (tells_when hn) (.inr ⟨2, f, by rfl, by rfl, hk⟩) (by rfl) (by rfl) (by show 1 ≤ 1000; decide)) l (p _ _)⟩
  | @merge _ _ s t f a b hk hn ha hb => exact ⟨[a, b], s + (t + 0), .cons ha (.cons hb .nil), rfl, fun acc y z P l p => step_own (by decide) (by rfl) (.inl (by decide)) (tells_own (n := 4) (by decide) (by rfl) (by rfl) (by rfl) (tells_flow hn) (.inr ⟨1, f, by rfl, by rfl, hk⟩) (by rfl) (by rfl) (by show 2 ≤ 1000; decide)) l (p _ _)⟩
  | @call _ n f ps hn hl h => exact ⟨ps, n, h, rfl, fun acc y z P l p => step_own (by decide) (by rfl) (.inr rfl) (tells_own_call hn hl) l (p _ _)⟩
end WK
namespace WK
open PySem PySem.Spec PyProof.Rows L2 WD
theorem LevQ.uncons {ks : List Str} {m : Bool} {d N : Nat} {e : PyData} {l : List PyData} (h : LevQ ks m d (e :: l) N) : ∃ s n, N = s + n ∧ Exq ks m d e s ∧ LevQ ks m d l n := by
  cases h with
  | cons h t => exact ⟨_, _, rfl, h, t⟩
theorem LevQ.unnil {ks : List Str} {m : Bool} {d N : Nat} (h : LevQ ks m d [] N) : N = 0 := by
  cases h
  rfl
theorem level_loop {ks : List Str} {m : Bool} {d : Nat} {lv : PyData} : ∀ (level : List PyData) (N : Nat), LevQ ks m (d + 1) level N → ∃ parts M, LevQ ks false d parts M ∧ N = level.length + M ∧
    ∀ (acc : List PyData) (x y z : En) (P : Fl → Prop), acc.length + parts.length ≤ 16777216 → (∀ x y z, P (.nx (enA lv (knD ks) (.bool m) (acc ++ parts) x y z))) → wLoop (wName [] 4) bodyAP level (enA lv (knD ks) (.bool m) acc x y z) P
  | [], N, h => ⟨[], 0, .nil, h.unnil, fun acc x y z P l p => by
    have := p x y z
    rw [List.append_nil] at this
    exact this⟩
  | e :: level, N, h => by
    obtain ⟨s, n, rfl, he, ht⟩ := h.uncons
    obtain ⟨ps, M, h1, rfl, step⟩ := exq_step (lv := lv) he
    obtain ⟨qs, M2, h2, rfl, rest⟩ := level_loop (lv := lv) level n ht
    refine ⟨ps ++ qs, M + M2, h1.app h2, by rw [List.length_cons]; omega, fun acc x y z P l p => ?_⟩
    rw [List.length_append] at l
    refine ⟨rfl, by show 4 < 7; decide, ?_⟩
    refine step acc y z _ (by omega) fun y z => ?_
    refine rest (acc ++ ps) (.dat e) y z P (by rw [List.length_append]; omega) fun x y z => ?_
    rw [List.append_assoc]
    exact p x y z
theorem LevQ.len_le {ks : List Str} : ∀ {l : List PyData} {m : Bool} {d N : Nat}, LevQ ks m d l N → l.length ≤ N
  | [], _, _, _, h => by rw [h.unnil]; exact Nat.le_refl _
  | e :: l, m, d, N, h => by
    obtain ⟨s, n, rfl, he, ht⟩ := h.uncons
    have := ht.len_le
    have : 1 ≤ s := by cases he <;> omega
    rw [List.length_cons]
    omega
theorem tells_all_parts {ks : List Str} {m : Bool} {d N : Nat} {level : List PyData} (h : LevQ ks m (d + 1) level N) (hN : N ≤ 16777216) : ∃ parts M, LevQ ks false d parts M ∧ N = level.length + M ∧ TellsW f_all_parts [.list level, knD ks, .bool m] (.list parts) := by
  obtain ⟨parts, M, h1, rfl, go⟩ := level_loop (lv := .list level) level N h
  refine ⟨parts, M, h1, rfl, fun P p => ?_⟩
  refine ⟨by decide, rfl, by show 3 < 7; decide, ?_⟩
  have := h1.len_le
  exact go [] .un .un .un _ (by rw [List.length_nil]; omega) fun x y z => p
end WK
namespace WK
open PySem PySem.Spec PyProof.Rows L2 WD
/-- a row as a thing -/
abbrev rowD (r : List PyData × PyData) : PyData := .tuple [.tuple r.1, r.2]
/-- good rows: their expressions at most d levels, N in all; more than one target only at a call -/
inductive RowsQ (ks : List Str) (d : Nat) : List (List PyData × PyData) → Nat → Prop
  | nil : RowsQ ks d [] 0
  | cons {ts : List PyData} {e : PyData} {l : List (List PyData × PyData)} {s n : Nat} (h : Exq ks true d e s) (w : ts.length ≤ 1 ∨ ∃ r, e = .tuple (.str "call" :: r)) (t : RowsQ ks d l n) : RowsQ ks d ((ts, e) :: l) (s + n)
theorem RowsQ.lev {ks : List Str} {d : Nat} : ∀ {l : List (List PyData × PyData)} {N : Nat}, RowsQ ks d l N → LevQ ks true d (l.map (·.2)) N
  | [], _, .nil => .nil
  | _ :: _, _, .cons h _ t => .cons h t.lev
abbrev enM (rows kn : PyData) (a b c d e f : En) : WD.Env := ⟨[.dat rows, .dat kn, a, b, c, d, e, f], 0⟩
theorem rows_loop {ks : List Str} {d : Nat} {rows kn : PyData} {c d' e f : En} {P : Fl → Prop} (p : ∀ a b, P (.nx (enM rows kn a b c d' e f))) : ∀ (l : List (List PyData × PyData)) (N : Nat) (a b : En), RowsQ ks d l N →
    wLoop (wgTup 2 (wgCons (wName [] 2) (wgCons (wName [] 3) wgNil))) (wIfS (wAnd (wB (wOp (f2I fun i j => .bool (decide (j < i))) (wCB fLen (wCons (wVar 2) wNil)) (wK (.int 1)))) (wNot (wAnd (wB (wIsi isTup (wVar 3))) (wAnd (wTru (wVar 3)) (wB (wOp fEq (wOp fIxT (wVar 3) (wK (.int 0))) (wK (.str "call")))))))) (wRet (wK .none)) wNext) (l.map rowD) (enM rows kn a b c d' e f) P
  | [], N, a, b, h => p a b
  | (ts, x) :: l, N, a, b, h => by
    cases h with
    | cons h w t =>
      have ih := rows_loop p l _ (.dat (.tuple ts)) (.dat x) t
      refine ⟨rfl, rfl, by show 2 < 8; decide, rfl, by show 3 < 8; decide, rfl, ?_⟩
      show (if decide ((1 : Int) < ((ts.length : Nat) : Int)) = true then _ else _)
      rcases w with w | ⟨r, w⟩
      · rw [if_neg (by simp; omega)]
        exact ih
      · subst w
        by_cases h1 : (1 : Int) < ((ts.length : Nat) : Int)
        · rw [if_pos (decide_eq_true h1)]
          exact ⟨trivial, .str "call", at_head, true, rfl, ih⟩
        · rw [if_neg (by simpa using h1)]
          exact ih
theorem wholes {rows kn : PyData} {a c d e : En} {P : List PyData → WD.Env → Prop} : ∀ (l : List (List PyData × PyData)) (acc : List PyData), acc.length + l.length ≤ 16777216 → P (acc ++ l.map (·.2)) (enM rows kn a .un c d e .un) →
    wComp (wgTup 2 (wgCons (wName [] 7) (wgCons (wName [] 3) wgNil))) wYes (wVar 3) [7, 3] (l.map rowD) (enM rows kn a .un c d e .un).sl 0 acc P
  | [], acc, _, p => by
    rw [List.map_nil, List.append_nil] at p
    exact p
  | (ts, x) :: l, acc, b, p => by
    rw [List.length_cons] at b
    have ih := wholes (rows := rows) (kn := kn) (a := a) (c := c) (d := d) (e := e) (P := P) l (acc ++ [x]) (by rw [List.length_append]; simp only [List.length_cons, List.length_nil]; omega) (by rw [List.append_assoc]; exact p)
    refine ⟨rfl, rfl, by show 7 < 8; decide, rfl, by show 3 < 8; decide, rfl, ?_⟩
    exact ⟨rfl, by omega, ih⟩
end WK
namespace WK
open PySem PySem.Spec PyProof.Rows L2 WD
theorem Exq.pos {ks : List Str} {m : Bool} {d s : Nat} {e : PyData} (h : Exq ks m d e s) : ∃ d2, d = d2 + 1 := by cases h <;> exact ⟨_, rfl⟩
/-- how the while stands: M expressions are left, many were counted -/
def levI (ks : List Str) (rows : PyData) (N : Nat) (m : Nat) (ρ : WD.Env) : Prop := ∃ (a : En) (level : List PyData) (many within : Int) (d : Nat), ρ = enM rows (knD ks) a .un (.dat (.list level)) (.dat (.int many)) (.dat (.int within)) .un ∧
  LevQ ks (decide (within = 0)) d level m ∧ many + (m : Int) = (N : Int) ∧ 0 ≤ many ∧ 0 ≤ within ∧ within + (d : Int) ≤ 8
theorem tells_many {ks : List Str} {d N : Nat} {rows : List (List PyData × PyData)} (h : RowsQ ks d rows N) (hN : N ≤ 200) (hd : d ≤ 8) : TellsW f_many_fitting [.list (rows.map rowD), knD ks] (.int (N : Nat)) := fun P p => by
  have hlen : rows.length ≤ N := by
    have := h.lev.len_le
    rwa [List.length_map] at this
  refine rows_loop (d := d) (fun a b => ?_) rows N .un .un h
  refine ⟨⟨rfl, rfl⟩, wholes rows [] (by rw [List.length_nil]; omega) ?_⟩
  refine ⟨rfl, by show 4 < 8; decide, rfl, by show 5 < 8; decide, rfl, by show 6 < 8; decide, ?_⟩
  refine ⟨levI ks (.list (rows.map rowD)) N, ⟨N, a, rows.map (fun r : List PyData × PyData => r.2), 0, 0, d, rfl, (show LevQ ks (decide ((0 : Int) = 0)) d (rows.map fun r : List PyData × PyData => r.2) N from h.lev), by omega, by omega, by omega, by omega⟩, ?_⟩
  rintro m ρ ⟨a, level, many, within, d, rfl, hl, hm, hp, h0, h8⟩
  refine ⟨trivial, ?_⟩
  cases level with
  | nil =>
    have e := hl.unnil
    subst e
    show P (.int many)
    rw [show many = (N : Int) by omega]
    exact p
  | cons e level =>
    show _
    have hln := hl.len_le
    rw [List.length_cons] at hln
    obtain ⟨s, n, rfl, he, ht⟩ := hl.uncons
    obtain ⟨d2, rfl⟩ := he.pos
    obtain ⟨parts, M, h1, h2, h3⟩ := tells_all_parts (LevQ.cons he ht) (by omega)
    rw [List.length_cons] at h2
    refine ⟨many, rfl, rfl, by show 5 < 8; decide, within, rfl, rfl, by show 6 < 8; decide, ?_⟩
    show (if decide ((8 : Int) < within + 1) = true then _ else _)
    rw [if_neg (by simp; omega)]
    show (if decide ((200 : Int) < many + (((e :: level).length : Nat) : Int)) = true then _ else _)
    rw [if_neg (by rw [List.length_cons]; simp; omega)]
    refine ⟨decide (within + 1 = 1), rfl, rfl, ?_⟩
    have eb : decide (within + 1 = 1) = decide (within = 0) := decide_eq_decide.mpr (by omega)
    rw [eb]
    refine h3 _ ?_
    refine ⟨rfl, by show 4 < 8; decide, ?_⟩
    refine ⟨M, by omega, a, parts, many + (((e :: level).length : Nat) : Int), within + 1, d2, rfl, ?_, ?_, by omega, by omega, by omega⟩
    · rw [decide_eq_false (show ¬ within + 1 = 0 by omega)]
      exact h1
    · rw [List.length_cons]
      omega
end WK
namespace WK
open PySem PySem.Spec PyProof.Rows L2 WD
theorem txD_str : ∀ xs : List Str, txD (xs.map .str) = some xs
  | [] => rfl
  | x :: xs => by
    rw [List.map_cons]
    unfold txD
    rw [txD_str xs]
    rfl
theorem uq_nodup : ∀ (xs acc : List Str), (acc ++ xs).Nodup → xs.foldl stU acc = acc ++ xs
  | [], acc, _ => by rw [List.append_nil]; rfl
  | x :: xs, acc, h => by
    have nx : x ∉ acc := fun m => by
      have := (List.nodup_append.mp h).2.2 x m x (.head _)
      exact this rfl
    rw [List.foldl_cons]
    have e : stU acc x = acc ++ [x] := by unfold stU; rw [if_neg nx]
    rw [e, uq_nodup xs (acc ++ [x]) (by rw [List.append_assoc]; exact h), List.append_assoc]
    rfl
theorem comp_names {a : En} {P : List PyData → WD.Env → Prop} : ∀ (xs : List Str) (acc : List PyData), (∀ x ∈ xs, NameS x) → acc.length + xs.length ≤ 1000 → P (acc ++ List.replicate xs.length (.bool true)) ⟨[a, .un], 0⟩ →
    wComp (wName [] 1) wYes (wCall 1 f_is_name (wCons (wVar 1) wNil)) [1] (xs.map .str) [a, .un] 0 acc P
  | [], acc, _, _, p => by
    rw [List.length_nil, List.replicate_zero, List.append_nil] at p
    exact p
  | x :: xs, acc, h, b, p => by
    rw [List.length_cons] at b
    have ih := comp_names (a := a) (P := P) xs (acc ++ [.bool true]) (fun y m => h y (.tail _ m)) (by rw [List.length_append]; simp only [List.length_cons, List.length_nil]; omega) (by
      rw [List.append_assoc]
      exact p)
    exact ⟨rfl, by show 1 < 2; decide, rfl, tells_name (h x (.head _)) _ ⟨rfl, by omega, ih⟩⟩
theorem bools_rep : ∀ n : Nat, boolsOf (List.replicate n (.bool true)) = some (List.replicate n true)
  | 0 => rfl
  | n + 1 => by
    rw [List.replicate_succ, List.replicate_succ]
    unfold boolsOf
    rw [bools_rep n]
    rfl
theorem tells_doors {xs : List Str} (h : ∀ x ∈ xs, NameS x) (l : xs.length ≤ 8) (nd : xs.Nodup) : TellsW f_are_doors [.tuple (xs.map .str)] (.bool true) := fun P p => by
  show (if decide ((8 : Int) < (((xs.map PyData.str).length : Nat) : Int)) = true then _ else _)
  rw [if_neg (by rw [List.length_map]; simp; omega)]
  refine ⟨⟨rfl, rfl⟩, comp_names xs [] h (by rw [List.length_nil]; omega) ?_⟩
  refine ⟨List.replicate xs.length true, bools_rep _, trivial, ?_⟩
  have e1 : (List.replicate xs.length true).all id = true := by
    rw [List.all_eq_true]
    intro b hb
    rw [(List.mem_replicate.mp hb).2]
    rfl
  show (if (!((List.replicate xs.length true).all id)) = true then _ else _)
  rw [e1, if_neg (by decide)]
  show (match txD (xs.map PyData.str) with | some xs => _ | none => False)
  rw [txD_str]
  refine ⟨by omega, true, ?_, p⟩
  show some (decide ((((uq xs).length : Nat) : Int) = (((xs.map PyData.str).length : Nat) : Int))) = some true
  have e2 : uq xs = xs := uq_nodup xs [] nd
  rw [e2, List.length_map, decide_eq_true rfl]
end WK
namespace WK
open PySem PySem.Spec PyProof.Rows L2 WD
structure Mod where
  name : Str
  ins : List Str
  outs : List Str
  rows : List (List Str × PyData)
def Mod.rs (M : Mod) : List (List PyData × PyData) := M.rows.map fun r => (r.1.map .str, r.2)
def Mod.D (M : Mod) : PyData := .tuple [.str M.name, .tuple (M.ins.map .str), .tuple (M.outs.map .str), .list (M.rs.map rowD)]
def Mod.tgs (M : Mod) : List Str := M.rows.flatMap (·.1)
/-- a good module -/
structure ModOk (M : Mod) (N : Nat) : Prop where
  name : NameS M.name
  ins : ∀ x ∈ M.ins, NameS x
  insL : M.ins.length ≤ 8
  outs : ∀ x ∈ M.outs, NameS x
  outsL : M.outs.length ≤ 8
  outs0 : M.outs ≠ []
  outsN : M.outs.Nodup
  outsT : ∀ x ∈ M.outs, x ∈ M.tgs
  rowN : ∀ r ∈ M.rows, r.1 ≠ [] ∧ ∀ x ∈ r.1, NameS x
  rowL : M.rows.length ≤ 60
  tgsL : M.tgs.length ≤ 1000
  nd : (M.ins ++ M.tgs).Nodup
  ex : RowsQ (M.ins ++ M.tgs) 8 M.rs N
  few : N ≤ 200
theorem tells_frame {M : Mod} : TellsW f_frame_wrong [M.D] .none := fun P p => ⟨true, rfl, _, rfl, _, rfl, _, rfl, p⟩
theorem tells_head {M : Mod} {N : Nat} (h : ModOk M N) : TellsW f_head_wrong [M.D] .none := fun P p => by
  refine ⟨rfl, rfl, by show 1 < 5; decide, rfl, by show 2 < 5; decide, rfl, by show 3 < 5; decide, rfl, by show 4 < 5; decide, rfl, ?_⟩
  refine ⟨rfl, tells_name h.name _ ?_⟩
  refine ⟨rfl, tells_doors h.ins h.insL (List.nodup_append.mp h.nd).1 _ ?_⟩
  refine ⟨trivial, ?_⟩
  have e : truD (.tuple (M.outs.map .str)) = true := by
    show (!(M.outs.map PyData.str).isEmpty) = true
    cases q : M.outs with
    | nil => exact absurd q h.outs0
    | cons _ _ => rfl
  show (if (!(truD (.tuple (M.outs.map .str)))) = true then _ else _)
  rw [e, if_neg (by decide)]
  exact ⟨rfl, tells_doors h.outs h.outsL h.outsN _ p⟩
theorem names_loop {a b : En} {r : PyData} {P : Fl → Prop} (p : ∀ c, P (.nx ⟨[a, b, c], 0⟩)) : ∀ (xs : List Str) (c : En), (∀ x ∈ xs, NameS x) → wLoop (wName [] 2) (wIfS (wNot (wB (wCall 1 f_is_name (wCons (wVar 2) wNil)))) (wRet (wK (.bool false))) wNext) (xs.map .str) ⟨[a, b, c], 0⟩ P
  | [], c, _ => p c
  | x :: xs, c, h => ⟨rfl, by show 2 < 3; decide, rfl, tells_name (h x (.head _)) _ (names_loop (r := r) p xs _ fun y m => h y (.tail _ m))⟩
theorem tells_row {ts : List Str} {e : PyData} (h0 : ts ≠ []) (h : ∀ x ∈ ts, NameS x) : TellsW f_is_row [rowD (ts.map .str, e)] (.bool true) := fun P p => by
  have et : truD (.tuple (ts.map .str)) = true := by
    show (!(ts.map PyData.str).isEmpty) = true
    cases ts with
    | nil => exact absurd rfl h0
    | cons _ _ => rfl
  refine ⟨true, rfl, .tuple (ts.map .str), rfl, rfl, by show 1 < 3; decide, trivial, ?_⟩
  show (if (!(truD (.tuple (ts.map .str)))) = true then _ else _)
  rw [et, if_neg (by decide)]
  exact names_loop (r := .none) (fun c => p) ts .un h
theorem rowsW_loop {rows : PyData} {P : Fl → Prop} (p : ∀ a b, P (.nx ⟨[.dat rows, a, b], 0⟩)) : ∀ (l : List (List Str × PyData)) (i : Nat) (a b : En), (∀ r ∈ l, r.1 ≠ [] ∧ ∀ x ∈ r.1, NameS x) →
    wLoop (wgTup 2 (wgCons (wName [] 1) (wgCons (wName [] 2) wgNil))) (wIfS (wNot (wB (wCall 1 f_is_row (wCons (wVar 2) wNil)))) (wRet (wTup (wCons (wK (.str "row")) (wCons (wVar 1) wNil)))) wNext) (numF i ((l.map fun r => (r.1.map PyData.str, r.2)).map rowD)) ⟨[.dat rows, a, b], 0⟩ P
  | [], i, a, b, _ => p a b
  | r :: l, i, a, b, h => by
    obtain ⟨h1, h2⟩ := h r (.head _)
    refine ⟨rfl, rfl, by show 1 < 3; decide, rfl, by show 2 < 3; decide, rfl, rfl, tells_row h1 h2 _ ?_⟩
    exact rowsW_loop p l (i + 1) _ _ fun q m => h q (.tail _ m)
theorem tells_rows {M : Mod} {N : Nat} (h : ModOk M N) : TellsW f_rows_wrong [.list (M.rs.map rowD)] .none := fun P p => by
  show wLoop _ _ (numbered (M.rs.map rowD)) _ _
  rw [numbered_numF]
  refine rowsW_loop (fun a b => ?_) M.rows 0 .un .un h.rowN
  show (if decide ((60 : Int) < (((M.rs.map rowD).length : Nat) : Int)) = true then _ else _)
  have := h.rowL
  rw [if_neg (by unfold Mod.rs; rw [List.length_map, List.length_map]; simp; omega)]
  exact p
theorem tells_outer {M : Mod} {N : Nat} (h : ModOk M N) : TellsW f_outer_wrong [M.D] .none := fun P p => by
  refine ⟨rfl, tells_frame _ ⟨trivial, ?_⟩⟩
  refine ⟨rfl, tells_head h _ ⟨trivial, ?_⟩⟩
  exact ⟨_, rfl, rfl, tells_rows h _ p⟩
end WK
namespace WK
open PySem PySem.Spec PyProof.Rows L2 WD
theorem comp_ts {a b c : En} {P : List PyData → WD.Env → Prop} : ∀ (ts : List Str) (acc : List PyData), acc.length + ts.length ≤ 1000 → P (acc ++ ts.map .str) ⟨[a, b, c, .un], 0⟩ → wComp (wName [] 3) wYes (wVar 3) [3] (ts.map .str) [a, b, c, .un] 0 acc P
  | [], acc, _, p => by
    rw [List.map_nil, List.append_nil] at p
    exact p
  | x :: ts, acc, b', p => by
    rw [List.length_cons] at b'
    have ih := comp_ts (a := a) (b := b) (c := c) (P := P) ts (acc ++ [.str x]) (by rw [List.length_append]; simp only [List.length_cons, List.length_nil]; omega) (by rw [List.append_assoc]; exact p)
    exact ⟨rfl, by show 3 < 4; decide, rfl, by omega, ih⟩
theorem comp_rows {a : En} {P : List PyData → WD.Env → Prop} : ∀ (l : List (List Str × PyData)) (acc : List PyData), acc.length + (l.flatMap (·.1)).length ≤ 1000 → P (acc ++ (l.flatMap (·.1)).map .str) ⟨[a, .un, .un, .un], 0⟩ →
    wLc2L (wgTup 2 (wgCons (wName [] 1) (wgCons (wName [] 2) wgNil))) (wItT (wVar 1)) (wName [] 3) (wVar 3) [1, 2, 3] [3] ((l.map fun r => (r.1.map PyData.str, r.2)).map rowD) [a, .un, .un, .un] 0 acc P
  | [], acc, _, p => by
    rw [List.flatMap_nil, List.map_nil, List.append_nil] at p
    exact p
  | r :: l, acc, b, p => by
    rw [List.flatMap_cons, List.length_append] at b
    rw [List.flatMap_cons, List.map_append, ← List.append_assoc] at p
    have ih := comp_rows (a := a) (P := P) l (acc ++ r.1.map .str) (by rw [List.length_append, List.length_map]; omega) p
    exact ⟨rfl, rfl, by show 1 < 4; decide, rfl, by show 2 < 4; decide, rfl, rfl, comp_ts r.1 acc (by omega) ⟨rfl, ih⟩⟩
theorem tells_targets {M : Mod} {N : Nat} (h : ModOk M N) : TellsW f_targets_of [M.D] (.list (M.tgs.map .str)) := fun P p => by
  have := h.tgsL
  exact ⟨_, rfl, ⟨rfl, rfl, rfl⟩, comp_rows M.rows [] (by rw [List.length_nil, Nat.zero_add]; exact this) p⟩
def Mod.fl (M : Mod) : List Str := M.ins ++ M.tgs
theorem tells_flows {M : Mod} {N : Nat} (h : ModOk M N) : TellsW f_flows_of [M.D] (.list (M.fl.map .str)) := fun P p => by
  have h1 := h.tgsL
  have h2 := h.insL
  refine ⟨_, rfl, rfl, tells_targets h _ ⟨?_, ?_⟩⟩
  · rw [List.length_map, List.length_map]
    omega
  · unfold Mod.fl at p
    rw [List.map_append] at p
    exact p
theorem dc_keys {sl : List En} {P : PyData → WD.Env → Prop} {i : Nat} (hi : i < sl.length) (hu : sl.set i .un = sl) : ∀ (xs acc : List Str), acc.length + xs.length ≤ 2000 → (acc ++ xs).Nodup → P (.dict (keysD (acc ++ xs))) ⟨sl, 0⟩ → wDcL (wName [] i) (wVar i) [i] (xs.map .str) sl 0 acc P
  | [], acc, _, _, p => by
    rw [List.append_nil] at p
    exact p
  | x :: xs, acc, b, nd, p => by
    rw [List.length_cons] at b
    have nx : x ∉ acc := fun m => (List.nodup_append.mp nd).2.2 x m x (.head _) rfl
    have e : putS acc x = acc ++ [x] := by unfold putS; rw [if_neg nx]
    have ih := dc_keys (P := P) hi hu xs (acc ++ [x]) (by rw [List.length_append]; simp only [List.length_cons, List.length_nil]; omega) (by rw [List.append_assoc]; exact nd) (by rw [List.append_assoc]; exact p)
    refine ⟨rfl, hi, ?_⟩
    show (match (⟨sl.set i (.dat (.str x)), 0⟩ : WD.Env).at i with | .dat d => _ | .own ds => _ | .un => False)
    have e2 : (⟨sl.set i (.dat (.str x)), 0⟩ : WD.Env).at i = .dat (.str x) := by
      unfold WD.Env.at
      rw [List.getD_eq_getElem?_getD, List.getElem?_set_self hi]
      rfl
    rw [e2]
    refine ⟨?_, by omega, by rw [e]; exact ih⟩
    show (sl.set i (.dat (.str x))).set i .un = sl
    rw [List.set_set]
    exact hu
theorem outs_loop {a c : En} {ks : List Str} {P : Fl → Prop} (p : ∀ b, P (.nx ⟨[a, b, .dat (knD ks)], 0⟩)) : ∀ (xs : List Str) (b : En), (∀ x ∈ xs, x ∈ ks) → wLoop (wName [] 1) (wIfS (wB (wOp (fInK true) (wVar 1) (wVar 2))) (wRet (wTup (wCons (wK (.str "out")) (wCons (wVar 1) wNil)))) wNext) (xs.map .str) ⟨[a, b, .dat (knD ks)], 0⟩ P
  | [], b, _ => p b
  | x :: xs, b, h => by
    refine ⟨rfl, by show 1 < 3; decide, ?_⟩
    show (if (xor true (inD (keysD ks) x)) = true then _ else _)
    rw [WD.inD_keys, decide_eq_true (h x (.head _)), if_neg (by decide)]
    exact outs_loop (c := c) p xs _ fun y m => h y (.tail _ m)
theorem tells_outs {M : Mod} {N : Nat} (h : ModOk M N) : TellsW f_outs_wrong [M.D] .none := fun P p => by
  have h1 := h.tgsL
  refine ⟨rfl, tells_targets h _ ⟨⟨rfl, rfl⟩, ?_⟩⟩
  refine dc_keys (i := 1) (by show 1 < 3; decide) rfl M.tgs [] (by rw [List.length_nil]; omega) (List.nodup_append.mp h.nd).2.1 ?_
  refine ⟨rfl, by show 2 < 3; decide, _, rfl, ?_⟩
  exact outs_loop (c := .un) (fun b => p) M.outs .un h.outsT
theorem tells_right {M : Mod} {N : Nat} (h : ModOk M N) : TellsW f_many_right [M.D] (.int (N : Nat)) := fun P p => by
  have h1 := h.tgsL
  have h2 := h.insL
  have hl : M.fl.length ≤ 1008 := by unfold Mod.fl; rw [List.length_append]; omega
  refine ⟨rfl, tells_flows h _ ⟨rfl, by show 1 < 4; decide, ⟨rfl, rfl⟩, ?_⟩⟩
  refine dc_keys (i := 3) (by show 3 < 4; decide) rfl M.fl [] (by rw [List.length_nil]; omega) h.nd ?_
  refine ⟨rfl, by show 2 < 4; decide, true, ?_, ?_⟩
  · show some (decide ((((keysD ([] ++ M.fl)).length : Nat) : Int) = (((M.fl.map PyData.str).length : Nat) : Int))) = some true
    unfold keysD
    rw [List.length_map, List.length_map, List.nil_append, decide_eq_true rfl]
  · refine ⟨rfl, tells_outs h _ ?_⟩
    exact ⟨_, rfl, rfl, tells_many h.ex h.few (Nat.le_refl _) _ p⟩
theorem tells_looked {M : Mod} {N : Nat} (h : ModOk M N) : TellsW f_looked_at [M.D] (.tuple [.int (N : Nat), .none]) := fun P p => by
  refine ⟨rfl, tells_outer h _ ⟨rfl, by show 1 < 3; decide, ?_⟩⟩
  refine ⟨rfl, tells_right h _ ⟨rfl, by show 2 < 3; decide, ?_⟩⟩
  exact ⟨by show 2 ≤ 16777216; decide, p⟩
theorem tells_check {M : Mod} {N : Nat} (h : ModOk M N) : TellsW f_check_module [M.D] (.int (N : Nat)) := fun P p =>
  ⟨rfl, tells_looked h _ ⟨rfl, rfl, by show 1 < 3; decide, rfl, by show 2 < 3; decide, rfl, p⟩⟩
end WK
namespace WK
open PySem PySem.Spec PyProof.Rows L2 WD
section
variable {P : Program} {w : World} {K : PySem.W.Frag} {mg : Str → Option Value} {base : Heap}
abbrev s_law_under : Stmt := topS 79
theorem sc_law_under : FnScope ["_law_piece"] ["_law_piece"] (defScope s_law_under) := ⟨rfl, rfl, rfl, by decide +kernel, rfl, by decide +kernel, by decide +kernel⟩
def w_law_under : WS := (wSeq (wIfS (wB (wOp (fInQ false) (wOp fIxT (wVar 0) (wK (.int 0))) (wLst (wCons (wK (.str "num")) (wCons (wK (.str "truth")) (wCons (wK (.str "flow")) (wCons (wK (.str "beats")) wNil))))))) (wRet (wLst wNil)) wNext)
  (wSeq (wIfS (wB (wOp fEq (wOp fIxT (wVar 0) (wK (.int 0))) (wK (.str "call")))) (wRet (wOp fIxT (wVar 0) (wK (.int 2)))) wNext)
  (wSeq (wIfS (wB (wOp fEq (wOp fIxT (wVar 0) (wK (.int 0))) (wK (.str "when")))) (wRet (wLst (wCons (wOp fIxT (wVar 0) (wK (.int 1))) wNil))) wNext)
  (wSeq (wIfS (wB (wOp (fInQ false) (wOp fIxT (wVar 0) (wK (.int 0))) (wLst (wCons (wK (.str "then")) (wCons (wK (.str "merge")) wNil))))) (wRet (wTell (wListO (wCons (wSlT (wVar 0) (wPart (wK (.int 2))) wNoP) wNil)))) wNext)
  (wRet (wTell (wListO (wCons (wSlT (wVar 0) (wPart (wK (.int 1))) wNoP) wNil))))))))
def f_law_under : W1 := wBody 0 w_law_under
def sp_law_under (K : PySem.W.Frag) : Sp := spD 1 f_law_under K
theorem ok_law_under {f : Addr} {fd : FuncData} (F : Fun K "_law_under" "_law_under" s_law_under f fd) (m_list : mg "list" = none) : FnOk P w K mg base CX0 1 f fd ["_law_piece"] (sp_law_under K) := by
  refine F.ok sc_law_under (fun vs H Q E h => spD_len h) (fun cdv A outer s H vs Q E hr h => ?_)
  refine ⟨_, (pss_cons (ps_if (pt_cmpR (show OpR _ (compareOp .In) (rIn K false) from op_in_seq) (pe_ix (r := rIxT K) ix_tup (pv 0) pe_int (fun _ _ => rfl)) (pe_lst (pa_cons pe_str (pa_cons pe_str (pa_cons pe_str (pa_cons pe_str pa_nil))))) (by rfl)) (pss_one (ps_ret (pe_lst pa_nil))) pss_nil)
        (pss_cons (ps_if (pt_cmpR op_eq (pe_ix (r := rIxT K) ix_tup (pv 0) pe_int (fun _ _ => rfl)) pe_str (nomark _)) (pss_one (ps_ret (pe_ix (r := rIxT K) ix_tup (pv 0) pe_int (fun _ _ => rfl)))) pss_nil)
        (pss_cons (ps_if (pt_cmpR op_eq (pe_ix (r := rIxT K) ix_tup (pv 0) pe_int (fun _ _ => rfl)) pe_str (nomark _)) (pss_one (ps_ret (pe_lst (pa_cons (pe_ix (r := rIxT K) ix_tup (pv 0) pe_int (fun _ _ => rfl)) pa_nil)))) pss_nil)
        (pss_cons (ps_if (pt_cmpR (show OpR _ (compareOp .In) (rIn K false) from op_in_seq) (pe_ix (r := rIxT K) ix_tup (pv 0) pe_int (fun _ _ => rfl)) (pe_lst (pa_cons pe_str (pa_cons pe_str pa_nil))) (by rfl)) (pss_one (ps_ret (pe_callTy call_list_of (by rfl) m_list (by decide +kernel) (pa_cons (pe_slice sl_tupA (pv 0) (po_some pe_int) po_none) pa_nil)))) pss_nil)
        (pss_one (ps_ret (pe_callTy call_list_of (by rfl) m_list (by decide +kernel) (pa_cons (pe_slice sl_tupA (pv 0) (po_some pe_int) po_none) pa_nil)))))))), ?_⟩
  refine body_D (m := 0) (W := w_law_under) (fun N => ?_) h rfl
  have ok := @ctxP_ok K H N
  exact (fs_seq (fs_if (ft_test (fe_op fr_inQ (fe_op fr_ixT' fe_var fe_int) (fe_lst ok (fa_cons fe_str (fa_cons fe_str (fa_cons fe_str (fa_cons fe_str fa_nil))))))) (fs_ret (fe_lst ok fa_nil)) fs_next)
        (fs_seq (fs_if (ft_test (fe_op fr_eq (fe_op fr_ixT' fe_var fe_int) fe_str)) (fs_ret (fe_op fr_ixT' fe_var fe_int)) fs_next)
        (fs_seq (fs_if (ft_test (fe_op fr_eq (fe_op fr_ixT' fe_var fe_int) fe_str)) (fs_ret (fe_lst ok (fa_cons (fe_op fr_ixT' fe_var fe_int) fa_nil))) fs_next)
        (fs_seq (fs_if (ft_test (fe_op fr_inQ (fe_op fr_ixT' fe_var fe_int) (fe_lst ok (fa_cons fe_str (fa_cons fe_str fa_nil))))) (fs_ret (fe_o (fo_list' ok (fa_cons (fe_slT ok fe_var (fp_some fe_int) fp_none) fa_nil)))) fs_next)
        (fs_ret (fe_o (fo_list' ok (fa_cons (fe_slT ok fe_var (fp_some fe_int) fp_none) fa_nil))))))))
abbrev s_law_flows : Stmt := topS 86
theorem sc_law_flows : FnScope ["_law_piece", "_law_found", "_law_targets", "_law_e"] ["_law_piece"] (defScope s_law_flows) := ⟨rfl, rfl, rfl, by decide +kernel, rfl, by decide +kernel, by decide +kernel⟩
def w_law_flows : WS := (wSeq (wAsg (wTell (wListO (wCons (wOp fIxT (wVar 0) (wK (.int 1))) wNil))) (wName [] 1))
  (wSeq (wFor (wItL (wOp fIxT (wVar 0) (wK (.int 3)))) (wgTup 2 (wgCons (wName [] 2) (wgCons (wName [] 3) wgNil))) (wAsg (wOp fCat (wVar 1) (wTell (wListO (wCons (wVar 2) wNil)))) (wName [] 1)))
  (wRet (wVar 1))))
def f_law_flows : W1 := wBody 3 w_law_flows
def sp_law_flows (K : PySem.W.Frag) : Sp := spD 1 f_law_flows K
theorem ok_law_flows {f : Addr} {fd : FuncData} (F : Fun K "_law_flows" "_law_flows" s_law_flows f fd) (m_list : mg "list" = none) : FnOk P w K mg base CX0 1 f fd ["_law_piece"] (sp_law_flows K) := by
  refine F.ok sc_law_flows (fun vs H Q E h => spD_len h) (fun cdv A outer s H vs Q E hr h => ?_)
  refine ⟨_, (pss_cons (ps_set (i := 1) sc_law_flows.nd rfl (Or.inl rfl) (pe_callTy call_list_of (by rfl) m_list (by decide +kernel) (pa_cons (pe_ix (r := rIxT K) ix_tup (pv 0) pe_int (fun _ _ => rfl)) pa_nil)))
        (pss_cons (ps_for PassesOwn.never rfl (pi_list (pe_ix (r := rIxT K) ix_tup (pv 0) pe_int (fun _ _ => rfl))) (pg_tup (by rfl) (pgs_cons (pg_name (i := 2) sc_law_flows.nd rfl (Or.inl rfl)) (pgs_cons (pg_name (i := 3) sc_law_flows.nd rfl (Or.inl rfl)) pgs_nil))) (pss_one (ps_set (i := 1) sc_law_flows.nd rfl (Or.inl rfl) (pe_op op_cat (pv 1) (pe_callTy call_list_of (by rfl) m_list (by decide +kernel) (pa_cons (pv 2) pa_nil))))))
        (pss_one (ps_ret (pv 1))))), ?_⟩
  refine body_D (m := 3) (W := w_law_flows) (fun N => ?_) h rfl
  have ok := @ctxP_ok K H N
  exact (fs_seq (fs_asg (fe_o (fo_list' ok (fa_cons (fe_op fr_ixT' fe_var fe_int) fa_nil))) fg_name)
        (fs_seq (fs_for (fi_list (fe_op fr_ixT' fe_var fe_int)) (fg_tup (fg_cons fg_name (fg_cons fg_name fg_nil))) (fs_asg (fe_op (fr_cat ok) fe_var (fe_o (fo_list' ok (fa_cons fe_var fa_nil)))) fg_name))
        (fs_ret fe_var)))
end
end WK
namespace WK
open PySem PySem.Spec PyProof.Rows L2 WD
theorem tells_flowsP {M : Mod} {N : Nat} (h : ModOk M N) : TellsW f_flows [M.D] (.list (M.fl.map .str)) := fun P p => ⟨rfl, tells_check h _ ⟨rfl, tells_flows h _ p⟩⟩
theorem flows_loop {m : PyData} {P : Fl → Prop} : ∀ (l : List (List Str × PyData)) (acc : List Str) (a b : En), acc.length + (l.flatMap (·.1)).length ≤ 2000 → (∀ a b, P (.nx ⟨[.dat m, .dat (.list ((acc ++ l.flatMap (·.1)).map .str)), a, b], 0⟩)) →
    wLoop (wgTup 2 (wgCons (wName [] 2) (wgCons (wName [] 3) wgNil))) (wAsg (wOp fCat (wVar 1) (wTell (wListO (wCons (wVar 2) wNil)))) (wName [] 1)) ((l.map fun r => (r.1.map PyData.str, r.2)).map rowD) ⟨[.dat m, .dat (.list (acc.map .str)), a, b], 0⟩ P
  | [], acc, a, b, _, p => by
    have := p a b
    rw [List.flatMap_nil, List.append_nil] at this
    exact this
  | r :: l, acc, a, b, hb, p => by
    rw [List.flatMap_cons, List.length_append] at hb
    have ih := flows_loop (m := m) (P := P) l (acc ++ r.1) (.dat (.tuple (r.1.map .str))) (.dat r.2) (by rw [List.length_append]; omega) (by
      rw [List.flatMap_cons] at p
      rw [List.append_assoc]
      exact p)
    rw [List.map_append] at ih
    refine ⟨rfl, rfl, by show 2 < 4; decide, rfl, by show 3 < 4; decide, rfl, ?_⟩
    refine ⟨?_, rfl, by show 1 < 4; decide, ih⟩
    rw [List.length_map, List.length_map]
    omega
theorem tells_law_flows {M : Mod} {N : Nat} (h : ModOk M N) : TellsW f_law_flows [M.D] (.list (M.fl.map .str)) := fun P p => by
  have h1 := h.tgsL
  have h2 := h.insL
  refine ⟨_, rfl, rfl, by show 1 < 4; decide, _, rfl, ?_⟩
  exact flows_loop M.rows M.ins .un .un (by show M.ins.length + M.tgs.length ≤ 2000; omega) fun a b => p
/-! ### the parts of a good expression -/
theorem parts_ok {ks : List Str} {m : Bool} {d s : Nat} {e : PyData} (h : Exq ks m (d + 1) e s) : ∃ ps M, partsD e = some ps ∧ LevQ ks false d ps M ∧ s = M + 1 := by
  cases h with
  | atom h => cases h <;> exact ⟨[], 0, rfl, .nil, rfl⟩
  | flow hk hn => exact ⟨[], 0, rfl, .nil, rfl⟩
  | beats h1 h2 h3 => exact ⟨[], 0, rfl, .nil, rfl⟩
  | @two _ _ s t x a b hx ha hb =>
    refine ⟨[a, b], s + (t + 0), ?_, .cons ha (.cons hb .nil), rfl⟩
    unfold twoW at hx
    simp only [List.mem_cons, List.not_mem_nil, or_false] at hx
    rcases hx with rfl | rfl | rfl | rfl | rfl | rfl | rfl <;> rfl
  | @not _ _ s a ha => exact ⟨[a], s + 0, rfl, .cons ha .nil, rfl⟩
  | @pick _ _ s t u a b c ha hb hc => exact ⟨[a, b, c], s + (t + (u + 0)), rfl, .cons ha (.cons hb (.cons hc .nil)), by omega⟩
  | @thn _ _ s k a hk ha => exact ⟨[a], s + 0, rfl, .cons ha .nil, rfl⟩
  | @whn _ _ s a f b ha hk hn => exact ⟨[a], s + 0, rfl, .cons ha .nil, rfl⟩
  | @merge _ _ s t f a b hk hn ha hb => exact ⟨[a, b], s + (t + 0), rfl, .cons ha (.cons hb .nil), rfl⟩
  | @call _ n f ps hn hl h => exact ⟨ps, n, rfl, h, rfl⟩
end WK
namespace WK
open PySem PySem.Spec PyProof.Rows L2 WD
section
variable {P : Program} {w : World} {K : PySem.W.Frag} {mg : Str → Option Value} {base : Heap}
abbrev s_walk : Stmt := topS 29
theorem sc_walk : FnScope ["rows", "told", "k", "_", "whole"] ["rows"] (defScope s_walk) := ⟨rfl, rfl, rfl, by decide +kernel, rfl, by decide +kernel, by decide +kernel⟩
def w_walk : WS := (wSeq (wOwn [] 1 (wLstO wNil))
  (wSeq (wFor (wItE (wCons (wVar 0) wNil)) (wgTup 2 (wgCons (wName [] 2) (wgCons (wgTup 2 (wgCons (wName [] 3) (wgCons (wName [] 4) wgNil))) wgNil))) (wDrop (wCallO 1 3 (walkB 12) (wCons (wVar 2) (wCons (wTup wNil) (wCons (wVar 4) wNil))))))
  (wRet (wVar 1))))
def f_walk : W1 := wBody 4 w_walk
def sp_walk (K : PySem.W.Frag) : Sp := spD 1 f_walk K
theorem ok_walk {f : Addr} {fd : FuncData} (F : Fun K "walk" "walk" s_walk f fd) (m_enumerate : mg "enumerate" = none) {f_walk_into : Addr} {fd_walk_into : FuncData} (c_walk_into : Cal P w K mg base CX0 12 f_walk_into fd_walk_into "_walk_into" ["told", "k", "path", "e"] (sp_walk_into K)) : FnOk P w K mg base CX0 13 f fd ["rows"] (sp_walk K) := by
  refine F.ok sc_walk (fun vs H Q E h => spD_len h) (fun cdv A outer s H vs Q E hr h => ?_)
  refine ⟨_, (pss_cons (ps_set (i := 1) sc_walk.nd rfl (Or.inl rfl) (pe_lst pa_nil))
        (pss_cons (ps_for PassesOwn.never rfl (pi_enum (by rfl) m_enumerate (pa_cons (pv 0) pa_nil)) (pg_tup (by rfl) (pgs_cons (pg_name (i := 2) sc_walk.nd rfl (Or.inl rfl)) (pgs_cons (pg_tup (by rfl) (pgs_cons (pg_name (i := 3) sc_walk.nd rfl (Or.inl rfl)) (pgs_cons (pg_name (i := 4) sc_walk.nd rfl (Or.inl rfl)) pgs_nil))) pgs_nil))) (pss_one (ps_expr (pe_call c_walk_into.G (hr.mono (by decide)) (by rfl) c_walk_into.g c_walk_into.kp c_walk_into.b .nil pass0 (pa_cons (pv 1) (pa_cons (pv 2) (pa_cons (pe_tup pa_nil) (pa_cons (pv 4) pa_nil))))))))
        (pss_one (ps_ret (pv 1))))), ?_⟩
  refine body_D (m := 4) (W := w_walk) (fun N => ?_) h rfl
  have ok := @ctxP_ok K H N
  exact (fs_seq (fs_own' (fo_lst' ok fa_nil))
        (fs_seq (fs_for (fi_enum ok (fa_cons fe_var fa_nil)) (fg_tup (fg_cons fg_name (fg_cons (fg_tup (fg_cons fg_name (fg_cons fg_name fg_nil))) fg_nil))) (fs_drop (fe_callO ok (fa_cons fe_var (fa_cons (fe_tup ok fa_nil) (fa_cons fe_var fa_nil))))))
        (fs_ret fe_var)))
end
end WK
namespace WK
open PySem PySem.Spec PyProof.Rows L2 WD
section
variable {P : Program} {w : World} {K : PySem.W.Frag} {mg : Str → Option Value} {base : Heap}
variable {e0 : Addr}
abbrev s_places : Stmt := topS 60
theorem sc_places : FnScope ["module", "only", "k", "path", "e"] ["module", "only"] (defScope s_places) := ⟨rfl, rfl, rfl, by decide +kernel, rfl, by decide +kernel, by decide +kernel⟩
def w_places : WS := (wSeq (wDrop (wCall 1 f_check_module (wCons (wVar 0) wNil)))
  (wRet (wTell (wLc [] (wItL (wCall 1 f_walk (wCons (wOp fIxT (wVar 0) (wK (.int 3))) wNil))) (wgTup 3 (wgCons (wName [] 2) (wgCons (wName [] 3) (wgCons (wName [] 4) wgNil)))) (wOr (wNot (wTru (wVar 1))) (wB (wOp (fInQ false) (wOp fIxT (wVar 4) (wK (.int 0))) (wVar 1)))) (wTup (wCons (wVar 2) (wCons (wVar 3) wNil))) [2, 3, 4]))))
def f_places : W1 := wBody 3 w_places
def sp_places (K : PySem.W.Frag) : Sp := spD 2 f_places K
theorem ok_places {f : Addr} {fd : FuncData} (F : FunD K "places" "places" (defArgs s_places) (defBody s_places) (defScope s_places) [] [("only", .ref e0)] f fd) {f_check_module : Addr} {fd_check_module : FuncData} (c_check_module : Cal P w K mg base CX0 10 f_check_module fd_check_module "check_module" ["thing"] (sp_check_module K)) {f_walk : Addr} {fd_walk : FuncData} (c_walk : Cal P w K mg base CX0 13 f_walk fd_walk "walk" ["rows"] (sp_walk K)) : FnOk P w K mg base CX0 14 f fd ["module", "only"] (sp_places K) := by
  refine F.ok sc_places (fun vs H Q E h => spD_len h) (fun cdv A outer s H vs Q E hr h => ?_)
  refine ⟨_, (pss_cons (ps_expr (pe_call c_check_module.G (hr.mono (by decide)) (by rfl) c_check_module.g c_check_module.kp c_check_module.b .nil pass0 (pa_cons (pv 0) pa_nil)))
        (pss_one (ps_ret (pe_lc (own := [("k", 2), ("path", 3), ("e", 4)]) (g := gTup K 3 (gCons (gName 2) (gCons (gName 3) (gCons (gName 4) gNil)))) (by rfl) sc_places.nd (pi_list (pe_call c_walk.G (hr.mono (by decide)) (by rfl) c_walk.g c_walk.kp c_walk.b .nil pass0 (pa_cons (pe_ix (r := rIxT K) ix_tup (pv 0) pe_int (fun _ _ => rfl)) pa_nil))) (blkOk_by (N := ["module", "only", "k", "path", "e"]) (sc := defScope s_places) (by decide +kernel)) (fun _ _ _ _ _ => (pg_tup (by rfl) (pgs_cons (pg_name (i := 2) sc_places.nd rfl (Or.inl rfl)) (pgs_cons (pg_name (i := 3) sc_places.nd rfl (Or.inl rfl)) (pgs_cons (pg_name (i := 4) sc_places.nd rfl (Or.inl rfl)) pgs_nil))))) (fun _ _ _ _ _ => pts_one (PW.pt (pw_or (pt_not (pt_truthK (K := K) rfl (pv 1) (by intro _; rfl))) (pw_or1 (pt_cmpR (show OpR _ (compareOp .In) (rIn K false) from op_in_seq) (pe_ix (r := rIxT K) ix_tup (pv 4) pe_int (fun _ _ => rfl)) (pv 1) (by rfl)))))) (fun _ _ _ _ _ => (pe_tup (pa_cons (pv 2) (pa_cons (pv 3) pa_nil)))))))), ?_⟩
  refine body_D (m := 3) (W := w_places) (fun N => ?_) h rfl
  have ok := @ctxP_ok K H N
  exact (fs_seq (fs_drop (fe_callD ok (fa_cons fe_var fa_nil)))
        (fs_ret (fe_o (fo_lc (vs := [2, 3, 4]) ok (fi_list (fe_callD ok (fa_cons (fe_op fr_ixT' fe_var fe_int) fa_nil))) (fg_tup (fg_cons fg_name (fg_cons fg_name (fg_cons fg_name fg_nil)))) (by decide) (ft_or (ft_not (ft_tru fe_var)) (ft_test (fe_op fr_inQ (fe_op fr_ixT' fe_var fe_int) fe_var))) (fe_tup ok (fa_cons fe_var (fa_cons fe_var fa_nil)))))))
end
end WK
namespace WK
open PySem PySem.Spec PyProof.Rows L2 WD
/-- what the walk tells of a good expression: as many as it has expressions -/
theorem walk_ok {ks : List Str} : ∀ (d n : Nat) (m : Bool) (e : PyData) (s : Nat) (k : PyData) (p : List PyData), d ≤ n → Exq ks m d e s → p.length + d ≤ 1000 → ∃ L, walkB n [k, .tuple p, e] = some L ∧ L.length = s
  | 0, n, m, e, s, k, p, _, h, _ => by
    obtain ⟨d2, e⟩ := h.pos
    omega
  | d + 1, n, m, e, s, k, p, hn, h, hp => by
    obtain ⟨n, rfl⟩ : ∃ n2, n = n2 + 1 := ⟨n - 1, by omega⟩
    obtain ⟨ps, M, h1, h2, rfl⟩ := parts_ok h
    have go : ∀ (ps : List PyData) (i M : Nat), LevQ ks false d ps M → ∃ L, walkL (walkB n) k p ps i = some L ∧ L.length = M := by
      intro ps
      induction ps with
      | nil => intro i M h; exact ⟨[], rfl, by rw [h.unnil]; rfl⟩
      | cons x ps ih =>
        intro i M h
        obtain ⟨s, n', rfl, he, ht⟩ := h.uncons
        obtain ⟨A, a1, a2⟩ := walk_ok d n false x s k (p ++ [.int (i : Nat)]) (by omega) he (by rw [List.length_append]; simp only [List.length_cons, List.length_nil]; omega)
        obtain ⟨B, b1, b2⟩ := ih (i + 1) n' ht
        refine ⟨A ++ B, ?_, by rw [List.length_append, a2, b2]⟩
        unfold walkL
        rw [a1, b1]
    obtain ⟨L, l1, l2⟩ := go ps 0 M h2
    refine ⟨.tuple [k, .tuple p, e] :: L, ?_, by rw [List.length_cons, l2]⟩
    unfold walkB
    show (match partsD e with | some ps => _ | none => _) = _
    rw [h1]
    show (if p.length < 16777216 then _ else _) = _
    rw [if_pos (by omega), l1]
    rfl
/-- the walk of all rows -/
def walkR : List (List PyData × PyData) → Nat → Option (List PyData)
  | [], _ => some []
  | r :: l, i => match walkB 12 [.int (i : Nat), .tuple [], r.2], walkR l (i + 1) with
    | some a, some b => some (a ++ b)
    | _, _ => none
theorem walkR_ok {ks : List Str} {d : Nat} (hd : d ≤ 12) : ∀ (l : List (List PyData × PyData)) (i N : Nat), RowsQ ks d l N → ∃ L, walkR l i = some L ∧ L.length = N
  | [], _, _, .nil => ⟨[], rfl, rfl⟩
  | _ :: l, i, _, .cons h _ t => by
    obtain ⟨A, a1, a2⟩ := walk_ok d 12 true _ _ (.int (i : Nat)) [] hd h (by rw [List.length_nil]; omega)
    obtain ⟨B, b1, b2⟩ := walkR_ok hd l (i + 1) _ t
    refine ⟨A ++ B, ?_, by rw [List.length_append, a2, b2]⟩
    unfold walkR
    rw [a1, b1]
theorem walk_loop {rows : PyData} {P : Fl → Prop} : ∀ (l : List (List PyData × PyData)) (i : Nat) (acc L : List PyData) (a b c : En), walkR l i = some L → acc.length + L.length ≤ 16777216 → (∀ a b c, P (.nx ⟨[.dat rows, .own (acc ++ L), a, b, c], 0⟩)) →
    wLoop (wgTup 2 (wgCons (wName [] 2) (wgCons (wgTup 2 (wgCons (wName [] 3) (wgCons (wName [] 4) wgNil))) wgNil))) (wDrop (wCallO 1 3 (walkB 12) (wCons (wVar 2) (wCons (wTup wNil) (wCons (wVar 4) wNil))))) (numF i (l.map rowD)) ⟨[.dat rows, .own acc, a, b, c], 0⟩ P
  | [], i, acc, L, a, b, c, h, _, p => by
    cases h
    have := p a b c
    rw [List.append_nil] at this
    exact this
  | r :: l, i, acc, L, a, b, c, h, hb, p => by
    unfold walkR at h
    split at h
    · rename_i A B h1 h2
      cases h
      rw [List.length_append] at hb
      have ih := walk_loop (rows := rows) (P := P) l (i + 1) (acc ++ A) B (.dat (.int (i : Nat))) (.dat (.tuple r.1)) (.dat r.2) h2 (by rw [List.length_append]; omega) (by rw [← List.append_assoc] at p; exact p)
      refine ⟨rfl, rfl, by show 2 < 5; decide, rfl, rfl, by show 3 < 5; decide, rfl, by show 4 < 5; decide, rfl, rfl, ?_⟩
      exact ⟨rfl, by decide, rfl, acc, A, rfl, h1, by omega, ih⟩
    · cases h
theorem tells_walk {l : List (List PyData × PyData)} {L : List PyData} (h : walkR l 0 = some L) (hl : L.length ≤ 16777216) : TellsW f_walk [.list (l.map rowD)] (.list L) := fun P p => by
  refine ⟨by decide, rfl, by show 1 < 5; decide, ?_⟩
  show wLoop _ _ (numbered (l.map rowD)) _ _
  rw [numbered_numF]
  exact walk_loop l 0 [] L .un .un .un h (by rw [List.length_nil]; omega) fun a b c => p
end WK
namespace WK
open PySem PySem.Spec PyProof.Rows L2 WD
/-- an entry of the walk -/
def SpotE (z : PyData) : Prop := ∃ k p x r, z = .tuple [k, .tuple p, .tuple (.str x :: r)]
theorem Exq.shape {ks : List Str} {m : Bool} {d s : Nat} {e : PyData} (h : Exq ks m d e s) : ∃ x r, e = .tuple (.str x :: r) := by
  cases h with
  | atom h => cases h <;> exact ⟨_, _, rfl⟩
  | _ => exact ⟨_, _, rfl⟩
theorem walk_spots {ks : List Str} : ∀ (d n : Nat) (m : Bool) (e : PyData) (s : Nat) (k : PyData) (p L : List PyData), Exq ks m d e s → walkB n [k, .tuple p, e] = some L → ∀ z ∈ L, SpotE z
  | 0, n, m, e, s, k, p, L, h, _ => by
    obtain ⟨d2, e⟩ := h.pos
    omega
  | d + 1, n, m, e, s, k, p, L, h, hw => by
    cases n with
    | zero => cases hw
    | succ n =>
      obtain ⟨ps, M, h1, h2, rfl⟩ := parts_ok h
      have go : ∀ (ps : List PyData) (i M : Nat) (L : List PyData), LevQ ks false d ps M → walkL (walkB n) k p ps i = some L → ∀ z ∈ L, SpotE z := by
        intro ps
        induction ps with
        | nil => intro i M L h hL; cases hL; intro z hz; cases hz
        | cons x ps ih =>
          intro i M L h hL
          obtain ⟨s, n', rfl, he, ht⟩ := h.uncons
          obtain ⟨A, B, a1, b1, rfl⟩ := walkL_cons hL
          intro z hz
          rcases List.mem_append.mp hz with hz | hz
          · exact walk_spots d n false x s k _ A he a1 z hz
          · exact ih (i + 1) n' B ht b1 z hz
      unfold walkB at hw
      have hw : (match partsD e with | some ps => if p.length < 16777216 then (walkL (walkB n) k p ps 0).map (.tuple [k, .tuple p, e] :: ·) else none | none => none) = some L := hw
      rw [h1] at hw
      have hw : (if p.length < 16777216 then (walkL (walkB n) k p ps 0).map (.tuple [k, .tuple p, e] :: ·) else none) = some L := hw
      split at hw
      · obtain ⟨L2, g1, rfl⟩ := Option.map_eq_some_iff.mp hw
        intro z hz
        rcases List.mem_cons.mp hz with rfl | hz
        · obtain ⟨x, r, rfl⟩ := h.shape
          exact ⟨k, p, x, r, rfl⟩
        · exact go ps 0 M L2 h2 g1 z hz
      · cases hw
theorem walkR_spots {ks : List Str} {d : Nat} : ∀ (l : List (List PyData × PyData)) (i N : Nat) (L : List PyData), RowsQ ks d l N → walkR l i = some L → ∀ z ∈ L, SpotE z
  | [], _, _, L, .nil, h => by cases h; intro z hz; cases hz
  | r :: l, i, _, L, .cons he _ t, h => by
    unfold walkR at h
    split at h
    · rename_i A B h1 h2
      cases h
      intro z hz
      rcases List.mem_append.mp hz with hz | hz
      · exact walk_spots d 12 true _ _ _ _ A he h1 z hz
      · exact walkR_spots l (i + 1) _ B t h2 z hz
    · cases h
end WK
namespace WK
open PySem PySem.Spec PyProof.Rows L2 WD
/-- the places of the walk's entries whose word is among ws (of all, if ws is empty) -/
def plD (ws : List Str) : List PyData → List PyData
  | [] => []
  | .tuple [k, q, .tuple (.str x :: _)] :: r => if ws.isEmpty || ws.any (fun y => y == x) then .tuple [k, q] :: plD ws r else plD ws r
  | _ :: r => plD ws r
theorem any_str {x : Str} : ∀ ws : List Str, ((ws.map PyData.str).any fun y => eqvD y (.str x)) = ws.any fun y => y == x
  | [] => rfl
  | w :: ws => by
    rw [List.map_cons, List.any_cons, List.any_cons, any_str ws]
    rfl
theorem all_flat : ∀ ws : List Str, (ws.map PyData.str).all flatD = true
  | [] => rfl
  | w :: ws => by
    rw [List.map_cons, List.all_cons, all_flat ws]
    rfl
theorem comp_places {m : En} {ws : List Str} {P : List PyData → WD.Env → Prop} : ∀ (L acc : List PyData), (∀ z ∈ L, SpotE z) → acc.length + L.length ≤ 100000 → P (acc ++ plD ws L) ⟨[m, .dat (.tuple (ws.map .str)), .un, .un, .un], 0⟩ →
    wComp (wgTup 3 (wgCons (wName [] 2) (wgCons (wName [] 3) (wgCons (wName [] 4) wgNil)))) (wOr (wNot (wTru (wVar 1))) (wB (wOp (fInQ false) (wOp fIxT (wVar 4) (wK (.int 0))) (wVar 1)))) (wTup (wCons (wVar 2) (wCons (wVar 3) wNil))) [2, 3, 4] L [m, .dat (.tuple (ws.map .str)), .un, .un, .un] 0 acc P
  | [], acc, _, _, p => by
    have p : P (acc ++ []) ⟨[m, .dat (.tuple (ws.map .str)), .un, .un, .un], 0⟩ := p
    rw [List.append_nil] at p
    exact p
  | z :: L, acc, h, b, p => by
    obtain ⟨k, q, x, r, rfl⟩ := h z (.head _)
    rw [List.length_cons] at b
    have p : P (acc ++ (if ws.isEmpty || ws.any (fun y => y == x) then .tuple [k, .tuple q] :: plD ws L else plD ws L)) ⟨[m, .dat (.tuple (ws.map .str)), .un, .un, .un], 0⟩ := p
    refine ⟨rfl, rfl, by show 2 < 5; decide, rfl, by show 3 < 5; decide, rfl, by show 4 < 5; decide, rfl, ?_⟩
    refine ⟨trivial, ?_⟩
    have yes : (ws.isEmpty || ws.any (fun y => y == x)) = true → (wTup (wCons (wVar 2) (wCons (wVar 3) wNil))) ⟨[m, .dat (.tuple (ws.map .str)), .dat k, .dat (.tuple q), .dat (.tuple (.str x :: r))], 0⟩ (fun z ρ4 => wipeE ρ4.sl [2, 3, 4] = [m, .dat (.tuple (ws.map .str)), .un, .un, .un] ∧ acc.length < 16777216 ∧
        wComp (wgTup 3 (wgCons (wName [] 2) (wgCons (wName [] 3) (wgCons (wName [] 4) wgNil)))) (wOr (wNot (wTru (wVar 1))) (wB (wOp (fInQ false) (wOp fIxT (wVar 4) (wK (.int 0))) (wVar 1)))) (wTup (wCons (wVar 2) (wCons (wVar 3) wNil))) [2, 3, 4] L [m, .dat (.tuple (ws.map .str)), .un, .un, .un] ρ4.went (acc ++ [z]) P) := fun e => by
      rw [if_pos e] at p
      refine ⟨by show 2 ≤ 16777216; decide, rfl, by omega, ?_⟩
      exact comp_places L (acc ++ [.tuple [k, .tuple q]]) (fun z hz => h z (.tail _ hz)) (by rw [List.length_append]; simp only [List.length_cons, List.length_nil]; omega) (by rw [List.append_assoc]; exact p)
    cases ws with
    | nil => exact yes rfl
    | cons w ws =>
      refine ⟨.str x, at_head, rfl, all_flat (w :: ws), ?_⟩
      have e := any_str (x := x) (w :: ws)
      show (if (xor false (((w :: ws).map PyData.str).any fun y => eqvD y (.str x))) = true then _ else _)
      rw [e]
      cases q2 : (w :: ws).any (fun y => y == x) with
      | true =>
        rw [if_pos (by rfl)]
        exact yes (by rw [q2]; rfl)
      | false =>
        rw [if_neg (by decide)]
        rw [q2] at p
        refine ⟨rfl, ?_⟩
        exact comp_places L acc (fun z hz => h z (.tail _ hz)) (by omega) p
theorem tells_places {M : Mod} {N : Nat} {ws : List Str} {L : List PyData} (h : ModOk M N) (hL : walkR M.rs 0 = some L) : TellsW f_places [M.D, .tuple (ws.map .str)] (.list (plD ws L)) := fun P p => by
  obtain ⟨L2, e, l⟩ := walkR_ok (d := 8) (by decide) M.rs 0 N h.ex
  rw [hL] at e
  cases e
  have hN := h.few
  refine ⟨rfl, tells_check h _ ?_⟩
  refine ⟨_, rfl, rfl, tells_walk hL (by omega) _ ⟨⟨rfl, rfl⟩, ?_⟩⟩
  exact comp_places L [] (walkR_spots M.rs 0 N L h.ex hL) (by rw [List.length_nil]; omega) p
end WK
namespace WK
open PySem PySem.Spec PyProof.Rows L2 WD
theorem comp_pick2 {es : List PyData} {a : En} {P : List PyData → WD.Env → Prop} : ∀ (ss ds acc : List PyData), pickL es ss = some ds → acc.length + ds.length ≤ 1000 → P (acc ++ ds) ⟨[.dat (.tuple es), a, .un], 0⟩ →
    wComp (wName [] 2) wYes (wOp fIxT (wVar 0) (wVar 2)) [2] ss [.dat (.tuple es), a, .un] 0 acc P
  | [], ds, acc, h, _, p => by
    cases h
    rw [List.append_nil] at p
    exact p
  | s :: ss, ds0, acc, h, l, p => by
    unfold pickL at h
    split at h
    · cases ‹_ = ([] : List PyData)›
    · rename_i j r e0
      cases e0
      split at h
      · rename_i d ds hd hr
        cases h
        rw [List.length_cons] at l
        have ih := comp_pick2 (a := a) (P := P) ss ds (acc ++ [d]) hr (by rw [List.length_append]; simp only [List.length_cons, List.length_nil]; omega) (by rw [List.append_assoc]; exact p)
        exact ⟨rfl, by show 2 < 3; decide, d, hd, rfl, by omega, ih⟩
      · cases h
    · cases h
theorem tells_parts {e : PyData} {ps : List PyData} (h : partsD e = some ps) (hl : ps.length ≤ 1000) : TellsW f_parts_of [e] (.list ps) := fun P p => by
  unfold partsD at h
  split at h
  · rename_i x r
    refine ⟨.str x, at_head, rfl, by show 1 < 3; decide, ?_⟩
    cases lk : kvs_PART_SPOTS.lookup x with
    | some v =>
      rw [lk] at h
      show (if (xor false (kvs_PART_SPOTS.lookup x).isSome) = true then _ else _)
      rw [lk, if_pos (by rfl)]
      cases v <;> first | (cases h; done) | skip
      rename_i ss
      exact ⟨.tuple ss, lk, ⟨rfl, rfl⟩, comp_pick2 ss ps [] h (by rw [List.length_nil]; omega) p⟩
    | none =>
      rw [lk] at h
      show (if (xor false (kvs_PART_SPOTS.lookup x).isSome) = true then _ else _)
      rw [lk, if_neg (by decide)]
      refine ⟨decide (x = "call"), rfl, ?_⟩
      by_cases hc : x = "call"
      · have h : (match atI (PyData.str x :: r) 2 with | some (.list ps) => some ps | _ => none) = some ps := by rw [if_pos hc] at h; exact h
        rw [decide_eq_true hc]
        split at h
        · rename_i ps' h2
          cases h
          exact ⟨.list ps, h2, p⟩
        · cases h
      · have h : some ([] : List PyData) = some ps := by rw [if_neg hc] at h; exact h
        cases h
        rw [decide_eq_false hc]
        exact ⟨by decide, p⟩
  · cases h
/-- the expression at a path -/
def atP : PyData → List Int → Option PyData
  | e, [] => some e
  | e, i :: r => match partsD e with
    | some ps => if 0 ≤ i ∧ i < (ps.length : Int) then (match ps[i.toNat]? with
      | some d => atP d r
      | none => none) else none
    | none => none
/-- what part_at tells: the expression, or None -/
theorem part_loop {ks : List Str} {path : PyData} {P : PyData → Prop} {Pf : Fl → Prop} (q1 : ∀ e a b, P e → Pf (.nx ⟨[.dat e, .dat path, a, b], 0⟩)) (q2 : ∀ d ρ, P d → Pf (.rt d ρ)) : ∀ (r : List Int) (d s : Nat) (m : Bool) (e : PyData) (a b : En), Exq ks m d e s → s ≤ 1000 → P ((atP e r).getD .none) →
    wLoop (wName [] 2) (wSeq (wAsg (wCall 1 f_parts_of (wCons (wVar 0) wNil)) (wName [] 3))
      (wSeq (wIfS (wNot (wB (wChain (f2I fun i j => .bool (decide (i ≤ j))) (f2I fun i j => .bool (decide (i < j))) (wK (.int 0)) (wVar 2) (wCB fLen (wCons (wVar 3) wNil))))) (wRet (wK .none)) wNext)
      (wAsg (wOp fIxL (wVar 3) (wVar 2)) (wName [] 0)))) (r.map .int) ⟨[.dat e, .dat path, a, b], 0⟩ Pf
  | [], d, s, m, e, a, b, h, _, p => q1 e a b p
  | i :: r, d, s, m, e, a, b, h, hs, p => by
    obtain ⟨d, rfl⟩ := h.pos
    obtain ⟨ps, M, h1, h2, rfl⟩ := parts_ok h
    have hl := h2.len_le
    unfold atP at p
    rw [h1] at p
    refine ⟨rfl, by show 2 < 4; decide, rfl, tells_parts h1 (by omega) _ ⟨rfl, by show 3 < 4; decide, ?_⟩⟩
    have p : P ((if 0 ≤ i ∧ i < (ps.length : Int) then (match ps[i.toNat]? with | some d => atP d r | none => none) else none).getD .none) := p
    by_cases h0 : (0 : Int) ≤ i
    · show (match (PyData.bool (decide ((0 : Int) ≤ i))) with | .bool true => _ | .bool false => _ | _ => False)
      rw [decide_eq_true h0]
      by_cases h8 : i < (ps.length : Int)
      · show (if (!(decide (i < ((ps.length : Nat) : Int)))) = true then _ else _)
        rw [decide_eq_true h8, if_neg (by decide)]
        rw [if_pos ⟨h0, h8⟩] at p
        have hx : i.toNat < ps.length := by omega
        rw [List.getElem?_eq_getElem hx] at p
        have eat : atI ps i = some ps[i.toNat] := by
          unfold atI ixN
          rw [if_pos h0, if_pos h8]
          exact List.getElem?_eq_getElem hx
        refine ⟨ps[i.toNat], eat, rfl, by show 0 < 4; decide, ?_⟩
        obtain ⟨s2, hs2, he2⟩ : ∃ s2, s2 ≤ M ∧ Exq ks false d ps[i.toNat] s2 := by
          have : ∀ (l : List PyData) (j : Nat) (N : Nat) (hj : j < l.length), LevQ ks false d l N → ∃ s2, s2 ≤ N ∧ Exq ks false d l[j] s2 := by
            intro l
            induction l with
            | nil => intro j N hj; cases hj
            | cons x l ih =>
              intro j N hj h
              obtain ⟨s, n, rfl, he, ht⟩ := h.uncons
              cases j with
              | zero => exact ⟨s, by omega, he⟩
              | succ j =>
                obtain ⟨s2, u1, u2⟩ := ih j n (by rw [List.length_cons] at hj; omega) ht
                exact ⟨s2, by omega, u2⟩
          exact this ps _ M hx h2
        exact part_loop q1 q2 r d s2 false _ _ _ he2 (by omega) p
      · show (if (!(decide (i < ((ps.length : Nat) : Int)))) = true then _ else _)
        rw [decide_eq_false h8, if_pos (by rfl)]
        rw [if_neg (fun z => h8 z.2)] at p
        exact q2 _ _ p
    · show (match (PyData.bool (decide ((0 : Int) ≤ i))) with | .bool true => _ | .bool false => _ | _ => False)
      rw [decide_eq_false h0]
      rw [if_neg (fun z => h0 z.1)] at p
      exact q2 _ _ p
theorem tells_part_at {ks : List Str} {r : List Int} {d s : Nat} {m : Bool} {e : PyData} (h : Exq ks m d e s) (hs : s ≤ 1000) : TellsW f_part_at [e, .tuple (r.map .int)] ((atP e r).getD .none) := fun P p =>
  part_loop (P := P) (fun e a b p => p) (fun d ρ p => p) r d s m e .un .un h hs p
end WK
namespace WK
open PySem PySem.Spec PyProof.Rows L2 WD
theorem comp_ints {a : En} {P : List PyData → WD.Env → Prop} : ∀ (r : List Int) (acc : List PyData), acc.length + r.length ≤ 100000 → P (acc ++ List.replicate r.length (.bool true)) ⟨[a, .un], 0⟩ →
    wComp (wName [] 1) wYes (wCall 1 f_is_whole (wCons (wVar 1) wNil)) [1] (r.map .int) [a, .un] 0 acc P
  | [], acc, _, p => by
    rw [List.length_nil, List.replicate_zero, List.append_nil] at p
    exact p
  | x :: r, acc, b, p => by
    rw [List.length_cons] at b
    have ih := comp_ints (a := a) (P := P) r (acc ++ [.bool true]) (by rw [List.length_append]; simp only [List.length_cons, List.length_nil]; omega) (by rw [List.append_assoc]; exact p)
    exact ⟨rfl, by show 1 < 2; decide, rfl, tells_whole _ ⟨rfl, by omega, ih⟩⟩
theorem tells_spot {k : Int} {r : List Int} (hl : r.length ≤ 100000) : TellsW f_is_spot [.tuple [.int k, .tuple (r.map .int)]] (.bool true) := fun P p => by
  refine ⟨true, rfl, _, rfl, ?_⟩
  refine ⟨_, rfl, rfl, tells_whole _ ?_⟩
  refine ⟨_, rfl, ⟨rfl, rfl⟩, comp_ints r [] (by rw [List.length_nil]; omega) ?_⟩
  refine ⟨List.replicate r.length true, bools_rep _, ?_⟩
  have e1 : (List.replicate r.length true).all id = true := by
    rw [List.all_eq_true]
    intro b hb
    rw [(List.mem_replicate.mp hb).2]
    rfl
  rw [e1]
  exact p
theorem RowsQ.at {ks : List Str} {d : Nat} : ∀ {l : List (List PyData × PyData)} {N j : Nat} {x : List PyData × PyData}, RowsQ ks d l N → l[j]? = some x → ∃ s, s ≤ N ∧ Exq ks true d x.2 s
  | [], _, j, x, _, e => by simp at e
  | _ :: _, _, 0, x, .cons h _ t, e => by
    cases e
    exact ⟨_, by omega, h⟩
  | _ :: _, _, j + 1, x, .cons h _ t, e => by
    obtain ⟨s, h1, h2⟩ := t.at (j := j) e
    exact ⟨s, by omega, h2⟩
/-- the expression at a place of the rows -/
def atR (l : List (List PyData × PyData)) (k : Int) (r : List Int) : Option PyData := if 0 ≤ k ∧ k < (l.length : Int) then (match l[k.toNat]? with
  | some x => atP x.2 r
  | none => none) else none
theorem tells_found {M : Mod} {N : Nat} (h : ModOk M N) {k : Int} {r : List Int} (hl : r.length ≤ 100000) : TellsW f_found [M.D, .tuple [.int k, .tuple (r.map .int)]] ((atR M.rs k r).getD .none) := fun P p => by
  have hN := h.few
  unfold atR at p
  refine ⟨rfl, tells_spot hl _ ?_⟩
  refine ⟨_, rfl, ?_⟩
  have el : (M.rs.map rowD).length = M.rs.length := List.length_map ..
  by_cases h0 : (0 : Int) ≤ k
  · show (match (PyData.bool (decide ((0 : Int) ≤ k))) with | .bool true => _ | .bool false => _ | _ => False)
    rw [decide_eq_true h0]
    refine ⟨_, rfl, ?_⟩
    show (if (!(decide (k < (((M.rs.map rowD).length : Nat) : Int)))) = true then _ else _)
    rw [el]
    by_cases h8 : k < (M.rs.length : Int)
    · rw [decide_eq_true h8, if_neg (by decide)]
      rw [if_pos ⟨h0, h8⟩] at p
      have hx : k.toNat < M.rs.length := by omega
      rw [List.getElem?_eq_getElem hx] at p
      have eat : atI (M.rs.map rowD) k = some (rowD M.rs[k.toNat]) := by
        unfold atI ixN
        rw [el, if_pos h0, if_pos h8]
        show (M.rs.map rowD)[k.toNat]? = _
        rw [List.getElem?_map, List.getElem?_eq_getElem hx]
        rfl
      obtain ⟨s, s1, s2⟩ := h.ex.at (List.getElem?_eq_getElem hx)
      exact ⟨_, rfl, _, rfl, _, eat, _, rfl, _, rfl, rfl, tells_part_at s2 (by omega) _ p⟩
    · rw [decide_eq_false h8, if_pos (by rfl)]
      rw [if_neg (fun z => h8 z.2)] at p
      exact p
  · show (match (PyData.bool (decide ((0 : Int) ≤ k))) with | .bool true => _ | .bool false => _ | _ => False)
    rw [decide_eq_false h0]
    rw [if_neg (fun z => h0 z.1)] at p
    exact p
end WK
namespace WK
open PySem PySem.Spec PyProof.Rows L2 WD
section
variable {P : Program} {w : World} {K : PySem.W.Frag} {mg : Str → Option Value} {base : Heap}
abbrev s_law_is_name : Stmt := topS 75
theorem sc_law_is_name : FnScope ["_law_piece", "_law_sign"] ["_law_piece"] (defScope s_law_is_name) := ⟨rfl, rfl, rfl, by decide +kernel, rfl, by decide +kernel, by decide +kernel⟩
def w_law_is_name : WS := (wSeq (wIfS (wOr (wNot (wB (wIsi isStr (wVar 0)))) (wOr (wB (wOp (f2I fun i j => .bool (decide (i < j))) (wCB fLenS (wCons (wVar 0) wNil)) (wK (.int 1)))) (wB (wOp (f2I fun i j => .bool (decide (j < i))) (wCB fLenS (wCons (wVar 0) wNil)) (wK (.int 8)))))) (wRet (wK (.bool false))) wNext)
  (wRet (wOp fEqD (wTell (wLc [] (wItS (wVar 0)) (wName [] 1) (wB (wOp (fInS true) (wVar 1) (wK (.str "abcdefghijklmnopqrstuvwxyz")))) (wVar 1) [1])) (wLst wNil))))
def f_law_is_name : W1 := wBody 1 w_law_is_name
def sp_law_is_name (K : PySem.W.Frag) : Sp := spD 1 f_law_is_name K
theorem ok_law_is_name {f : Addr} {fd : FuncData} (F : Fun K "_law_is_name" "_law_is_name" s_law_is_name f fd) (m_isinstance : mg "isinstance" = none) (m_len : mg "len" = none) (m_str : mg "str" = none) : FnOk P w K mg base CX0 1 f fd ["_law_piece"] (sp_law_is_name K) := by
  refine F.ok sc_law_is_name (fun vs H Q E h => spD_len h) (fun cdv A outer s H vs Q E hr h => ?_)
  refine ⟨_, (pss_cons (ps_if (PW.pt (pw_or (pt_not (pt_val (pe_callB call_isi (by rfl) m_isinstance (by decide +kernel) (pa_cons (pv 0) (pa_cons (pe_bltn (v := .ty "str") (by rfl) m_str (by decide +kernel) rfl) pa_nil))))) (pw_or (pt_cmpR op_lt (pe_callB call_len_str (by rfl) m_len PySem.boot_len (pa_cons (pv 0) pa_nil)) pe_int (nomark _)) (pw_or1 (pt_cmpR op_gt (pe_callB call_len_str (by rfl) m_len PySem.boot_len (pa_cons (pv 0) pa_nil)) pe_int (nomark _)))))) (pss_one (ps_ret pe_bl)) pss_nil)
        (pss_one (ps_ret (pe_cmpR (op_eqD hr.units) (pe_lc (own := [("_law_sign", 1)]) (g := gName 1) (by rfl) sc_law_is_name.nd (pi_str (pv 0)) (blkOk_by (N := ["_law_piece", "_law_sign"]) (sc := defScope s_law_is_name) (by decide +kernel)) (fun _ _ _ _ _ => (pg_name (i := 1) sc_law_is_name.nd rfl (Or.inl rfl))) (fun _ _ _ _ _ => pts_one (pt_cmpR op_notIn_str (pv 1) pe_str (by rfl))) (fun _ _ _ _ _ => (pv 1))) (pe_lst pa_nil) (nomark _))))), ?_⟩
  refine body_D (m := 1) (W := w_law_is_name) (fun N => ?_) h rfl
  have ok := @ctxP_ok K H N
  exact (fs_seq (fs_if (ft_or (ft_not (ft_b (fe_isi kStr fe_var))) (ft_or (ft_test (fe_op fr_lt (fe_cb fc_lenS (fa_cons fe_var fa_nil)) fe_int)) (ft_test (fe_op fr_gt (fe_cb fc_lenS (fa_cons fe_var fa_nil)) fe_int)))) (fs_ret fe_bl) fs_next)
        (fs_ret (fe_op fr_eqD (fe_o (fo_lc (vs := [1]) ok (fi_str fe_var) fg_name (by decide) (ft_test (fe_op fr_ninS fe_var fe_str)) fe_var)) (fe_lst ok fa_nil))))
abbrev s_law_is_signs : Stmt := topS 77
theorem sc_law_is_signs : FnScope ["_law_piece", "_law_least", "_law_sign"] ["_law_piece", "_law_least"] (defScope s_law_is_signs) := ⟨rfl, rfl, rfl, by decide +kernel, rfl, by decide +kernel, by decide +kernel⟩
def w_law_is_signs : WS := (wSeq (wIfS (wOr (wNot (wB (wIsi isStr (wVar 0)))) (wOr (wB (wOp (f2I fun i j => .bool (decide (i < j))) (wCB fLenS (wCons (wVar 0) wNil)) (wVar 1))) (wB (wOp (f2I fun i j => .bool (decide (j < i))) (wCB fLenS (wCons (wVar 0) wNil)) (wK (.int 60)))))) (wRet (wK (.bool false))) wNext)
  (wRet (wOp fEqD (wTell (wLc [] (wItS (wVar 0)) (wName [] 2) (wB (wOp (fInS true) (wVar 2) (wK (.str "01")))) (wVar 2) [2])) (wLst wNil))))
def f_law_is_signs : W1 := wBody 1 w_law_is_signs
def sp_law_is_signs (K : PySem.W.Frag) : Sp := spD 2 f_law_is_signs K
theorem ok_law_is_signs {f : Addr} {fd : FuncData} (F : Fun K "_law_is_signs" "_law_is_signs" s_law_is_signs f fd) (m_isinstance : mg "isinstance" = none) (m_len : mg "len" = none) (m_str : mg "str" = none) : FnOk P w K mg base CX0 1 f fd ["_law_piece", "_law_least"] (sp_law_is_signs K) := by
  refine F.ok sc_law_is_signs (fun vs H Q E h => spD_len h) (fun cdv A outer s H vs Q E hr h => ?_)
  refine ⟨_, (pss_cons (ps_if (PW.pt (pw_or (pt_not (pt_val (pe_callB call_isi (by rfl) m_isinstance (by decide +kernel) (pa_cons (pv 0) (pa_cons (pe_bltn (v := .ty "str") (by rfl) m_str (by decide +kernel) rfl) pa_nil))))) (pw_or (pt_cmpR op_lt (pe_callB call_len_str (by rfl) m_len PySem.boot_len (pa_cons (pv 0) pa_nil)) (pv 1) (nomark _)) (pw_or1 (pt_cmpR op_gt (pe_callB call_len_str (by rfl) m_len PySem.boot_len (pa_cons (pv 0) pa_nil)) pe_int (nomark _)))))) (pss_one (ps_ret pe_bl)) pss_nil)
        (pss_one (ps_ret (pe_cmpR (op_eqD hr.units) (pe_lc (own := [("_law_sign", 2)]) (g := gName 2) (by rfl) sc_law_is_signs.nd (pi_str (pv 0)) (blkOk_by (N := ["_law_piece", "_law_least", "_law_sign"]) (sc := defScope s_law_is_signs) (by decide +kernel)) (fun _ _ _ _ _ => (pg_name (i := 2) sc_law_is_signs.nd rfl (Or.inl rfl))) (fun _ _ _ _ _ => pts_one (pt_cmpR op_notIn_str (pv 2) pe_str (by rfl))) (fun _ _ _ _ _ => (pv 2))) (pe_lst pa_nil) (nomark _))))), ?_⟩
  refine body_D (m := 1) (W := w_law_is_signs) (fun N => ?_) h rfl
  have ok := @ctxP_ok K H N
  exact (fs_seq (fs_if (ft_or (ft_not (ft_b (fe_isi kStr fe_var))) (ft_or (ft_test (fe_op fr_lt (fe_cb fc_lenS (fa_cons fe_var fa_nil)) fe_var)) (ft_test (fe_op fr_gt (fe_cb fc_lenS (fa_cons fe_var fa_nil)) fe_int)))) (fs_ret fe_bl) fs_next)
        (fs_ret (fe_op fr_eqD (fe_o (fo_lc (vs := [2]) ok (fi_str fe_var) fg_name (by decide) (ft_test (fe_op fr_ninS fe_var fe_str)) fe_var)) (fe_lst ok fa_nil))))
end
end WK
namespace WK
open PySem PySem.Spec PyProof.Rows L2 WD
section
variable {P : Program} {w : World} {K : PySem.W.Frag} {mg : Str → Option Value} {base : Heap}
abbrev s_law_is_atom : Stmt := topS 76
theorem sc_law_is_atom : FnScope ["_law_piece"] ["_law_piece"] (defScope s_law_is_atom) := ⟨rfl, rfl, rfl, by decide +kernel, rfl, by decide +kernel, by decide +kernel⟩
def w_law_is_atom : WS := (wSeq (wIfS (wOr (wNot (wB (wIsi isTup (wVar 0)))) (wOr (wB (wOp fNe (wCB fLen (wCons (wVar 0) wNil)) (wK (.int 2)))) (wB (wOp (fInQ true) (wOp fIxT (wVar 0) (wK (.int 0))) (wLst (wCons (wK (.str "num")) (wCons (wK (.str "truth")) wNil))))))) (wRet (wK (.bool false))) wNext)
  (wSeq (wIfS (wB (wOp fEq (wOp fIxT (wVar 0) (wK (.int 0))) (wK (.str "truth")))) (wRet (wIsi isBool (wOp fIxT (wVar 0) (wK (.int 1))))) wNext)
  (wRet (wAndV (wIsi isInt (wOp fIxT (wVar 0) (wK (.int 1)))) (wAndV (wNotV (wIsi isBool (wOp fIxT (wVar 0) (wK (.int 1))))) (wAndV (wOp (f2I fun i j => .bool (decide (j ≤ i))) (wOp fIxT (wVar 0) (wK (.int 1))) (wK (.int 0))) (wOp (f2I fun i j => .bool (decide (i < j))) (wOp fIxT (wVar 0) (wK (.int 1))) (wOp (f2C WK.CPowB fun i j => i ^ j.toNat) (wK (.int 10)) (wK (.int 12))))))))))
def f_law_is_atom : W1 := wBody 0 w_law_is_atom
def sp_law_is_atom (K : PySem.W.Frag) : Sp := spD 1 f_law_is_atom K
theorem ok_law_is_atom {f : Addr} {fd : FuncData} (F : Fun K "_law_is_atom" "_law_is_atom" s_law_is_atom f fd) (m_bool : mg "bool" = none) (m_int : mg "int" = none) (m_isinstance : mg "isinstance" = none) (m_len : mg "len" = none) (m_tuple : mg "tuple" = none) : FnOk P w K mg base CX0 1 f fd ["_law_piece"] (sp_law_is_atom K) := by
  refine F.ok sc_law_is_atom (fun vs H Q E h => spD_len h) (fun cdv A outer s H vs Q E hr h => ?_)
  refine ⟨_, (pss_cons (ps_if (PW.pt (pw_or (pt_not (pt_val (pe_callB call_isi (by rfl) m_isinstance (by decide +kernel) (pa_cons (pv 0) (pa_cons (pe_bltn (v := .ty "tuple") (by rfl) m_tuple (by decide +kernel) rfl) pa_nil))))) (pw_or (pt_cmpR op_ne (pe_callB call_len_seq (by rfl) m_len PySem.boot_len (pa_cons (pv 0) pa_nil)) pe_int (nomark _)) (pw_or1 (pt_cmpR (show OpR _ (compareOp .NotIn) (rIn K true) from op_notIn_seq) (pe_ix (r := rIxT K) ix_tup (pv 0) pe_int (fun _ _ => rfl)) (pe_lst (pa_cons pe_str (pa_cons pe_str pa_nil))) (by rfl)))))) (pss_one (ps_ret pe_bl)) pss_nil)
        (pss_cons (ps_if (pt_cmpR op_eq (pe_ix (r := rIxT K) ix_tup (pv 0) pe_int (fun _ _ => rfl)) pe_str (nomark _)) (pss_one (ps_ret (pe_callB call_isi (by rfl) m_isinstance (by decide +kernel) (pa_cons (pe_ix (r := rIxT K) ix_tup (pv 0) pe_int (fun _ _ => rfl)) (pa_cons (pe_bltn (v := .ty "bool") (by rfl) m_bool (by decide +kernel) rfl) pa_nil))))) pss_nil)
        (pss_one (ps_ret (pe_and (pe_callB call_isi (by rfl) m_isinstance (by decide +kernel) (pa_cons (pe_ix (r := rIxT K) ix_tup (pv 0) pe_int (fun _ _ => rfl)) (pa_cons (pe_bltn (v := .ty "int") (by rfl) m_int (by decide +kernel) rfl) pa_nil))) (pe_and (pe_not (pe_callB call_isi (by rfl) m_isinstance (by decide +kernel) (pa_cons (pe_ix (r := rIxT K) ix_tup (pv 0) pe_int (fun _ _ => rfl)) (pa_cons (pe_bltn (v := .ty "bool") (by rfl) m_bool (by decide +kernel) rfl) pa_nil)))) (pe_and (pe_cmpR op_ge (pe_ix (r := rIxT K) ix_tup (pv 0) pe_int (fun _ _ => rfl)) pe_int (nomark _)) (pe_one (pe_cmpR op_lt (pe_ix (r := rIxT K) ix_tup (pv 0) pe_int (fun _ _ => rfl)) (pe_op WK.op_powB pe_int pe_int) (nomark _)))))))))), ?_⟩
  refine body_D (m := 0) (W := w_law_is_atom) (fun N => ?_) h rfl
  have ok := @ctxP_ok K H N
  exact (fs_seq (fs_if (ft_or (ft_not (ft_b (fe_isi kTup fe_var))) (ft_or (ft_test (fe_op fr_ne (fe_cb fc_len (fa_cons fe_var fa_nil)) fe_int)) (ft_test (fe_op fr_ninQ (fe_op fr_ixT' fe_var fe_int) (fe_lst ok (fa_cons fe_str (fa_cons fe_str fa_nil))))))) (fs_ret fe_bl) fs_next)
        (fs_seq (fs_if (ft_test (fe_op fr_eq (fe_op fr_ixT' fe_var fe_int) fe_str)) (fs_ret (fe_isi kBool (fe_op fr_ixT' fe_var fe_int))) fs_next)
        (fs_ret (fe_and (fe_isi kInt (fe_op fr_ixT' fe_var fe_int)) (fe_and (fe_not (fe_isi kBool (fe_op fr_ixT' fe_var fe_int))) (fe_and (fe_op fr_ge (fe_op fr_ixT' fe_var fe_int) fe_int) (fe_op fr_lt (fe_op fr_ixT' fe_var fe_int) (fe_op fr_rI fe_int fe_int))))))))
end
end WK
namespace WK
open PySem PySem.Spec PyProof.Rows L2 WD
section
variable {P : Program} {w : World} {K : PySem.W.Frag} {mg : Str → Option Value} {base : Heap}
abbrev s_law_fits : Stmt := topS 78
theorem sc_law_fits : FnScope ["_law_piece", "_law_word"] ["_law_piece"] (defScope s_law_fits) := ⟨rfl, rfl, rfl, by decide +kernel, rfl, by decide +kernel, by decide +kernel⟩
def w_law_fits : WS := (wSeq (wIfS (wOr (wNot (wB (wIsi isTup (wVar 0)))) (wOr (wB (wOp fEq (wCB fLen (wCons (wVar 0) wNil)) (wK (.int 0)))) (wNot (wB (wIsi isStr (wOp fIxT (wVar 0) (wK (.int 0)))))))) (wRet (wK (.bool false))) wNext)
  (wSeq (wAsg (wOp fIxT (wVar 0) (wK (.int 0))) (wName [] 1))
  (wSeq (wIfS (wB (wOp (fInQ false) (wVar 1) (wLst (wCons (wK (.str "num")) (wCons (wK (.str "truth")) wNil))))) (wRet (wCall 1 f_law_is_atom (wCons (wVar 0) wNil))) wNext)
  (wSeq (wIfS (wB (wOp fEq (wVar 1) (wK (.str "flow")))) (wRet (wAndV (wOp fEq (wCB fLen (wCons (wVar 0) wNil)) (wK (.int 2))) (wCall 1 f_law_is_name (wCons (wOp fIxT (wVar 0) (wK (.int 1))) wNil)))) wNext)
  (wSeq (wIfS (wB (wOp (fInQ false) (wVar 1) (wLst (wCons (wK (.str "sum")) (wCons (wK (.str "less")) (wCons (wK (.str "times")) (wCons (wK (.str "below")) (wCons (wK (.str "same")) (wCons (wK (.str "both")) (wCons (wK (.str "either")) wNil)))))))))) (wRet (wOp fEq (wCB fLen (wCons (wVar 0) wNil)) (wK (.int 3)))) wNext)
  (wSeq (wIfS (wB (wOp (fInQ false) (wVar 1) (wLst (wCons (wK (.str "not")) (wCons (wK (.str "pick")) wNil))))) (wRet (wOp fEq (wCB fLen (wCons (wVar 0) wNil)) (wOp fIxL (wLst (wCons (wK (.int 2)) (wCons (wK (.int 4)) wNil))) (wCB fInt1 (wCons (wOp fEq (wVar 1) (wK (.str "pick"))) wNil))))) wNext)
  (wSeq (wIfS (wB (wOp fEq (wVar 1) (wK (.str "then")))) (wRet (wAndV (wOp fEq (wCB fLen (wCons (wVar 0) wNil)) (wK (.int 3))) (wCall 1 f_law_is_atom (wCons (wOp fIxT (wVar 0) (wK (.int 1))) wNil)))) wNext)
  (wSeq (wIfS (wB (wOp fEq (wVar 1) (wK (.str "when")))) (wRet (wAndV (wOp fEq (wCB fLen (wCons (wVar 0) wNil)) (wK (.int 4))) (wAndV (wCall 1 f_law_is_name (wCons (wOp fIxT (wVar 0) (wK (.int 2))) wNil)) (wIsi isBool (wOp fIxT (wVar 0) (wK (.int 3))))))) wNext)
  (wSeq (wIfS (wB (wOp fEq (wVar 1) (wK (.str "merge")))) (wRet (wAndV (wOp fEq (wCB fLen (wCons (wVar 0) wNil)) (wK (.int 4))) (wCall 1 f_law_is_name (wCons (wOp fIxT (wVar 0) (wK (.int 1))) wNil)))) wNext)
  (wSeq (wIfS (wB (wOp fEq (wVar 1) (wK (.str "beats")))) (wRet (wAndV (wOp fEq (wCB fLen (wCons (wVar 0) wNil)) (wK (.int 3))) (wAndV (wCall 2 f_law_is_signs (wCons (wOp fIxT (wVar 0) (wK (.int 1))) (wCons (wK (.int 0)) wNil))) (wCall 2 f_law_is_signs (wCons (wOp fIxT (wVar 0) (wK (.int 2))) (wCons (wK (.int 1)) wNil)))))) wNext)
  (wSeq (wIfS (wOr (wB (wOp fNe (wVar 1) (wK (.str "call")))) (wB (wOp fNe (wCB fLen (wCons (wVar 0) wNil)) (wK (.int 3))))) (wRet (wK (.bool false))) wNext)
  (wRet (wAndV (wCall 1 f_law_is_name (wCons (wOp fIxT (wVar 0) (wK (.int 1))) wNil)) (wAndV (wIsi isList (wOp fIxT (wVar 0) (wK (.int 2)))) (wOp (f2I fun i j => .bool (decide (i ≤ j))) (wCB fLen (wCons (wOp fIxT (wVar 0) (wK (.int 2))) wNil)) (wK (.int 8)))))))))))))))))
def f_law_fits : W1 := wBody 1 w_law_fits
def sp_law_fits (K : PySem.W.Frag) : Sp := spD 1 f_law_fits K
theorem ok_law_fits {f : Addr} {fd : FuncData} (F : Fun K "_law_fits" "_law_fits" s_law_fits f fd) (m_bool : mg "bool" = none) (m_int : mg "int" = none) (m_isinstance : mg "isinstance" = none) (m_len : mg "len" = none) (m_list : mg "list" = none) (m_str : mg "str" = none) (m_tuple : mg "tuple" = none) {f_law_is_atom : Addr} {fd_law_is_atom : FuncData} (c_law_is_atom : Cal P w K mg base CX0 1 f_law_is_atom fd_law_is_atom "_law_is_atom" ["_law_piece"] (sp_law_is_atom K)) {f_law_is_name : Addr} {fd_law_is_name : FuncData} (c_law_is_name : Cal P w K mg base CX0 1 f_law_is_name fd_law_is_name "_law_is_name" ["_law_piece"] (sp_law_is_name K)) {f_law_is_signs : Addr} {fd_law_is_signs : FuncData} (c_law_is_signs : Cal P w K mg base CX0 1 f_law_is_signs fd_law_is_signs "_law_is_signs" ["_law_piece", "_law_least"] (sp_law_is_signs K)) : FnOk P w K mg base CX0 2 f fd ["_law_piece"] (sp_law_fits K) := by
  refine F.ok sc_law_fits (fun vs H Q E h => spD_len h) (fun cdv A outer s H vs Q E hr h => ?_)
  refine ⟨_, (pss_cons (ps_if (PW.pt (pw_or (pt_not (pt_val (pe_callB call_isi (by rfl) m_isinstance (by decide +kernel) (pa_cons (pv 0) (pa_cons (pe_bltn (v := .ty "tuple") (by rfl) m_tuple (by decide +kernel) rfl) pa_nil))))) (pw_or (pt_cmpR op_eq (pe_callB call_len_seq (by rfl) m_len PySem.boot_len (pa_cons (pv 0) pa_nil)) pe_int (nomark _)) (pw_or1 (pt_not (pt_val (pe_callB call_isi (by rfl) m_isinstance (by decide +kernel) (pa_cons (pe_ix (r := rIxT K) ix_tup (pv 0) pe_int (fun _ _ => rfl)) (pa_cons (pe_bltn (v := .ty "str") (by rfl) m_str (by decide +kernel) rfl) pa_nil))))))))) (pss_one (ps_ret pe_bl)) pss_nil)
        (pss_cons (ps_set (i := 1) sc_law_fits.nd rfl (Or.inl rfl) (pe_ix (r := rIxT K) ix_tup (pv 0) pe_int (fun _ _ => rfl)))
        (pss_cons (ps_if (pt_cmpR (show OpR _ (compareOp .In) (rIn K false) from op_in_seq) (pv 1) (pe_lst (pa_cons pe_str (pa_cons pe_str pa_nil))) (by rfl)) (pss_one (ps_ret (pe_call c_law_is_atom.G (hr.mono (by decide)) (by rfl) c_law_is_atom.g c_law_is_atom.kp c_law_is_atom.b .nil pass0 (pa_cons (pv 0) pa_nil)))) pss_nil)
        (pss_cons (ps_if (pt_cmpR op_eq (pv 1) pe_str (nomark _)) (pss_one (ps_ret (pe_and (pe_cmpR op_eq (pe_callB call_len_seq (by rfl) m_len PySem.boot_len (pa_cons (pv 0) pa_nil)) pe_int (nomark _)) (pe_one (pe_call c_law_is_name.G (hr.mono (by decide)) (by rfl) c_law_is_name.g c_law_is_name.kp c_law_is_name.b .nil pass0 (pa_cons (pe_ix (r := rIxT K) ix_tup (pv 0) pe_int (fun _ _ => rfl)) pa_nil)))))) pss_nil)
        (pss_cons (ps_if (pt_cmpR (show OpR _ (compareOp .In) (rIn K false) from op_in_seq) (pv 1) (pe_lst (pa_cons pe_str (pa_cons pe_str (pa_cons pe_str (pa_cons pe_str (pa_cons pe_str (pa_cons pe_str (pa_cons pe_str pa_nil)))))))) (by rfl)) (pss_one (ps_ret (pe_cmpR op_eq (pe_callB call_len_seq (by rfl) m_len PySem.boot_len (pa_cons (pv 0) pa_nil)) pe_int (nomark _)))) pss_nil)
        (pss_cons (ps_if (pt_cmpR (show OpR _ (compareOp .In) (rIn K false) from op_in_seq) (pv 1) (pe_lst (pa_cons pe_str (pa_cons pe_str pa_nil))) (by rfl)) (pss_one (ps_ret (pe_cmpR op_eq (pe_callB call_len_seq (by rfl) m_len PySem.boot_len (pa_cons (pv 0) pa_nil)) (pe_ix (r := rIxL K) ix_list (pe_lst (pa_cons pe_int (pa_cons pe_int pa_nil))) (pe_callTy call_int1 (by rfl) m_int (by decide +kernel) (pa_cons (pe_cmpR op_eq (pv 1) pe_str (nomark _)) pa_nil)) (fun _ _ => rfl)) (nomark _)))) pss_nil)
        (pss_cons (ps_if (pt_cmpR op_eq (pv 1) pe_str (nomark _)) (pss_one (ps_ret (pe_and (pe_cmpR op_eq (pe_callB call_len_seq (by rfl) m_len PySem.boot_len (pa_cons (pv 0) pa_nil)) pe_int (nomark _)) (pe_one (pe_call c_law_is_atom.G (hr.mono (by decide)) (by rfl) c_law_is_atom.g c_law_is_atom.kp c_law_is_atom.b .nil pass0 (pa_cons (pe_ix (r := rIxT K) ix_tup (pv 0) pe_int (fun _ _ => rfl)) pa_nil)))))) pss_nil)
        (pss_cons (ps_if (pt_cmpR op_eq (pv 1) pe_str (nomark _)) (pss_one (ps_ret (pe_and (pe_cmpR op_eq (pe_callB call_len_seq (by rfl) m_len PySem.boot_len (pa_cons (pv 0) pa_nil)) pe_int (nomark _)) (pe_and (pe_call c_law_is_name.G (hr.mono (by decide)) (by rfl) c_law_is_name.g c_law_is_name.kp c_law_is_name.b .nil pass0 (pa_cons (pe_ix (r := rIxT K) ix_tup (pv 0) pe_int (fun _ _ => rfl)) pa_nil)) (pe_one (pe_callB call_isi (by rfl) m_isinstance (by decide +kernel) (pa_cons (pe_ix (r := rIxT K) ix_tup (pv 0) pe_int (fun _ _ => rfl)) (pa_cons (pe_bltn (v := .ty "bool") (by rfl) m_bool (by decide +kernel) rfl) pa_nil)))))))) pss_nil)
        (pss_cons (ps_if (pt_cmpR op_eq (pv 1) pe_str (nomark _)) (pss_one (ps_ret (pe_and (pe_cmpR op_eq (pe_callB call_len_seq (by rfl) m_len PySem.boot_len (pa_cons (pv 0) pa_nil)) pe_int (nomark _)) (pe_one (pe_call c_law_is_name.G (hr.mono (by decide)) (by rfl) c_law_is_name.g c_law_is_name.kp c_law_is_name.b .nil pass0 (pa_cons (pe_ix (r := rIxT K) ix_tup (pv 0) pe_int (fun _ _ => rfl)) pa_nil)))))) pss_nil)
        (pss_cons (ps_if (pt_cmpR op_eq (pv 1) pe_str (nomark _)) (pss_one (ps_ret (pe_and (pe_cmpR op_eq (pe_callB call_len_seq (by rfl) m_len PySem.boot_len (pa_cons (pv 0) pa_nil)) pe_int (nomark _)) (pe_and (pe_call c_law_is_signs.G (hr.mono (by decide)) (by rfl) c_law_is_signs.g c_law_is_signs.kp c_law_is_signs.b .nil pass0 (pa_cons (pe_ix (r := rIxT K) ix_tup (pv 0) pe_int (fun _ _ => rfl)) (pa_cons pe_int pa_nil))) (pe_one (pe_call c_law_is_signs.G (hr.mono (by decide)) (by rfl) c_law_is_signs.g c_law_is_signs.kp c_law_is_signs.b .nil pass0 (pa_cons (pe_ix (r := rIxT K) ix_tup (pv 0) pe_int (fun _ _ => rfl)) (pa_cons pe_int pa_nil)))))))) pss_nil)
        (pss_cons (ps_if (PW.pt (pw_or (pt_cmpR op_ne (pv 1) pe_str (nomark _)) (pw_or1 (pt_cmpR op_ne (pe_callB call_len_seq (by rfl) m_len PySem.boot_len (pa_cons (pv 0) pa_nil)) pe_int (nomark _))))) (pss_one (ps_ret pe_bl)) pss_nil)
        (pss_one (ps_ret (pe_and (pe_call c_law_is_name.G (hr.mono (by decide)) (by rfl) c_law_is_name.g c_law_is_name.kp c_law_is_name.b .nil pass0 (pa_cons (pe_ix (r := rIxT K) ix_tup (pv 0) pe_int (fun _ _ => rfl)) pa_nil)) (pe_and (pe_callB call_isi (by rfl) m_isinstance (by decide +kernel) (pa_cons (pe_ix (r := rIxT K) ix_tup (pv 0) pe_int (fun _ _ => rfl)) (pa_cons (pe_bltn (v := .ty "list") (by rfl) m_list (by decide +kernel) rfl) pa_nil))) (pe_one (pe_cmpR op_le (pe_callB call_len_seq (by rfl) m_len PySem.boot_len (pa_cons (pe_ix (r := rIxT K) ix_tup (pv 0) pe_int (fun _ _ => rfl)) pa_nil)) pe_int (nomark _)))))))))))))))))), ?_⟩
  refine body_D (m := 1) (W := w_law_fits) (fun N => ?_) h rfl
  have ok := @ctxP_ok K H N
  exact (fs_seq (fs_if (ft_or (ft_not (ft_b (fe_isi kTup fe_var))) (ft_or (ft_test (fe_op fr_eq (fe_cb fc_len (fa_cons fe_var fa_nil)) fe_int)) (ft_not (ft_b (fe_isi kStr (fe_op fr_ixT' fe_var fe_int)))))) (fs_ret fe_bl) fs_next)
        (fs_seq (fs_asg (fe_op fr_ixT' fe_var fe_int) fg_name)
        (fs_seq (fs_if (ft_test (fe_op fr_inQ fe_var (fe_lst ok (fa_cons fe_str (fa_cons fe_str fa_nil))))) (fs_ret (fe_callD ok (fa_cons fe_var fa_nil))) fs_next)
        (fs_seq (fs_if (ft_test (fe_op fr_eq fe_var fe_str)) (fs_ret (fe_and (fe_op fr_eq (fe_cb fc_len (fa_cons fe_var fa_nil)) fe_int) (fe_callD ok (fa_cons (fe_op fr_ixT' fe_var fe_int) fa_nil)))) fs_next)
        (fs_seq (fs_if (ft_test (fe_op fr_inQ fe_var (fe_lst ok (fa_cons fe_str (fa_cons fe_str (fa_cons fe_str (fa_cons fe_str (fa_cons fe_str (fa_cons fe_str (fa_cons fe_str fa_nil)))))))))) (fs_ret (fe_op fr_eq (fe_cb fc_len (fa_cons fe_var fa_nil)) fe_int)) fs_next)
        (fs_seq (fs_if (ft_test (fe_op fr_inQ fe_var (fe_lst ok (fa_cons fe_str (fa_cons fe_str fa_nil))))) (fs_ret (fe_op fr_eq (fe_cb fc_len (fa_cons fe_var fa_nil)) (fe_op fr_ixL' (fe_lst ok (fa_cons fe_int (fa_cons fe_int fa_nil))) (fe_cb fc_int1 (fa_cons (fe_op fr_eq fe_var fe_str) fa_nil))))) fs_next)
        (fs_seq (fs_if (ft_test (fe_op fr_eq fe_var fe_str)) (fs_ret (fe_and (fe_op fr_eq (fe_cb fc_len (fa_cons fe_var fa_nil)) fe_int) (fe_callD ok (fa_cons (fe_op fr_ixT' fe_var fe_int) fa_nil)))) fs_next)
        (fs_seq (fs_if (ft_test (fe_op fr_eq fe_var fe_str)) (fs_ret (fe_and (fe_op fr_eq (fe_cb fc_len (fa_cons fe_var fa_nil)) fe_int) (fe_and (fe_callD ok (fa_cons (fe_op fr_ixT' fe_var fe_int) fa_nil)) (fe_isi kBool (fe_op fr_ixT' fe_var fe_int))))) fs_next)
        (fs_seq (fs_if (ft_test (fe_op fr_eq fe_var fe_str)) (fs_ret (fe_and (fe_op fr_eq (fe_cb fc_len (fa_cons fe_var fa_nil)) fe_int) (fe_callD ok (fa_cons (fe_op fr_ixT' fe_var fe_int) fa_nil)))) fs_next)
        (fs_seq (fs_if (ft_test (fe_op fr_eq fe_var fe_str)) (fs_ret (fe_and (fe_op fr_eq (fe_cb fc_len (fa_cons fe_var fa_nil)) fe_int) (fe_and (fe_callD ok (fa_cons (fe_op fr_ixT' fe_var fe_int) (fa_cons fe_int fa_nil))) (fe_callD ok (fa_cons (fe_op fr_ixT' fe_var fe_int) (fa_cons fe_int fa_nil)))))) fs_next)
        (fs_seq (fs_if (ft_or (ft_test (fe_op fr_ne fe_var fe_str)) (ft_test (fe_op fr_ne (fe_cb fc_len (fa_cons fe_var fa_nil)) fe_int))) (fs_ret fe_bl) fs_next)
        (fs_ret (fe_and (fe_callD ok (fa_cons (fe_op fr_ixT' fe_var fe_int) fa_nil)) (fe_and (fe_isi kList (fe_op fr_ixT' fe_var fe_int)) (fe_op fr_le (fe_cb fc_len (fa_cons (fe_op fr_ixT' fe_var fe_int) fa_nil)) fe_int)))))))))))))))
end
end WK
namespace WK
open PySem PySem.Spec PyProof.Rows L2 WD
/-- a sign of y stands in y -/
theorem sign_in {y : Str} (hy : (y.cps.toList.all fun c => !(Builtin.Str.occurrences y ⟨#[c]⟩ 0 y.length 1).isEmpty) = true) {c : Nat} (h : y.cps.contains c = true) : (!(Builtin.Str.occurrences y ⟨#[c]⟩ 0 y.length 1).isEmpty) = true := by
  refine List.all_eq_true.mp hy c ?_
  rw [Array.mem_toList_iff]
  exact Array.contains_iff_mem.mp h
theorem small_ok : (("abcdefghijklmnopqrstuvwxyz" : Str).cps.toList.all fun c => !(Builtin.Str.occurrences ("abcdefghijklmnopqrstuvwxyz" : Str) ⟨#[c]⟩ 0 ("abcdefghijklmnopqrstuvwxyz" : Str).length 1).isEmpty) = true := by decide +kernel
theorem ones_ok : (("01" : Str).cps.toList.all fun c => !(Builtin.Str.occurrences ("01" : Str) ⟨#[c]⟩ 0 ("01" : Str).length 1).isEmpty) = true := by decide +kernel
theorem comp_signs {a : En} {y : Str} {P : List PyData → WD.Env → Prop} (hy : (y.cps.toList.all fun c => !(Builtin.Str.occurrences y ⟨#[c]⟩ 0 y.length 1).isEmpty) = true) : ∀ (cs : List Nat), (∀ c ∈ cs, y.cps.contains c = true) → P [] ⟨[a, .un], 0⟩ →
    wComp (wName [] 1) (wB (wOp (fInS true) (wVar 1) (wK (.str y)))) (wVar 1) [1] (cs.map fun c => .str ⟨#[c]⟩) [a, .un] 0 [] P
  | [], _, p => p
  | c :: cs, h, p => by
    have ih := comp_signs (a := a) (P := P) hy cs (fun d m => h d (.tail _ m)) p
    refine ⟨rfl, by show 1 < 2; decide, ?_⟩
    show (if (xor true (!(Builtin.Str.occurrences y ⟨#[c]⟩ 0 y.length 1).isEmpty)) = true then _ else _)
    rw [sign_in hy (h c (.head _)), if_neg (by decide)]
    exact ⟨rfl, ih⟩
theorem tells_law_name {x : Str} (h : NameS x) : TellsW f_law_is_name [.str x] (.bool true) := fun P p => by
  obtain ⟨h1, h2, h3⟩ := h
  refine ⟨by omega, ?_⟩
  show (if decide (((x.length : Nat) : Int) < 1) = true then _ else _)
  rw [if_neg (by simp; omega)]
  refine ⟨by omega, ?_⟩
  show (if decide ((8 : Int) < ((x.length : Nat) : Int)) = true then _ else _)
  rw [if_neg (by simp; omega)]
  refine ⟨⟨rfl, rfl⟩, comp_signs small_ok x.cps.toList h3 ?_⟩
  exact ⟨by decide, rfl, rfl, by decide, by decide, p⟩
end WK
namespace WK
open PySem PySem.Spec PyProof.Rows L2 WD
theorem comp_signs2 {a b : En} {y : Str} {P : List PyData → WD.Env → Prop} (hy : (y.cps.toList.all fun c => !(Builtin.Str.occurrences y ⟨#[c]⟩ 0 y.length 1).isEmpty) = true) : ∀ (cs : List Nat), (∀ c ∈ cs, y.cps.contains c = true) → P [] ⟨[a, b, .un], 0⟩ →
    wComp (wName [] 2) (wB (wOp (fInS true) (wVar 2) (wK (.str y)))) (wVar 2) [2] (cs.map fun c => .str ⟨#[c]⟩) [a, b, .un] 0 [] P
  | [], _, p => p
  | c :: cs, h, p => by
    have ih := comp_signs2 (a := a) (b := b) (P := P) hy cs (fun d m => h d (.tail _ m)) p
    refine ⟨rfl, by show 2 < 3; decide, ?_⟩
    show (if (xor true (!(Builtin.Str.occurrences y ⟨#[c]⟩ 0 y.length 1).isEmpty)) = true then _ else _)
    rw [sign_in hy (h c (.head _)), if_neg (by decide)]
    exact ⟨rfl, ih⟩
theorem tells_law_signs {x : Str} {k : Int} (h : SignsS x) (hk : k ≤ (x.length : Int)) : TellsW f_law_is_signs [.str x, .int k] (.bool true) := fun P p => by
  obtain ⟨h2, h3⟩ := h
  refine ⟨by omega, ?_⟩
  show (if decide (((x.length : Nat) : Int) < k) = true then _ else _)
  rw [if_neg (by simp; omega)]
  refine ⟨by omega, ?_⟩
  show (if decide ((60 : Int) < ((x.length : Nat) : Int)) = true then _ else _)
  rw [if_neg (by simp; omega)]
  refine ⟨⟨rfl, rfl⟩, comp_signs2 ones_ok x.cps.toList h3 ?_⟩
  exact ⟨by decide, rfl, rfl, by decide, by decide, p⟩
theorem tells_law_atom {e : PyData} (h : Atom e) : TellsW f_law_is_atom [e] (.bool true) := fun P p => by
  cases h with
  | num h1 h2 =>
    rename_i i
    refine ⟨true, rfl, _, rfl, by decide, rfl, rfl, ?_⟩
    refine ⟨_, rfl, false, rfl, ?_⟩
    refine ⟨_, rfl, _, rfl, _, rfl, ?_⟩
    show (match (PyData.bool (decide ((0 : Int) ≤ i))) with | .bool true => _ | .bool false => _ | _ => False)
    rw [decide_eq_true h1]
    refine ⟨_, rfl, ⟨by decide, by decide +kernel⟩, ?_⟩
    show P (.bool (decide (i < 10 ^ (12 : Int).toNat)))
    rw [decide_eq_true (show i < 10 ^ (12 : Int).toNat from h2)]
    exact p
  | truth b => exact ⟨true, rfl, _, rfl, by decide, rfl, rfl, _, rfl, true, rfl, _, rfl, p⟩
end WK
namespace WK
open PySem PySem.Spec PyProof.Rows L2 WD
theorem tells_fits {ks : List Str} {m : Bool} {d s : Nat} {e : PyData} (h : Exq ks m d e s) : TellsW f_law_fits [e] (.bool true) := fun P p => by
  cases h with
  | atom h =>
    have t := tells_law_atom h
    cases h with
    | num h1 h2 => exact ⟨false, rfl, _, rfl, _, rfl, rfl, by show 1 < 2; decide, by decide, rfl, rfl, rfl, t _ p⟩
    | truth b => exact ⟨false, rfl, _, rfl, _, rfl, rfl, by show 1 < 2; decide, by decide, rfl, rfl, rfl, t _ p⟩
  | flow hk hn => exact ⟨false, rfl, _, rfl, _, rfl, rfl, by show 1 < 2; decide, by decide, rfl, rfl, true, rfl, true, rfl, _, rfl, rfl, tells_law_name hn _ p⟩
  | @two _ _ s t x a b hx ha hb =>
    unfold twoW at hx
    simp only [List.mem_cons, List.not_mem_nil, or_false] at hx
    rcases hx with rfl | rfl | rfl | rfl | rfl | rfl | rfl <;> exact ⟨false, rfl, _, rfl, _, rfl, rfl, by show 1 < 2; decide, by decide, rfl, rfl, false, rfl, by decide, rfl, rfl, true, rfl, p⟩
  | @not _ _ s a ha => exact ⟨false, rfl, _, rfl, _, rfl, rfl, by show 1 < 2; decide, by decide, rfl, rfl, false, rfl, by decide, rfl, rfl, by decide, rfl, rfl, by decide, false, rfl, _, rfl, true, rfl, p⟩
  | @pick _ _ s t u a b c ha hb hc => exact ⟨false, rfl, _, rfl, _, rfl, rfl, by show 1 < 2; decide, by decide, rfl, rfl, false, rfl, by decide, rfl, rfl, by decide, rfl, rfl, by decide, true, rfl, _, rfl, true, rfl, p⟩
  | @thn _ _ s k a hk ha => exact ⟨false, rfl, _, rfl, _, rfl, rfl, by show 1 < 2; decide, by decide, rfl, rfl, false, rfl, by decide, rfl, rfl, by decide, rfl, rfl, true, rfl, true, rfl, _, rfl, rfl, tells_law_atom hk _ p⟩
  | @whn _ _ s a f b ha hk hn => exact ⟨false, rfl, _, rfl, _, rfl, rfl, by show 1 < 2; decide, by decide, rfl, rfl, false, rfl, by decide, rfl, rfl, by decide, rfl, rfl, false, rfl, true, rfl, true, rfl, _, rfl, rfl, tells_law_name hn _ ⟨_, rfl, p⟩⟩
  | @merge _ _ s t f a b hk hn ha hb => exact ⟨false, rfl, _, rfl, _, rfl, rfl, by show 1 < 2; decide, by decide, rfl, rfl, false, rfl, by decide, rfl, rfl, by decide, rfl, rfl, false, rfl, false, rfl, true, rfl, true, rfl, _, rfl, rfl, tells_law_name hn _ p⟩
  | beats h1 h2 h3 =>
    refine ⟨false, rfl, _, rfl, _, rfl, rfl, by show 1 < 2; decide, by decide, rfl, rfl, false, rfl, by decide, rfl, rfl, by decide, rfl, rfl, false, rfl, false, rfl, false, rfl, true, rfl, true, rfl, _, rfl, rfl, tells_law_signs h1 (by omega) _ ?_⟩
    exact ⟨_, rfl, rfl, tells_law_signs h2 (by omega) _ p⟩
  | @call _ n f ps hn hl h =>
    refine ⟨false, rfl, _, rfl, _, rfl, rfl, by show 1 < 2; decide, by decide, rfl, rfl, false, rfl, by decide, rfl, rfl, by decide, rfl, rfl, false, rfl, false, rfl, false, rfl, false, rfl, true, rfl, true, rfl, _, rfl, rfl, tells_law_name hn _ ⟨_, rfl, _, rfl, ?_⟩⟩
    show P (.bool (decide (((ps.length : Nat) : Int) ≤ 8)))
    rw [decide_eq_true (by omega)]
    exact p
end WK
namespace WK
open PySem PySem.Spec PyProof.Rows L2 WD
theorem tells_under {ks : List Str} {m : Bool} {d s : Nat} {e : PyData} (h : Exq ks m (d + 1) e s) : ∃ ps M, partsD e = some ps ∧ LevQ ks false d ps M ∧ s = M + 1 ∧ TellsW f_law_under [e] (.list ps) := by
  cases h with
  | atom h => cases h <;> exact ⟨[], 0, rfl, .nil, rfl, fun P p => ⟨_, rfl, by decide, rfl, rfl, by decide, p⟩⟩
  | flow hk hn => exact ⟨[], 0, rfl, .nil, rfl, fun P p => ⟨_, rfl, by decide, rfl, rfl, by decide, p⟩⟩
  | beats h1 h2 h3 => exact ⟨[], 0, rfl, .nil, rfl, fun P p => ⟨_, rfl, by decide, rfl, rfl, by decide, p⟩⟩
  | @two _ _ s t x a b hx ha hb =>
    refine ⟨[a, b], s + (t + 0), ?_, .cons ha (.cons hb .nil), rfl, fun P p => ?_⟩
    · unfold twoW at hx
      simp only [List.mem_cons, List.not_mem_nil, or_false] at hx
      rcases hx with rfl | rfl | rfl | rfl | rfl | rfl | rfl <;> rfl
    · unfold twoW at hx
      simp only [List.mem_cons, List.not_mem_nil, or_false] at hx
      rcases hx with rfl | rfl | rfl | rfl | rfl | rfl | rfl <;> exact ⟨_, rfl, by decide, rfl, rfl, _, rfl, false, rfl, _, rfl, false, rfl, _, rfl, by decide, rfl, rfl, p⟩
  | @not _ _ s a ha => exact ⟨[a], s + 0, rfl, .cons ha .nil, rfl, fun P p => ⟨_, rfl, by decide, rfl, rfl, _, rfl, false, rfl, _, rfl, false, rfl, _, rfl, by decide, rfl, rfl, p⟩⟩
  | @pick _ _ s t u a b c ha hb hc => exact ⟨[a, b, c], s + (t + (u + 0)), rfl, .cons ha (.cons hb (.cons hc .nil)), by omega, fun P p => ⟨_, rfl, by decide, rfl, rfl, _, rfl, false, rfl, _, rfl, false, rfl, _, rfl, by decide, rfl, rfl, p⟩⟩
  | @thn _ _ s k a hk ha => exact ⟨[a], s + 0, rfl, .cons ha .nil, rfl, fun P p => ⟨_, rfl, by decide, rfl, rfl, _, rfl, false, rfl, _, rfl, false, rfl, _, rfl, by decide, rfl, rfl, p⟩⟩
  | @whn _ _ s a f b ha hk hn => exact ⟨[a], s + 0, rfl, .cons ha .nil, rfl, fun P p => ⟨_, rfl, by decide, rfl, rfl, _, rfl, false, rfl, _, rfl, true, rfl, _, rfl, by show 1 ≤ 16777216; decide, p⟩⟩
  | @merge _ _ s t f a b hk hn ha hb => exact ⟨[a, b], s + (t + 0), rfl, .cons ha (.cons hb .nil), rfl, fun P p => ⟨_, rfl, by decide, rfl, rfl, _, rfl, false, rfl, _, rfl, false, rfl, _, rfl, by decide, rfl, rfl, p⟩⟩
  | @call _ n f ps hn hl h => exact ⟨ps, n, rfl, h, rfl, fun P p => ⟨_, rfl, by decide, rfl, rfl, _, rfl, true, rfl, _, rfl, p⟩⟩
end WK
namespace WK
open PySem PySem.Spec PyProof.Rows L2 WD
section
variable {P : Program} {w : World} {K : PySem.W.Frag} {mg : Str → Option Value} {base : Heap}
abbrev s_law_all : Stmt := topS 80
theorem sc_law_all : FnScope ["_law_body", "_law_found", "_law_k", "_law_left", "_law_path", "_law_piece", "_law_j", "_law_part"] ["_law_body"] (defScope s_law_all) := ⟨rfl, rfl, rfl, by decide +kernel, rfl, by decide +kernel, by decide +kernel⟩
def w_law_all : WS := (wSeq (wOwn [] 1 (wLstO wNil))
  (wSeq (wOwn [] 3 (wRevO (wTell (wLc [] (wItR1 (wCons (wCB fLen (wCons (wVar 0) wNil)) wNil)) (wName [] 2) wYes (wTup (wCons (wVar 2) (wCons (wTup wNil) (wCons (wOp fIxT (wOp fIxL (wVar 0) (wVar 2)) (wK (.int 1))) wNil)))) [2]))))
  (wSeq (wWhile (wB (wNeNil 3)) (wSeq (wAsg (wPop 3) (wgTup 3 (wgCons (wName [] 2) (wgCons (wName [] 4) (wgCons (wName [] 5) wgNil)))))
  (wSeq (wDrop (wAppend 1 (wTup (wCons (wVar 2) (wCons (wVar 4) (wCons (wVar 5) wNil))))))
  (wIfS (wB (wCall 1 f_law_fits (wCons (wVar 5) wNil))) (wOwn [] 3 (wCatO (wVar 3) (wTell (wRevO (wTell (wLc [] (wItE (wCons (wCall 1 f_law_under (wCons (wVar 5) wNil)) wNil)) (wgTup 2 (wgCons (wName [] 6) (wgCons (wName [] 7) wgNil))) wYes (wTup (wCons (wVar 2) (wCons (wOp fCatA (wVar 4) (wTup (wCons (wVar 6) wNil))) (wCons (wVar 7) wNil)))) [6, 7])))))) wNext))))
  (wRet (wVar 1)))))
def f_law_all : W1 := wBody 7 w_law_all
def sp_law_all (K : PySem.W.Frag) : Sp := spD 1 f_law_all K
theorem ok_law_all {f : Addr} {fd : FuncData} (F : Fun K "_law_all" "_law_all" s_law_all f fd) (m_enumerate : mg "enumerate" = none) (m_len : mg "len" = none) (m_range : mg "range" = none) {f_law_fits : Addr} {fd_law_fits : FuncData} (c_law_fits : Cal P w K mg base CX0 2 f_law_fits fd_law_fits "_law_fits" ["_law_piece"] (sp_law_fits K)) {f_law_under : Addr} {fd_law_under : FuncData} (c_law_under : Cal P w K mg base CX0 1 f_law_under fd_law_under "_law_under" ["_law_piece"] (sp_law_under K)) : FnOk P w K mg base CX0 3 f fd ["_law_body"] (sp_law_all K) := by
  refine F.ok sc_law_all (fun vs H Q E h => spD_len h) (fun cdv A outer s H vs Q E hr h => ?_)
  refine ⟨_, (pss_cons (ps_set (i := 1) sc_law_all.nd rfl (Or.inl rfl) (pe_lst pa_nil))
        (pss_cons (ps_set (i := 3) sc_law_all.nd rfl (Or.inl rfl) (pe_revL (pe_lc (own := [("_law_k", 2)]) (g := gName 2) (by rfl) sc_law_all.nd (pi_range1 (by rfl) m_range (pa_cons (pe_callB call_len_seq (by rfl) m_len PySem.boot_len (pa_cons (pv 0) pa_nil)) pa_nil)) (blkOk_by (N := ["_law_body", "_law_found", "_law_k", "_law_left", "_law_path", "_law_piece", "_law_j", "_law_part"]) (sc := defScope s_law_all) (by decide +kernel)) (fun _ _ _ _ _ => (pg_name (i := 2) sc_law_all.nd rfl (Or.inl rfl))) (fun _ _ _ _ _ => pts_nil) (fun _ _ _ _ _ => (pe_tup (pa_cons (pv 2) (pa_cons (pe_tup pa_nil) (pa_cons (pe_ix (r := rIxT K) ix_tup (pe_ix (r := rIxL K) ix_list (pv 0) (pv 2) (fun _ _ => rfl)) pe_int (fun _ _ => rfl)) pa_nil))))))))
        (pss_cons (ps_while PassesOwn.never (pt_cmpR (op_neD hr.units) (pv 3) (pe_lst pa_nil) (nomark _)) (pss_cons (ps_asg (pe_bm0 PySem.F.plainAttrs_list PySem.F.slot_list_pop PySem.F.type_list_pop mt_pop (pv 3)) (pg_tup (by rfl) (pgs_cons (pg_name (i := 2) sc_law_all.nd rfl (Or.inr rfl)) (pgs_cons (pg_name (i := 4) sc_law_all.nd rfl (Or.inr rfl)) (pgs_cons (pg_name (i := 5) sc_law_all.nd rfl (Or.inl rfl)) pgs_nil)))))
        (pss_cons (ps_expr (pe_bm PySem.F.plainAttrs_list PySem.F.slot_list_append PySem.F.type_list_append mt_append (pv 1) (pa_cons (pe_tup (pa_cons (pv 2) (pa_cons (pv 4) (pa_cons (pv 5) pa_nil)))) pa_nil)))
        (pss_one (ps_if (pt_val (pe_call c_law_fits.G (hr.mono (by decide)) (by rfl) c_law_fits.g c_law_fits.kp c_law_fits.b .nil pass0 (pa_cons (pv 5) pa_nil))) (pss_one (ps_set (i := 3) sc_law_all.nd rfl (Or.inl rfl) (pe_op op_cat (pv 3) (pe_revL (pe_lc (own := [("_law_j", 6), ("_law_part", 7)]) (g := gTup K 2 (gCons (gName 6) (gCons (gName 7) gNil))) (by rfl) sc_law_all.nd (pi_enum (by rfl) m_enumerate (pa_cons (pe_call c_law_under.G (hr.mono (by decide)) (by rfl) c_law_under.g c_law_under.kp c_law_under.b .nil pass0 (pa_cons (pv 5) pa_nil)) pa_nil)) (blkOk_by (N := ["_law_body", "_law_found", "_law_k", "_law_left", "_law_path", "_law_piece", "_law_j", "_law_part"]) (sc := defScope s_law_all) (by decide +kernel)) (fun _ _ _ _ _ => (pg_tup (by rfl) (pgs_cons (pg_name (i := 6) sc_law_all.nd rfl (Or.inl rfl)) (pgs_cons (pg_name (i := 7) sc_law_all.nd rfl (Or.inl rfl)) pgs_nil)))) (fun _ _ _ _ _ => pts_nil) (fun _ _ _ _ _ => (pe_tup (pa_cons (pv 2) (pa_cons (pe_op (show OpR _ (binaryOp .Add) (rCatA K) from op_catA) (pv 4) (pe_tup (pa_cons (pv 6) pa_nil))) (pa_cons (pv 7) pa_nil)))))))))) pss_nil)))))
        (pss_one (ps_ret (pv 1)))))), ?_⟩
  refine body_D (m := 7) (W := w_law_all) (fun N => ?_) h rfl
  have ok := @ctxP_ok K H N
  exact (fs_seq (fs_own' (fo_lst' ok fa_nil))
        (fs_seq (fs_own' (fo_rev ok (fe_o (fo_lc (vs := [2]) ok (fi_range1 (fa_cons (fe_cb fc_len (fa_cons fe_var fa_nil)) fa_nil)) fg_name (by decide) ft_yes (fe_tup ok (fa_cons fe_var (fa_cons (fe_tup ok fa_nil) (fa_cons (fe_op fr_ixT' (fe_op fr_ixL' fe_var fe_var) fe_int) fa_nil))))))))
        (fs_seq (fs_while (ft_test (fe_neNil ok)) (fs_seq (fs_asg (fe_pop ok) (fg_tup (fg_cons fg_name (fg_cons fg_name (fg_cons fg_name fg_nil)))))
        (fs_seq (fs_drop (fe_append ok (fe_tup ok (fa_cons fe_var (fa_cons fe_var (fa_cons fe_var fa_nil))))))
        (fs_if (ft_b (fe_callD ok (fa_cons fe_var fa_nil))) (fs_own' (fo_cat ok fe_var (fe_o (fo_rev ok (fe_o (fo_lc (vs := [6, 7]) ok (fi_enum ok (fa_cons (fe_callD ok (fa_cons fe_var fa_nil)) fa_nil)) (fg_tup (fg_cons fg_name (fg_cons fg_name fg_nil))) (by decide) ft_yes (fe_tup ok (fa_cons fe_var (fa_cons (fe_op (fr_catA ok) fe_var (fe_tup ok (fa_cons fe_var fa_nil))) (fa_cons fe_var fa_nil)))))))))) fs_next))))
        (fs_ret fe_var))))
end
end WK
namespace WK
open PySem PySem.Spec PyProof.Rows L2 WD
theorem walkL_mono {g g2 : List PyData → Option (List PyData)} (hg : ∀ ds L, g ds = some L → g2 ds = some L) {k : PyData} {p : List PyData} : ∀ (ps : List PyData) (i : Nat) (L : List PyData), walkL g k p ps i = some L → walkL g2 k p ps i = some L
  | [], _, _, h => h
  | d :: ps, i, L, h => by
    obtain ⟨a, b, h1, h2, rfl⟩ := walkL_cons h
    unfold walkL
    rw [hg _ _ h1, walkL_mono hg ps (i + 1) b h2]
theorem walkB_mono : ∀ (n : Nat) (ds L : List PyData), walkB n ds = some L → walkB (n + 1) ds = some L
  | 0, ds, L, h => by cases h
  | n + 1, ds, L, h => by
    unfold walkB at h
    split at h
    · cases h
    · rename_i m k p e e1
      cases e1
      split at h
      · rename_i ps hps
        split at h
        · rename_i hp
          obtain ⟨M, hM, rfl⟩ := Option.map_eq_some_iff.mp h
          have := walkL_mono (walkB_mono n) ps 0 M hM
          unfold walkB
          show (match partsD e with | some ps => if p.length < 16777216 then (walkL (walkB (n + 1)) k p ps 0).map (PyData.tuple [k, .tuple p, e] :: ·) else none | none => none) = _
          rw [hps]
          show (if p.length < 16777216 then (walkL (walkB (n + 1)) k p ps 0).map (PyData.tuple [k, .tuple p, e] :: ·) else none) = _
          rw [if_pos hp, this]
          rfl
        · cases h
      · cases h
    · cases h
/-- what is left to walk, the next first -/
abbrev Tri := PyData × List PyData × PyData
abbrev triD (t : Tri) : PyData := .tuple [t.1, .tuple t.2.1, t.2.2]
def walkT : List Tri → Option (List PyData)
  | [] => some []
  | t :: r => match walkB 12 [t.1, .tuple t.2.1, t.2.2], walkT r with
    | some a, some b => some (a ++ b)
    | _, _ => none
def trips (k : PyData) (p : List PyData) : List PyData → Nat → List Tri
  | [], _ => []
  | d :: ds, i => (k, p ++ [.int (i : Nat)], d) :: trips k p ds (i + 1)
theorem walkT_app {k : PyData} {p : List PyData} {r : List Tri} {R : List PyData} (hr : walkT r = some R) : ∀ (ps : List PyData) (i : Nat) (B : List PyData), walkL (walkB 12) k p ps i = some B → walkT (trips k p ps i ++ r) = some (B ++ R)
  | [], _, B, h => by cases h; exact hr
  | d :: ps, i, B, h => by
    obtain ⟨a, b, h1, h2, rfl⟩ := walkL_cons h
    have ih := walkT_app hr ps (i + 1) b h2
    show walkT ((k, p ++ [.int (i : Nat)], d) :: (trips k p ps (i + 1) ++ r)) = _
    unfold walkT
    show (match walkB 12 [k, .tuple (p ++ [.int (i : Nat)]), d], walkT (trips k p ps (i + 1) ++ r) with | some a, some b => some (a ++ b) | _, _ => none) = _
    rw [h1, ih]
    show some _ = some _
    rw [List.append_assoc]
/-- a step of the law's walk -/
theorem walkT_step {k e : PyData} {p ps : List PyData} {r : List Tri} {L : List PyData} (h : walkT ((k, p, e) :: r) = some L) (hp : partsD e = some ps) : ∃ L2, L = triD (k, p, e) :: L2 ∧ walkT (trips k p ps 0 ++ r) = some L2 := by
  unfold walkT at h
  split at h
  · rename_i A R h1 h2
    cases h
    unfold walkB at h1
    have h1 : (match partsD e with | some ps => if p.length < 16777216 then (walkL (walkB 11) k p ps 0).map (PyData.tuple [k, .tuple p, e] :: ·) else none | none => none) = some A := h1
    rw [hp] at h1
    have h1 : (if p.length < 16777216 then (walkL (walkB 11) k p ps 0).map (PyData.tuple [k, .tuple p, e] :: ·) else none) = some A := h1
    split at h1
    · obtain ⟨B, hB, rfl⟩ := Option.map_eq_some_iff.mp h1
      exact ⟨B ++ R, rfl, walkT_app h2 ps 0 B (walkL_mono (walkB_mono 11) ps 0 B hB)⟩
    · cases h1
  · cases h
end WK
namespace WK
open PySem PySem.Spec PyProof.Rows L2 WD
abbrev enL (body : PyData) (found : List PyData) (k l p e : En) : WD.Env := ⟨[.dat body, .own found, k, l, p, e, .un, .un], 0⟩
theorem comp_trips {body k e : PyData} {p found : List PyData} {l : En} {P : List PyData → WD.Env → Prop} (hp : p.length < 16777216) : ∀ (ps : List PyData) (i : Nat) (acc : List PyData), acc.length + ps.length ≤ 100000 → P (acc ++ (trips k p ps i).map triD) (enL body found (.dat k) l (.dat (.tuple p)) (.dat e)) →
    wComp (wgTup 2 (wgCons (wName [] 6) (wgCons (wName [] 7) wgNil))) wYes (wTup (wCons (wVar 2) (wCons (wOp fCatA (wVar 4) (wTup (wCons (wVar 6) wNil))) (wCons (wVar 7) wNil)))) [6, 7] (numF i ps) (enL body found (.dat k) l (.dat (.tuple p)) (.dat e)).sl 0 acc P
  | [], i, acc, _, q => by
    have q : P (acc ++ []) (enL body found (.dat k) l (.dat (.tuple p)) (.dat e)) := q
    rw [List.append_nil] at q
    exact q
  | d :: ps, i, acc, b, q => by
    rw [List.length_cons] at b
    have ih := comp_trips (body := body) (k := k) (e := e) (found := found) (l := l) (P := P) hp ps (i + 1) (acc ++ [triD (k, p ++ [.int (i : Nat)], d)]) (by rw [List.length_append]; simp only [List.length_cons, List.length_nil]; omega) (by rw [List.append_assoc]; exact q)
    refine ⟨rfl, rfl, by show 6 < 8; decide, rfl, by show 7 < 8; decide, rfl, ?_⟩
    exact ⟨by show 1 ≤ 16777216; decide, by show p.length + 1 ≤ 16777216; omega, by show 3 ≤ 16777216; decide, rfl, by omega, ih⟩
end WK
namespace WK
open PySem PySem.Spec PyProof.Rows L2 WD
theorem ok_of {x y : Str} (hy : (y.cps.toList.all fun c => decide (c < 55296)) = true) (h : ∀ c ∈ x.cps.toList, y.cps.contains c = true) : ∀ c ∈ x.cps.toList, c < 55296 := fun c hc => by
  have := List.all_eq_true.mp hy c (Array.mem_toList_iff.mpr (Array.contains_iff_mem.mp (h c hc)))
  exact of_decide_eq_true this
theorem strOk_of {x : Str} (h : ∀ c ∈ x.cps.toList, c < 55296) : PyData.strOk x = true := by
  unfold PyData.strOk
  rw [Array.all_eq_true_iff_forall_mem]
  intro c hc
  have := h c (Array.mem_toList_iff.mpr hc)
  simp
  omega
theorem strOk_name {x : Str} (h : NameS x) : PyData.strOk x = true := strOk_of (ok_of (by decide +kernel) h.2.2)
theorem strOk_signs {x : Str} (h : SignsS x) : PyData.strOk x = true := strOk_of (ok_of (by decide +kernel) h.2)
theorem strOk_two {x : Str} (h : x ∈ twoW) : PyData.strOk x = true := by
  unfold twoW at h
  simp only [List.mem_cons, List.not_mem_nil, or_false] at h
  rcases h with rfl | rfl | rfl | rfl | rfl | rfl | rfl <;> decide +kernel
theorem sk_num : PyData.strOk ("num" : Str) = true := by decide +kernel
theorem sk_truth : PyData.strOk ("truth" : Str) = true := by decide +kernel
theorem sk_flow : PyData.strOk ("flow" : Str) = true := by decide +kernel
theorem sk_beats : PyData.strOk ("beats" : Str) = true := by decide +kernel
theorem sk_not : PyData.strOk ("not" : Str) = true := by decide +kernel
theorem sk_pick : PyData.strOk ("pick" : Str) = true := by decide +kernel
theorem sk_then : PyData.strOk ("then" : Str) = true := by decide +kernel
theorem sk_when : PyData.strOk ("when" : Str) = true := by decide +kernel
theorem sk_merge : PyData.strOk ("merge" : Str) = true := by decide +kernel
theorem sk_call : PyData.strOk ("call" : Str) = true := by decide +kernel
/-- a good expression may be compared: no dict in it, not too deep -/
theorem exq_fine {ks : List Str} : ∀ (d : Nat) (e : PyData) (m : Bool) (s : Nat), Exq ks m d e s → noDict e = true ∧ e.canLay0 = true ∧ e.depth ≤ d + 1 + m.toNat
  | 0, e, m, s, h => by
    obtain ⟨d2, q⟩ := h.pos
    omega
  | d + 1, e, m, s, h => by
    have ih := exq_fine (ks := ks) d
    cases h with
    | atom h => cases h <;> simp [noDict, noDicts, PyData.canLay0, PyData.canLayAll0, PyData.depth, PyData.depthAll, sk_num, sk_truth, sk_flow, sk_beats, sk_not, sk_pick, sk_then, sk_when, sk_merge, sk_call] <;> omega
    | flow hk hn => simp [strOk_name hn, noDict, noDicts, PyData.canLay0, PyData.canLayAll0, PyData.depth, PyData.depthAll, sk_num, sk_truth, sk_flow, sk_beats, sk_not, sk_pick, sk_then, sk_when, sk_merge, sk_call]; omega
    | beats h1 h2 h3 => simp [strOk_signs h1, strOk_signs h2, noDict, noDicts, PyData.canLay0, PyData.canLayAll0, PyData.depth, PyData.depthAll, sk_num, sk_truth, sk_flow, sk_beats, sk_not, sk_pick, sk_then, sk_when, sk_merge, sk_call]; omega
    | two hx ha hb =>
      obtain ⟨a1, a2, a3⟩ := ih _ _ _ ha
      obtain ⟨b1, b2, b3⟩ := ih _ _ _ hb
      simp only [Bool.toNat_false] at a3 b3
      simp [strOk_two hx, noDict, noDicts, PyData.canLay0, PyData.canLayAll0, PyData.depth, PyData.depthAll, sk_num, sk_truth, sk_flow, sk_beats, sk_not, sk_pick, sk_then, sk_when, sk_merge, sk_call, a1, a2, b1, b2]
      omega
    | not ha =>
      obtain ⟨a1, a2, a3⟩ := ih _ _ _ ha
      simp only [Bool.toNat_false] at a3
      simp [noDict, noDicts, PyData.canLay0, PyData.canLayAll0, PyData.depth, PyData.depthAll, sk_num, sk_truth, sk_flow, sk_beats, sk_not, sk_pick, sk_then, sk_when, sk_merge, sk_call, a1, a2]
      omega
    | pick ha hb hc =>
      obtain ⟨a1, a2, a3⟩ := ih _ _ _ ha
      obtain ⟨b1, b2, b3⟩ := ih _ _ _ hb
      obtain ⟨c1, c2, c3⟩ := ih _ _ _ hc
      simp only [Bool.toNat_false] at a3 b3 c3
      simp [noDict, noDicts, PyData.canLay0, PyData.canLayAll0, PyData.depth, PyData.depthAll, sk_num, sk_truth, sk_flow, sk_beats, sk_not, sk_pick, sk_then, sk_when, sk_merge, sk_call, a1, a2, b1, b2, c1, c2]
      omega
    | thn hk ha =>
      obtain ⟨a1, a2, a3⟩ := ih _ _ _ ha
      simp only [Bool.toNat_false] at a3
      cases hk <;> simp [noDict, noDicts, PyData.canLay0, PyData.canLayAll0, PyData.depth, PyData.depthAll, sk_num, sk_truth, sk_flow, sk_beats, sk_not, sk_pick, sk_then, sk_when, sk_merge, sk_call, a1, a2] <;> omega
    | whn ha hk hn =>
      obtain ⟨a1, a2, a3⟩ := ih _ _ _ ha
      simp only [Bool.toNat_false] at a3
      simp [strOk_name hn, noDict, noDicts, PyData.canLay0, PyData.canLayAll0, PyData.depth, PyData.depthAll, sk_num, sk_truth, sk_flow, sk_beats, sk_not, sk_pick, sk_then, sk_when, sk_merge, sk_call, a1, a2]
      omega
    | merge hk hn ha hb =>
      obtain ⟨a1, a2, a3⟩ := ih _ _ _ ha
      obtain ⟨b1, b2, b3⟩ := ih _ _ _ hb
      simp only [Bool.toNat_false] at a3 b3
      simp [strOk_name hn, noDict, noDicts, PyData.canLay0, PyData.canLayAll0, PyData.depth, PyData.depthAll, sk_num, sk_truth, sk_flow, sk_beats, sk_not, sk_pick, sk_then, sk_when, sk_merge, sk_call, a1, a2, b1, b2]
      omega
    | @call _ n f ps hn hl h =>
      have go : ∀ (l : List PyData) (n : Nat), LevQ ks false d l n → noDicts l = true ∧ PyData.canLayAll0 l = true ∧ PyData.depthAll l ≤ d + 1 := by
        intro l
        induction l with
        | nil => intro n _; exact ⟨rfl, rfl, Nat.zero_le _⟩
        | cons x l ih2 =>
          intro n h
          obtain ⟨s, n', rfl, he, ht⟩ := h.uncons
          obtain ⟨a1, a2, a3⟩ := ih _ _ _ he
          obtain ⟨b1, b2, b3⟩ := ih2 n' ht
          simp only [Bool.toNat_false] at a3
          refine ⟨by simp [noDicts, a1, b1], by simp [PyData.canLayAll0, a2, b2], ?_⟩
          simp only [PyData.depthAll]
          omega
      obtain ⟨g1, g2, g3⟩ := go ps n h
      simp [strOk_name hn, noDict, noDicts, PyData.canLay0, PyData.canLayAll0, PyData.depth, PyData.depthAll, sk_num, sk_truth, sk_flow, sk_beats, sk_not, sk_pick, sk_then, sk_when, sk_merge, sk_call, g1, g2]
      omega
end WK
namespace WK
open PySem PySem.Spec PyProof.Rows L2 WD
theorem noDicts_of : ∀ {l : List PyData}, (∀ d ∈ l, noDict d = true) → noDicts l = true
  | [], _ => rfl
  | d :: l, h => by
    simp only [noDicts, Bool.and_eq_true]
    exact ⟨h d (.head _), noDicts_of fun x m => h x (.tail _ m)⟩
theorem layAll_of : ∀ {l : List PyData}, (∀ d ∈ l, d.canLay0 = true) → PyData.canLayAll0 l = true
  | [], _ => rfl
  | d :: l, h => by
    simp only [PyData.canLayAll0, Bool.and_eq_true]
    exact ⟨h d (.head _), layAll_of fun x m => h x (.tail _ m)⟩
theorem depthAll_of {n : Nat} : ∀ {l : List PyData}, (∀ d ∈ l, d.depth ≤ n) → PyData.depthAll l ≤ n
  | [], _ => Nat.zero_le _
  | d :: l, h => by
    have a := h d (.head _)
    have b := depthAll_of fun x m => h x (.tail _ m)
    simp only [PyData.depthAll]
    omega
/-- what == of data asks of its sides -/
def FineD (n : Nat) (d : PyData) : Prop := noDict d = true ∧ d.canLay0 = true ∧ d.depth ≤ n
theorem fine_list {n : Nat} {l : List PyData} (h : ∀ d ∈ l, FineD n d) : FineD (n + 1) (.list l) :=
  ⟨by simpa only [noDict] using noDicts_of fun d m => (h d m).1, by simpa only [PyData.canLay0] using layAll_of fun d m => (h d m).2.1, by
    have := depthAll_of fun d m => (h d m).2.2
    simp only [PyData.depth]
    omega⟩
theorem fine_tuple {n : Nat} {l : List PyData} (h : ∀ d ∈ l, FineD n d) : FineD (n + 1) (.tuple l) :=
  ⟨by simpa only [noDict] using noDicts_of fun d m => (h d m).1, by simpa only [PyData.canLay0] using layAll_of fun d m => (h d m).2.1, by
    have := depthAll_of fun d m => (h d m).2.2
    simp only [PyData.depth]
    omega⟩
theorem FineD.mono {n m : Nat} {d : PyData} (h : FineD n d) (l : n ≤ m) : FineD m d := ⟨h.1, h.2.1, Nat.le_trans h.2.2 l⟩
theorem fine_int {n : Nat} (i : Int) : FineD n (.int i) := ⟨rfl, rfl, Nat.zero_le _⟩
theorem fine_ints {n : Nat} (r : List Int) : FineD (n + 1) (.tuple (r.map .int)) := fine_tuple fun d m => by
  obtain ⟨i, _, rfl⟩ := List.mem_map.mp m
  exact fine_int i
theorem FineD.shaped {n : Nat} {d : PyData} (h : FineD n d) (l : n ≤ 60) : SeqAt.shaped d = true := by
  have := h.2.2
  unfold SeqAt.shaped
  rw [h.2.1]
  simp
  omega
theorem fine_exq {ks : List Str} {d : Nat} {e : PyData} {m : Bool} {s : Nat} (h : Exq ks m d e s) : FineD (d + 2) e := by
  obtain ⟨a, b, c⟩ := exq_fine d e m s h
  exact ⟨a, b, by cases m <;> simp at c <;> omega⟩
/-- a good one left to walk -/
def GoodT (ks : List Str) (t : Tri) : Prop := ∃ (i : Int) (r : List Int) (e : PyData) (m : Bool) (d s : Nat), t = (.int i, r.map .int, e) ∧ Exq ks m d e s ∧ r.length + d ≤ 8
theorem GoodT.fine {ks : List Str} {t : Tri} (h : GoodT ks t) : FineD 11 (triD t) := by
  obtain ⟨i, r, e, m, d, s, rfl, he, hl⟩ := h
  refine fine_tuple fun x hx => ?_
  rcases List.mem_cons.mp hx with rfl | hx
  · exact fine_int i
  rcases List.mem_cons.mp hx with rfl | hx
  · exact (fine_ints (n := 0) r).mono (by decide)
  rcases List.mem_cons.mp hx with rfl | hx
  · exact (fine_exq he).mono (by omega)
  · cases hx
theorem trips_good {ks : List Str} {i : Int} {r : List Int} {d : Nat} (hl : r.length + (d + 1) ≤ 8) : ∀ (ps : List PyData) (j N : Nat), LevQ ks false d ps N → ∀ t ∈ trips (.int i) (r.map .int) ps j, GoodT ks t
  | [], _, _, _, t, h => by cases h
  | x :: ps, j, N, h, t, ht => by
    obtain ⟨s, n, rfl, he, hr⟩ := h.uncons
    rcases List.mem_cons.mp ht with rfl | ht
    · exact ⟨i, r ++ [(j : Int)], x, false, d, s, by rw [List.map_append]; rfl, he, by rw [List.length_append]; simp only [List.length_cons, List.length_nil]; omega⟩
    · exact trips_good hl ps (j + 1) n hr t ht
theorem trips_len {k : PyData} {p : List PyData} : ∀ (ps : List PyData) (j : Nat), (trips k p ps j).length = ps.length
  | [], _ => rfl
  | _ :: ps, j => by
    show (trips k p ps (j + 1)).length + 1 = _
    rw [trips_len ps (j + 1)]
    rfl
/-- the rows as they are left at first -/
def rowsT : List (List PyData × PyData) → Nat → List Tri
  | [], _ => []
  | r :: l, i => (.int (i : Nat), [], r.2) :: rowsT l (i + 1)
theorem walkT_rows : ∀ (l : List (List PyData × PyData)) (i : Nat), walkT (rowsT l i) = walkR l i
  | [], _ => rfl
  | r :: l, i => by
    show walkT ((.int (i : Nat), [], r.2) :: rowsT l (i + 1)) = _
    unfold walkT walkR
    rw [walkT_rows l (i + 1)]
    try rfl
theorem rowsT_good {ks : List Str} {d : Nat} (hd : d ≤ 8) : ∀ (l : List (List PyData × PyData)) (i N : Nat), RowsQ ks d l N → ∀ t ∈ rowsT l i, GoodT ks t
  | [], _, _, _, t, h => by cases h
  | _ :: l, i, _, .cons h _ t0, t, ht => by
    rcases List.mem_cons.mp ht with rfl | ht
    · exact ⟨(i : Int), [], _, true, d, _, rfl, h, by rw [List.length_nil]; omega⟩
    · exact rowsT_good hd l (i + 1) _ t0 t ht
theorem rowsT_len : ∀ (l : List (List PyData × PyData)) (i : Nat), (rowsT l i).length = l.length
  | [], _ => rfl
  | _ :: l, i => by
    show (rowsT l (i + 1)).length + 1 = _
    rw [rowsT_len l (i + 1)]
    rfl
/-- the first comprehension -/
theorem comp_rowsT {L : List (List PyData × PyData)} {P : List PyData → WD.Env → Prop} : ∀ (l : List (List PyData × PyData)) (i : Nat) (acc : List PyData), L.drop i = l → L.length ≤ 1000 → acc.length + l.length ≤ 1000 → P (acc ++ (rowsT l i).map triD) ⟨[.dat (.list (L.map rowD)), .own [], .un, .un, .un, .un, .un, .un], 0⟩ →
    wComp (wName [] 2) wYes (wTup (wCons (wVar 2) (wCons (wTup wNil) (wCons (wOp fIxT (wOp fIxL (wVar 0) (wVar 2)) (wK (.int 1))) wNil)))) [2] (upFrom (i : Nat) l.length) [.dat (.list (L.map rowD)), .own [], .un, .un, .un, .un, .un, .un] 0 acc P
  | [], i, acc, _, _, _, q => by
    have q : P (acc ++ []) ⟨[.dat (.list (L.map rowD)), .own [], .un, .un, .un, .un, .un, .un], 0⟩ := q
    rw [List.append_nil] at q
    exact q
  | r :: l, i, acc, hL, hn, b, q => by
    rw [List.length_cons] at b
    have hi : L[i]? = some r := by
      have := congrArg (fun z : List (List PyData × PyData) => z[0]?) hL
      simpa [List.getElem?_drop] using this
    have hlt : i < L.length := (List.getElem?_eq_some_iff.mp hi).1
    have ih := comp_rowsT (L := L) (P := P) l (i + 1) (acc ++ [triD (.int (i : Nat), [], r.2)]) (by
      have := congrArg (List.drop 1) hL
      simpa [List.drop_drop, Nat.add_comm] using this) hn (by rw [List.length_append]; simp only [List.length_cons, List.length_nil]; omega) (by rw [List.append_assoc]; exact q)
    have eup : upFrom (i : Nat) (r :: l).length = .int (i : Nat) :: upFrom ((i + 1 : Nat) : Int) l.length := by
      rw [List.length_cons]
      unfold upFrom
      rw [List.range_succ_eq_map, List.map_cons, List.map_map]
      congr 1
      · simp
        intro a _
        omega
    rw [eup]
    have ea : atI (L.map rowD) (i : Int) = some (rowD r) := by
      have : (L.map rowD)[i]? = some (rowD r) := by rw [List.getElem?_map, hi]; rfl
      exact atI_nat this
    refine ⟨rfl, by show 2 < 8; decide, ?_⟩
    refine ⟨by show 0 ≤ 16777216; decide, _, ea, _, rfl, by show 3 ≤ 16777216; decide, rfl, by omega, ih⟩
abbrev allI (ks : List Str) (body : PyData) (L : List PyData) (m : Nat) (ρ : WD.Env) : Prop := ∃ (st : List Tri) (found R : List PyData) (k p e : En), ρ = enL body found k (.own (st.map triD).reverse) p e ∧ walkT st = some R ∧ found ++ R = L ∧ R.length = m ∧ ∀ t ∈ st, GoodT ks t
theorem walkT_len : ∀ (st : List Tri) (R : List PyData), walkT st = some R → st.length ≤ R.length
  | [], _, _ => Nat.zero_le _
  | t :: r, R, h => by
    unfold walkT at h
    split at h
    · rename_i A B h1 h2
      cases h
      have := walkT_len r B h2
      have : 1 ≤ A.length := by
        have h1 : (match partsD t.2.2 with | some ps => if t.2.1.length < 16777216 then (walkL (walkB 11) t.1 t.2.1 ps 0).map (PyData.tuple [t.1, .tuple t.2.1, t.2.2] :: ·) else none | none => none) = some A := h1
        split at h1
        · split at h1
          · obtain ⟨M, _, rfl⟩ := Option.map_eq_some_iff.mp h1
            rw [List.length_cons]
            omega
          · cases h1
        · cases h1
      rw [List.length_cons, List.length_append]
      omega
    · cases h
theorem tells_all {M : Mod} {N : Nat} (h : ModOk M N) {L : List PyData} (hL : walkR M.rs 0 = some L) : TellsW f_law_all [.list (M.rs.map rowD)] (.list L) := fun P p => by
  obtain ⟨L2, e, l⟩ := walkR_ok (d := 8) (by decide) M.rs 0 N h.ex
  rw [hL] at e
  cases e
  have hN := h.few
  have hr : M.rs.length ≤ 60 := by unfold Mod.rs; rw [List.length_map]; exact h.rowL
  refine ⟨by decide, rfl, by show 1 < 8; decide, ?_⟩
  refine ⟨by show -(2 ^ 62) ≤ (((M.rs.map rowD).length : Nat) : Int); omega, by show (((M.rs.map rowD).length : Nat) : Int) < 2 ^ 62; rw [List.length_map]; omega, ⟨rfl, rfl⟩, ?_⟩
  have el : (((M.rs.map rowD).length : Nat) : Int).toNat = M.rs.length := by rw [List.length_map]; rfl
  rw [el]
  refine comp_rowsT M.rs 0 [] rfl (by omega) (by rw [List.length_nil]; omega) ?_
  refine ⟨rfl, by show 3 < 8; decide, ?_⟩
  refine ⟨allI (M.ins ++ M.tgs) (.list (M.rs.map rowD)) L, ⟨L.length, rowsT M.rs 0, [], L, .un, .un, .un, rfl, by rw [walkT_rows]; exact hL, rfl, rfl, rowsT_good (by decide) M.rs 0 N h.ex⟩, ?_⟩
  rintro m ρ ⟨st, found, R, k, p', e', rfl, hw, hf, hm, hg⟩
  have hlen : found.length + R.length = N := by rw [← List.length_append, hf]; exact l
  have hst := walkT_len st R hw
  have fine : FineD 12 (.list (st.map triD).reverse) := fine_list fun d hd => by
    obtain ⟨t, ht, rfl⟩ := List.mem_map.mp (List.mem_reverse.mp hd)
    exact (hg t ht).fine
  refine ⟨_, rfl, by simpa only [noDict] using fine.1, fine.shaped (by decide), ?_⟩
  cases st with
  | nil =>
    cases hw
    rw [List.append_nil] at hf
    subst hf
    exact p
  | cons t r =>
    rw [List.length_cons] at hst
    have e1 : ((t :: r).map triD).reverse = (r.map triD).reverse ++ [triD t] := by rw [List.map_cons, List.reverse_cons]
    rw [e1]
    have e2 : (!((r.map triD).reverse ++ [triD t]).isEmpty) = true := by simp
    rw [e2]
    obtain ⟨i, rr, e, m1, d, s, rfl, he, hd⟩ := hg t (.head _)
    obtain ⟨d, rfl⟩ := he.pos
    obtain ⟨ps, MM, h1, h2, h3, h4⟩ := tells_under he
    obtain ⟨L2, eR, hw2⟩ := walkT_step hw h1
    subst eR
    rw [List.length_cons] at hlen hm
    refine ⟨_, triD (.int i, rr.map .int, e), rfl, by rw [List.length_append]; simp, ?_⟩
    rw [List.dropLast_concat]
    refine ⟨rfl, rfl, by show 2 < 8; decide, rfl, by show 4 < 8; decide, rfl, by show 5 < 8; decide, rfl, ?_⟩
    refine ⟨rfl, by show 3 ≤ 16777216; decide, found, rfl, by omega, ?_⟩
    refine ⟨rfl, tells_fits he _ ?_⟩
    have hps := walkT_len _ _ hw2
    rw [List.length_append, trips_len] at hps
    refine ⟨rfl, h4 _ ?_⟩
    refine ⟨⟨rfl, rfl⟩, ?_⟩
    show wComp _ _ _ _ (numbered ps) _ _ _ _
    rw [numbered_numF]
    refine comp_trips (by rw [List.length_map]; omega) ps 0 [] (by rw [List.length_nil]; omega) ?_
    have e3 : (r.map triD).reverse ++ ([] ++ (trips (.int i) (rr.map .int) ps 0).map triD).reverse = ((trips (.int i) (rr.map .int) ps 0 ++ r).map triD).reverse := by
      rw [List.nil_append, List.map_append, List.reverse_append]
    refine ⟨by simp only [List.length_reverse, List.length_map, List.nil_append, trips_len]; omega, rfl, by show 3 < 8; decide, ?_⟩
    rw [e3]
    refine ⟨L2.length, by omega, trips (.int i) (rr.map .int) ps 0 ++ r, found ++ [triD (.int i, rr.map .int, e)], L2, _, _, _, rfl, hw2, by rw [List.append_assoc]; exact hf, rfl, fun t ht => ?_⟩
    rcases List.mem_append.mp ht with ht | ht
    · exact trips_good hd ps 0 MM h2 t ht
    · exact hg t (.tail _ ht)
end WK
namespace WK
open PySem PySem.Spec PyProof.Rows L2
abbrev s_law_purse : Stmt := topS 66
theorem sc_law_purse : FnScope ["_law_script", "_law_cells", "_law_cell"] ["_law_script"] (defScope s_law_purse) := ⟨rfl, rfl, rfl, by decide +kernel, rfl, by decide +kernel, by decide +kernel⟩
abbrev s_law_draw : Stmt := topS 67
theorem sc_law_draw : FnScope ["_law_purse_here", "_law_out_of", "_law_cells", "_law_went", "_law_at", "_law_cell", "_law_number", "_law_other"] ["_law_purse_here", "_law_out_of"] (defScope s_law_draw) := ⟨rfl, rfl, rfl, by decide +kernel, rfl, by decide +kernel, by decide +kernel⟩
theorem nats_lay : ∀ l : List Nat, PyData.canLayAll0 (l.map fun n : Nat => PyData.int (n : Int)) = true
  | [] => by simp [PyData.canLayAll0]
  | b :: l => by rw [List.map_cons]; simp [PyData.canLayAll0, PyData.canLay0, nats_lay l]
theorem nats_depth : ∀ l : List Nat, PyData.depthAll (l.map fun n : Nat => PyData.int (n : Int)) = 0
  | [] => by simp [PyData.depthAll]
  | b :: l => by rw [List.map_cons]; simp [PyData.depthAll, PyData.depth, nats_depth l]
theorem shaped_nats (l : List Nat) : SeqAt.shaped (.list (l.map fun n : Nat => PyData.int (n : Int))) = true := by
  unfold SeqAt.shaped
  have e1 : (PyData.list (l.map fun n : Nat => PyData.int (n : Int))).canLay0 = true := by
    simp [PyData.canLay0, nats_lay l]
  rw [e1]
  simp [PyData.depth, nats_depth l]
theorem dp_nats {K : PySem.W.Frag} {H : Hp} : ∀ l : List Nat, DpAll K H (l.map nV) (l.map fun n : Nat => PyData.int (n : Int))
  | [] => .nil
  | b :: l => .cons (.int _) (dp_nats l)
/-! ### the purse -/
structure PurseAt (H : Hp) (p c : Addr) (cells : List Nat) (went : Nat) : Prop where
  hp : H p = some (.lst [.ref c, nV went])
  hc : H c = some (.lst (cells.map nV))
  ne : p ≠ c
  pos : 0 < cells.length
  le : cells.length ≤ 63
section
variable {P : Program} {w : World} {K : PySem.W.Frag} {mg : Str → Option Value} {base : Heap}
def sp_law_purse (K : PySem.W.Frag) : Sp := fun vs H Q _ => ∃ (a : Addr) (ns : List Int), vs = [.ref a] ∧ SqL K H a (ns.map V.int) ∧ ns.length ≤ 63 ∧ ∀ H' p c cells, Same H H' → PurseAt H' p c cells 0 → Q (.ref p) H'
theorem ok_law_purse {f : Addr} {fd : FuncData} (F : Fun K "_law_purse" "_law_purse" s_law_purse f fd) : FnOk P w K mg base CX0 1 f fd ["_law_script"] (sp_law_purse K) := by
  refine F.ok sc_law_purse (fun vs H Q E h => ?_) (fun cdv A outer s H vs Q E hr h => ?_)
  · obtain ⟨_, _, rfl, _⟩ := h
    rfl
  · obtain ⟨a, ns, rfl, hS, hl, q⟩ := h
    have hz := WD.szl
    refine ⟨_, (pss_cons (ps_setLc (i := 1) (own := [("_law_cell", 2)]) (g := gName 2) (by rfl) sc_law_purse.nd rfl rfl (sw_true rfl rfl rfl (by decide +kernel)) (pi_list (pe_slice sl_list (pv 0) po_none (po_some pe_int))) (blkOk_by (N := ["_law_script", "_law_cells", "_law_cell"]) (sc := defScope s_law_purse) (by decide +kernel)) (fun _ _ _ _ _ => pg_name (i := 2) sc_law_purse.nd rfl (Or.inl rfl)) (fun _ _ _ _ _ => pts_nil) (fun _ _ _ _ _ => (pe_op op_mod (pv 2) (pe_op op_powB (pe_op op_powB pe_int pe_int) pe_int))))
      (C8.pss_cut (ps_if (pt_cmpR (op_eqD hr.units) (pv 1) (pe_lst pa_nil) (nomark _))
        (pss_one (ps_set (i := 1) sc_law_purse.nd rfl (Or.inl rfl) (pe_lst (pa_cons pe_int pa_nil))))
        pss_nil)
      (pss_one (ps_ret (pe_lst (pa_cons (pv 1) (pa_cons pe_int pa_nil))))))), ?_⟩
    have ecut : cutV (ns.map V.int) none (some (63 : Int)) = ns.map V.int := by
      show List.take _ (List.drop _ _) = _
      rw [show (63 : Int) = ((63 : Nat) : Int) from rfl, HT.sIx_nat, HT.sIx_none, List.drop_zero, Nat.sub_zero, List.length_map, Nat.min_eq_right (by omega), List.take_of_length_le (by rw [List.length_map]; omega)]
    refine ⟨_, rfl, _, rfl, a, _, rfl, hS, fun c nc => ?_⟩
    rw [ecut]
    have sc := WD.same_upd (o := .lst (ns.map V.int)) nc
    have hc := at_upd (o := .lst (ns.map V.int)) nc
    generalize (upd H c (.lst (ns.map V.int))) = H1 at *
    refine ⟨c, rfl, ⟨_, SqL.of hc⟩, fun D nD => ?_⟩
    have ncD : c ≠ D := ne_of_none hc nD
    refine lc_list (K := K) (a := c) (xs := ns.map V.int) (fun i H' => ∃ cs : List Nat, H' = upd H1 D (.lst (cs.map nV)) ∧ cs.length = i) ⟨[], rfl, rfl⟩ (fun i H' _ hP => ?_) (fun i x H' hx hP => ?_) (fun H' hP => ?_)
    · obtain ⟨cs, rfl, _⟩ := hP
      refine SqL.of ?_
      rw [upd_ne ncD]
      exact hc
    · obtain ⟨cs, rfl, hl2⟩ := hP
      have hi : i < ns.length := by
        have := (List.getElem?_eq_some_iff.mp hx).1
        rw [List.length_map] at this
        exact this
      obtain ⟨z, _, rfl⟩ := List.mem_map.mp (List.mem_of_getElem? hx)
      have pos : (0 : Int) < ((10 : Int) ^ (60 : Int).toNat) ^ (60 : Int).toNat := by decide +kernel
      refine ⟨rfl, lc_yes ?_⟩
      rw [if_pos rfl]
      refine ⟨_, rfl, _, _, rfl, rfl, ⟨by decide, by decide +kernel⟩, _, _, rfl, rfl, ⟨by decide, by decide +kernel⟩, _, _, rfl, rfl, pos, _, upd_same, by rw [List.length_map]; omega, ?_⟩
      obtain ⟨m, hm⟩ : ∃ m : Nat, z % (((10 : Int) ^ (60 : Int).toNat) ^ (60 : Int).toNat) = (m : Int) := ⟨(z % (((10 : Int) ^ (60 : Int).toNat) ^ (60 : Int).toNat)).toNat, (Int.toNat_of_nonneg (Int.emod_nonneg _ (Int.ne_of_gt pos))).symm⟩
      refine ⟨cs ++ [m], ?_, by rw [List.length_append, hl2]; rfl⟩
      rw [upd_upd, List.map_append]
      show upd H1 D (.lst (_ ++ [V.int (z % (((10 : Int) ^ (60 : Int).toNat) ^ (60 : Int).toNat))])) = _
      rw [hm]
      rfl
    obtain ⟨cs, rfl, hlen⟩ := hP
    rw [List.length_map] at hlen
    have sD := WD.same_upd (o := .lst (cs.map nV)) nD
    have hD := at_upd (o := .lst (cs.map nV)) nD
    have s1 := sc.trans sD
    generalize (upd H1 D (.lst (cs.map nV))) = H2 at *
    refine ⟨fun σ H' => Same H H' ∧ ∃ D' cs', H' D' = some (.lst (List.map nV cs')) ∧ 0 < cs'.length ∧ cs'.length ≤ 63 ∧ σ = [some (.ref a), some (.ref D'), none], ?_, fun σ H3 hm => ?_⟩
    · refine ⟨_, rfl, by show 0 ≤ sizeLine; decide, fun e ne => ?_⟩
      have se := WD.same_upd (o := .lst []) ne
      by_cases h0 : cs = []
      · subst h0
        refine ⟨.list [], .list [], .lst (SqL.of (se _ _ hD)) .nil, .lst (SqL.of upd_same) .nil, by decide +kernel, by decide +kernel, true, rfl, iteT ?_⟩
        refine ⟨by show 1 ≤ sizeLine; decide, fun g ng => ?_⟩
        exact ⟨s1.trans (se.trans (WD.same_upd ng)), g, [0], at_upd ng, by decide, by decide, rfl⟩
      · refine ⟨.list (cs.map fun n : Nat => PyData.int (n : Int)), .list [], .lst (SqL.of (se _ _ hD)) (dp_nats cs), .lst (SqL.of upd_same) .nil, shaped_nats cs, by decide +kernel, false, ?_, iteF ?_⟩
        · cases cs with
          | nil => exact absurd rfl h0
          | cons x r => rw [List.map_cons]; simp [PyData.eqv, PyData.eqvAll]
        · exact ⟨s1.trans se, D, cs, se _ _ hD, List.length_pos_iff.mpr h0, by omega, rfl⟩
    obtain ⟨s3, D', cs', hD', h1, h2, rfl⟩ := hm
    refine ⟨_, rfl, by show 2 ≤ sizeLine; decide, fun p np => ?_⟩
    have sp := WD.same_upd (o := .lst [.ref D', .int 0]) np
    exact q _ p D' cs' (s3.trans sp) ⟨at_upd np, sp _ _ hD', (ne_of_none hD' np).symm, h1, h2⟩
end
def SB2 (p c : Addr) (H H' : Hp) : Prop := ∀ (b : Addr) (o : HO), (b ≠ p ∧ b ≠ c) → H b = some o → H' b = some o
theorem SB2.refl {p c : Addr} {H : Hp} : SB2 p c H H := fun _ _ _ h => h
theorem SB2.of {p c : Addr} {H H' : Hp} (s : Same H H') : SB2 p c H H' := fun b o _ h => s b o h
theorem SB2.trans {p c : Addr} {H1 H2 H3 : Hp} (a : SB2 p c H1 H2) (b : SB2 p c H2 H3) : SB2 p c H1 H3 := fun x o n h => b x o n (a x o n h)
theorem SB2.upd1 {p c : Addr} {H : Hp} {o : HO} : SB2 p c H (upd H p o) := fun b u n h => by
  rw [upd_ne n.1]
  exact h
theorem SB2.upd2 {p c : Addr} {H : Hp} {o : HO} : SB2 p c H (upd H c o) := fun b u n h => by
  rw [upd_ne n.2]
  exact h
theorem PurseAt.mono {H H' : Hp} {p c : Addr} {cells : List Nat} {went : Nat} (s : Same H H') (h : PurseAt H p c cells went) : PurseAt H' p c cells went := ⟨s _ _ h.hp, s _ _ h.hc, h.ne, h.pos, h.le⟩
theorem nV_at {ds : List Nat} {i : Nat} (h : i < ds.length) : (ds.map nV)[i]? = some (nV (ds.getD i 0)) := by
  rw [List.getElem?_map, List.getElem?_eq_getElem h, List.getD_eq_getElem?_getD, List.getElem?_eq_getElem h]
  rfl
theorem set_map (l : List Nat) (i n : Nat) : (l.map nV).set i (nV n) = (l.set i n).map nV := (List.map_set ..).symm
theorem mod_bd (i : Int) {m : Int} (h : 0 < m) : 0 ≤ i % m ∧ i % m < m := ⟨Int.emod_nonneg i (Int.ne_of_gt h), Int.emod_lt_of_pos i h⟩
section
variable {P : Program} {w : World} {K : PySem.W.Frag} {mg : Str → Option Value} {base : Heap}
def sp_law_draw (K : PySem.W.Frag) : Sp := fun vs H Q _ => ∃ (p c : Addr) (cells : List Nat) (went o : Nat), vs = [.ref p, nV o] ∧ PurseAt H p c cells went ∧ went ≤ 100000000 ∧ 0 < o ∧ o ≤ 10 ^ 30 ∧
  ∀ H' cells' r, SB2 p c H H' → PurseAt H' p c cells' (went + 1) → r < o → Q (nV r) H'
theorem ok_law_draw {f : Addr} {fd : FuncData} (F : Fun K "_law_draw" "_law_draw" s_law_draw f fd) (m_len : mg "len" = none) : FnOk P w K mg base CX0 1 f fd ["_law_purse_here", "_law_out_of"] (sp_law_draw K) := by
  refine F.ok sc_law_draw (fun vs H Q E h => ?_) (fun cdv A outer s H vs Q E hr h => ?_)
  · obtain ⟨_, _, _, _, _, rfl, _⟩ := h
    rfl
  · obtain ⟨p, c, cells, went, o, rfl, hP, hw, o1, o2, q⟩ := h
    have hz := WD.szl
    refine ⟨_, (pss_cons (ps_asg (pv 0) (pg_lst (by rfl) (pgs_cons (pg_name (i := 2) sc_law_draw.nd rfl (Or.inl rfl)) (pgs_cons (pg_name (i := 3) sc_law_draw.nd rfl (Or.inl rfl)) pgs_nil))))
      (pss_cons (ps_set (i := 4) sc_law_draw.nd rfl (Or.inl rfl) (pe_op op_mod (pv 3) (pe_callB call_len_seq (by rfl) m_len PySem.boot_len (pa_cons (pv 2) pa_nil))))
      (pss_cons (ps_set (i := 5) sc_law_draw.nd rfl (Or.inl rfl) (pe_ix ix_list (pv 2) (pv 4) (fun _ _ => rfl)))
      (pss_cons (ps_asg (pe_op op_add (pv 3) pe_int) (pg_sub (pv 0) pe_int set_list))
      (pss_cons (ps_if (pt_cmpR op_ge (pv 5) (pe_op op_powB pe_int pe_int) (nomark _))
        (pss_cons (ps_asg (pe_op op_fdivW (pv 5) (pv 1)) (pg_sub (pv 2) (pv 4) set_list))
        (pss_one (ps_ret (pe_op op_mod (pv 5) (pv 1)))))
        pss_nil)
      (pss_cons (ps_set (i := 6) sc_law_draw.nd rfl (Or.inl rfl) (pe_op op_mod (pe_op op_add (pe_op op_add (pe_op op_mul (pe_op op_mod (pv 5) pe_int) pe_int) (pe_op op_mul (pe_op op_mul (pv 3) (pv 3)) pe_int)) pe_int) pe_int))
      (pss_cons (ps_set (i := 6) sc_law_draw.nd rfl (Or.inl rfl) (pe_op op_mod (pe_op op_mul (pv 6) (pv 6)) pe_int))
      (pss_cons (ps_set (i := 6) sc_law_draw.nd rfl (Or.inl rfl) (pe_op op_mod (pe_op op_mul (pv 6) (pv 6)) pe_int))
      (C8.pss_cut (ps_if (pt_cmpR op_gt (pv 1) (pe_op op_powB pe_int pe_int) (nomark _))
        (pss_cons (ps_set (i := 7) sc_law_draw.nd rfl (Or.inl rfl) (pe_op op_mod (pe_op op_add (pe_op op_add (pe_op op_mul (pv 6) pe_int) (pe_op op_mul (pv 3) pe_int)) pe_int) pe_int))
        (pss_one (ps_set (i := 6) sc_law_draw.nd rfl (Or.inl rfl) (pe_op op_mul (pv 6) (pe_op op_add (pe_op op_mul (pe_op op_mul (pv 7) (pv 7)) (pv 7)) pe_int)))))
        pss_nil)
      (pss_one (ps_ret (pe_op op_mod (pv 6) (pv 1))))))))))))), ?_⟩
    have hm := Nat.mod_lt went hP.pos
    refine ⟨_, rfl, p, _, rfl, SqL.of hP.hp, rfl, _, _, rfl, _, _, rfl, rfl, ?_⟩
    have hpos := hP.pos
    have hwh : ((went : Int) % (cells.length : Int)) = ((went % cells.length : Nat) : Int) := (Int.natCast_emod ..).symm
    refine ⟨_, rfl, _, rfl, c, _, rfl, .inl (SqL.of hP.hc), _, _, rfl, rfl, ?_, ?_⟩
    · show (0 : Int) < ((cells.map nV).length : Int)
      rw [List.length_map]
      omega
    rw [List.length_map]
    refine ⟨_, rfl, _, rfl, c, _, ((went % cells.length : Nat) : Int), _, rfl, congrArg V.int hwh, SqL.of hP.hc, atI_nat (nV_at hm), ?_⟩
    generalize cells.getD (went % cells.length) 0 = cell at *
    refine ⟨_, rfl, _, _, rfl, rfl, _, rfl, p, _, 1, 1, rfl, rfl, hP.hp, rfl, ?_⟩
    have hpur : PurseAt (upd H p (.lst [.ref c, nV (went + 1)])) p c cells (went + 1) := ⟨upd_same, by rw [upd_ne hP.ne.symm]; exact hP.hc, hP.ne, hP.pos, hP.le⟩
    have sb : SB2 p c H (upd H p (.lst [.ref c, nV (went + 1)])) := SB2.upd1
    have eset : (upd H p (.lst (List.set [.ref c, nV went] 1 (.int ((went : Int) + 1))))) = upd H p (.lst [.ref c, nV (went + 1)]) := rfl
    rw [eset]
    generalize (upd H p (.lst [.ref c, nV (went + 1)])) = H1 at *
    refine ⟨_, rfl, _, _, rfl, rfl, ⟨by decide, by decide +kernel⟩, _, _, rfl, rfl, _, rfl, ite2 (fun e => ?_) (fun e => ?_)⟩
    · have ho : (o : Int).natAbs < 2 ^ 100 := by
        rw [Int.natAbs_natCast]
        exact Nat.lt_of_le_of_lt o2 (by decide)
      refine ⟨_, rfl, _, rfl, _, _, rfl, rfl, wide_div (b := 100) (by omega) ho (by decide) (by decide), _, rfl, _, rfl, c, _, ((went % cells.length : Nat) : Int), went % cells.length, rfl, congrArg V.int hwh, hpur.hc, ?_, ?_⟩
      · rw [List.length_map]
        exact Evl.ixN_nat hm
      · have eset2 : (upd H1 c (.lst ((cells.map nV).set (went % cells.length) (.int ((cell : Int) / (o : Int)))))) = upd H1 c (.lst ((cells.set (went % cells.length) (cell / o)).map nV)) := by
          rw [← set_map]
          rfl
        rw [eset2]
        have hcp : c ≠ p := hpur.ne.symm
        refine ⟨_, rfl, _, rfl, _, _, rfl, rfl, by omega, ?_⟩
        exact q _ _ (cell % o) (sb.trans SB2.upd2) ⟨by rw [upd_ne hpur.ne]; exact hpur.hp, upd_same, hpur.ne, by rw [List.length_set]; exact hpur.pos, by rw [List.length_set]; exact hpur.le⟩ (Nat.mod_lt _ o1)
    · have k1 : (0 : Int) < 2147483629 := by decide
      have k2 : (0 : Int) < 2147483647 := by decide
      have k3 : (0 : Int) < 2147483587 := by decide
      have m1 := mod_bd ((cell : Int) % 2147483629 * 48271 + (went : Int) * (went : Int) * 69621 + 11) (m := 2147483647) (by decide)
      refine ⟨_, rfl, _, _, rfl, rfl, k1, _, _, rfl, rfl, .inr ⟨by decide, by decide⟩, _, rfl, _, rfl, _, _, rfl, rfl, .inl ⟨by omega, by omega⟩, _, _, rfl, rfl, .inr ⟨by decide, by decide⟩, _, _, rfl, rfl, _, _, rfl, rfl, _, _, rfl, rfl, k2, ?_⟩
      generalize ((cell : Int) % 2147483629 * 48271 + (went : Int) * (went : Int) * 69621 + 11) % 2147483647 = x1 at *
      have m2 := mod_bd (x1 * x1) (m := 2147483629) (by decide)
      refine ⟨_, rfl, _, rfl, _, _, rfl, rfl, .inl ⟨by omega, by omega⟩, _, _, rfl, rfl, k1, ?_⟩
      generalize x1 * x1 % 2147483629 = x2 at *
      have m3 := mod_bd (x2 * x2) (m := 2147483587) (by decide)
      refine ⟨_, rfl, _, rfl, _, _, rfl, rfl, .inl ⟨by omega, by omega⟩, _, _, rfl, rfl, k3, ?_⟩
      generalize x2 * x2 % 2147483587 = x3 at *
      refine ⟨fun σ H' => H' = H1 ∧ ∃ (y : Int) (z7 : Option V), σ = [some (.ref p), some (nV o), some (.ref c), some (nV went), some (.int ((went : Int) % (cells.length : Int))), some (nV cell), some (.int y), z7], ?_, fun σ H2 hm2 => ?_⟩
      · refine ⟨_, rfl, _, _, rfl, rfl, ⟨by decide, by decide +kernel⟩, _, _, rfl, rfl, _, rfl, ite2 (fun e => ?_) (fun e => ⟨rfl, _, _, rfl⟩)⟩
        refine ⟨_, rfl, _, _, rfl, rfl, .inr ⟨by decide, by decide⟩, _, rfl, _, _, rfl, rfl, .inr ⟨by decide, by decide⟩, _, _, rfl, rfl, _, _, rfl, rfl, _, _, rfl, rfl, k1, ?_⟩
        have m4 := mod_bd (x3 * 39373 + (went : Int) * 7919 + 500) (m := 2147483629) (by decide)
        generalize (x3 * 39373 + (went : Int) * 7919 + 500) % 2147483629 = x4 at *
        exact ⟨_, rfl, _, rfl, _, rfl, _, _, rfl, rfl, .inl ⟨by omega, by omega⟩, _, rfl, _, _, rfl, rfl, .inr ⟨by omega, by omega⟩, _, _, rfl, rfl, _, _, rfl, rfl, .inl ⟨by omega, by omega⟩, rfl, _, _, rfl⟩
      obtain ⟨rfl, y, z7, rfl⟩ := hm2
      have m5 := mod_bd y (m := (o : Int)) (by omega)
      refine ⟨_, rfl, _, rfl, _, _, rfl, rfl, by omega, ?_⟩
      have er : y % (o : Int) = (((y % (o : Int)).toNat : Nat) : Int) := (Int.toNat_of_nonneg m5.1).symm
      have := q H2 cells (y % (o : Int)).toNat sb hpur (by omega)
      show Q (V.int (y % (o : Int))) H2
      rw [er]
      exact this
end
end WK
namespace WD
open PySem PySem.Spec PyProof.Rows L2 WK
/-! ### defs of the law that draw: the purse at p, its cells at c -/
def ctxD (K : PySem.W.Frag) (H0 : Hp) (N0 : Addr → Prop) (p c : Addr) (i : Nat) : Ctx :=
  ⟨K, H0, fun b => b = p ∨ b = c, N0, fun n _ H => ∃ cells, PurseAt H p c cells n, [i], .ref p⟩
variable {K : PySem.W.Frag} {H0 : Hp} {N0 : Addr → Prop} {p c : Addr} {i : Nat}
theorem ctxD_ok : (ctxD K H0 N0 p c i).Ok := ⟨fun {n N H H'} kp ⟨cells, h⟩ => ⟨cells, kp.n _ _ (.inr (.inl rfl)) h.hp, kp.n _ _ (.inr (.inr rfl)) h.hc, h.ne, h.pos, h.le⟩⟩
/-- all but the purse stays -/
theorem Rep.spent {σ : L2.St} {ρ : Env} {N : Addr → Prop} {H H' : Hp} {m : Nat} {cells : List Nat} (r : Rep (ctxD K H0 N0 p c i) σ ρ N H) (off : ∀ b, b ≠ p → b ≠ c → H' b = H b) (hp : PurseAt H' p c cells m) :
    Rep (ctxD K H0 N0 p c i) σ ⟨ρ.sl, m⟩ N H' ∧ Fr (ctxD K H0 N0 p c i) σ ρ N σ ⟨ρ.sl, m⟩ N H H' := by
  obtain ⟨N1, _, cells0, old⟩ := r.j
  have keep : ∀ b o, ¬ (b = p ∨ b = c) → H b = some o → H' b = some o := fun b o m e => by
    rw [off b (fun z => m (.inl z)) (fun z => m (.inr z))]
    exact e
  have isl : ∀ b, b = p ∨ b = c → ∃ xs, H b = some (.lst xs) := fun b z => z.elim (fun z => ⟨_, z ▸ old.hp⟩) fun z => ⟨_, z ▸ old.hc⟩
  have kp : Kp K N H H' := ⟨fun b o n e => keep b o (r.new b n).2 e, fun b xs e => by
    have ne : ∀ o, H b = some o → (∀ ys, o ≠ .lst ys) → H' b = some o := fun o e no => keep b o (fun z => by
      obtain ⟨ys, q⟩ := isl b z
      rw [e] at q
      exact no _ (Option.some.inj q)) e
    rcases e with (e | ⟨u, e⟩) | e
    · exact .inl (.inl (ne _ e fun _ z => nomatch z))
    · exact .inl (.inr ⟨u, ne _ e fun _ z => nomatch z⟩)
    · exact .inr e⟩
  refine ⟨{
    len := r.len
    dat := fun j d e => ?_
    own := fun j ds e => ?_
    sep := r.sep
    fix := r.fix
    old := fun b o e m => keep b o m (r.old b o e m)
    new := r.new
    has := fun b n => ?_
    mh := fun b m => m.elim (fun z => ⟨_, z ▸ hp.hp⟩) fun z => ⟨_, z ▸ hp.hc⟩
    j := ⟨N, fun _ h => h, cells, hp⟩ }, {
    keep := fun b o e m _ => keep b o m e
    own := fun b h => ⟨(r.ownA h).1, .inl h⟩
    dom := fun b h => ?_
    up := fun _ h => .inl h }⟩
  · obtain ⟨v, h1, h2⟩ := r.dat j d e
    exact ⟨v, h1, h2.mono kp fun _ h => h⟩
  · obtain ⟨a, ws, h1, h2, h3, h4, h5, h6⟩ := r.own j ds e
    exact ⟨a, ws, h1, keep a _ h6 h2, h3.mono kp fun _ h => h, h4, h5, h6⟩
  · have m := (r.new b n).2
    rw [off b (fun z => m (.inl z)) (fun z => m (.inr z))]
    exact r.has b n
  · by_cases z : b = p
    · rw [z, hp.hp]; exact fun q => nomatch q
    · by_cases y : b = c
      · rw [y, hp.hc]; exact fun q => nomatch q
      · rw [off b z y]; exact h
/-- what another did that drew -/
theorem Rep.drawn {σ : L2.St} {ρ : Env} {N N' : Addr → Prop} {H H' : Hp} {m : Nat} {cells : List Nat} (r : Rep (ctxD K H0 N0 p c i) σ ρ N H)
    (n1 : ∀ b, N b → N' b) (n2 : ∀ b, N' b → N b ∨ H b = none) (n3 : ∀ b, N' b → H' b ≠ none) (keep : SB2 p c H H') (hp : PurseAt H' p c cells m) :
    Rep (ctxD K H0 N0 p c i) σ ⟨ρ.sl, m⟩ N' H' ∧ Fr (ctxD K H0 N0 p c i) σ ρ N σ ⟨ρ.sl, m⟩ N' H H' := by
  obtain ⟨N1, _, cells0, old⟩ := r.j
  have nm : ∀ b, N' b → ¬ (b = p ∨ b = c) := fun b n z => by
    rcases n2 b n with y | y
    · exact (r.new b y).2 z
    · rcases z with z | z
      · rw [z, old.hp] at y; cases y
      · rw [z, old.hc] at y; cases y
  obtain ⟨r1, f1⟩ := r.after (H' := fun b => if b = p ∨ b = c then H b else H' b) ctxD_ok n1 n2 (fun b n => by
    show (if b = p ∨ b = c then H b else H' b) ≠ none
    rw [if_neg (nm b n)]
    exact n3 b n) (fun b o e => by
    show (if b = p ∨ b = c then H b else H' b) = some o
    by_cases z : b = p ∨ b = c
    · rw [if_pos z]; exact e
    · rw [if_neg z]; exact keep b o ⟨fun y => z (.inl y), fun y => z (.inr y)⟩ e)
  obtain ⟨r2, f2⟩ := r1.spent (H' := H') (m := m) (cells := cells) (fun b y z => by
    show H' b = (if b = p ∨ b = c then H b else H' b)
    rw [if_neg (fun q => q.elim y z)]) hp
  exact ⟨r2, f1.trans f2⟩
/-- a draw: any number below the bound -/
def wDraw (a : WE) : WE := fun ρ P => a ρ fun d ρ1 => match d with
  | .int o => 0 < o ∧ o ≤ 10 ^ 30 ∧ ρ1.went ≤ 100000000 ∧ ∀ r : Nat, (r : Int) < o → P (.int (r : Nat)) ⟨ρ1.sl, ρ1.went + 1⟩
  | _ => False
theorem fe_draw {t : TE} {a : WE} {E : XK} (h : FE (ctxD K H0 N0 p c i) t a) : FE (ctxD K H0 N0 p c i) (tCall (sp_law_draw K) [] E (tCons (tVar i) (tCons t tNil))) (wDraw a) := fun σ H ρ N Q P r w k => by
  refine ⟨.ref p, (r.fix i (List.mem_singleton.mpr rfl)).1, ?_⟩
  refine h σ H ρ N _ _ r w fun v H1 N1 ρ1 d w1 n1 f1 r1 hd => ?_
  cases hd <;> first | exact w1.elim | skip
  rename_i o
  obtain ⟨o1, o2, o3, w1⟩ := w1
  obtain ⟨N2, _, cells, hp⟩ := r1.j
  have eo : o = ((o.toNat : Nat) : Int) := (Int.toNat_of_nonneg (Int.le_of_lt o1)).symm
  refine ⟨p, c, cells, ρ1.went, o.toNat, by rw [List.append_nil]; show [V.ref p, V.int o] = [V.ref p, V.int _]; rw [← eo], hp, o3, by omega, by have : (o.toNat : Int) ≤ ((10 ^ 30 : Nat) : Int) := (by rw [← eo]; exact_mod_cast o2); exact_mod_cast this, fun H2 cells2 q kp hp2 lt => ?_⟩
  obtain ⟨r2, f2⟩ := r1.drawn (fun _ h => h) (fun _ h => .inl h) (fun b n => by
    have m := (r1.new b n).2
    cases e : H1 b with
    | none => exact absurd e (r1.has b n)
    | some u => rw [kp b u ⟨fun y => m (.inl y), fun y => m (.inr y)⟩ e]; exact fun z => nomatch z) kp hp2
  exact k _ H2 N1 _ (.int (q : Nat)) (w1 q (by omega)) n1 (f1.trans f2) r2 (.int _)
/-- the promise of a def that draws: f says what it tells, and how often it has drawn then -/
abbrev WP1 := List PyData → Nat → (PyData → Nat → Prop) → Prop
def spW (n : Nat) (f : WP1) (K : PySem.W.Frag) : Sp := fun vs H Q _ => ∃ (N : Addr → Prop) (p c : Addr) (cells : List Nat) (went : Nat) (ws : List V) (ds : List PyData) (P : PyData → Nat → Prop), vs = .ref p :: ws ∧ ds.length = n ∧ PurseAt H p c cells went ∧ ¬ N p ∧ ¬ N c ∧ Dns K H N ws ds ∧ (∀ b, N b → H b ≠ none) ∧ f ds went P ∧
  ∀ v H' N' z cells' went', P z went' → (∀ b, N b → N' b) → (∀ b, N' b → N b ∨ H b = none) → (∀ b, N' b → H' b ≠ none) → SB2 p c H H' → PurseAt H' p c cells' went' → Dn K H' N' v z → Q v H'
theorem spW_len {n : Nat} {f : WP1} {K : PySem.W.Frag} {vs : List V} {H : Hp} {Q : VK} {E : XK} (h : spW n f K vs H Q E) : vs.length = n + 1 := by
  obtain ⟨N, p, c, cells, went, ws, ds, P, rfl, l, _, _, _, t, _⟩ := h
  rw [List.length_cons, t.len, l]
def wCallW (n : Nat) (f : WP1) (a : WA) : WE := fun ρ P => a ρ fun ds ρ1 => ds.length = n ∧ f ds ρ1.went fun z m => P z ⟨ρ1.sl, m⟩
theorem fe_callW {n : Nat} {f : WP1} {t : TA} {a : WA} {E : XK} (h : FA (ctxD K H0 N0 p c i) t a) : FE (ctxD K H0 N0 p c i) (tCall (spW n f K) [] E (tCons (tVar i) t)) (wCallW n f a) := fun σ H ρ N Q P r w k => by
  refine ⟨.ref p, (r.fix i (List.mem_singleton.mpr rfl)).1, ?_⟩
  refine h σ H ρ N _ _ r w fun ws H1 N1 ρ1 ds w1 n1 f1 r1 hd => ?_
  obtain ⟨N2, _, cells, hp⟩ := r1.j
  refine ⟨N1, p, c, cells, ρ1.went, ws, ds, _, by rw [List.append_nil], w1.1, hp, fun z => (r1.new p z).2 (.inl rfl), fun z => (r1.new c z).2 (.inr rfl), hd, r1.has, w1.2, fun v H2 N3 z cells2 m pz m1 m2 m3 kp hp2 hz => ?_⟩
  obtain ⟨r2, f2⟩ := r1.drawn m1 m2 m3 kp hp2
  exact k v H2 N3 _ z pz (fun b h => m1 b (n1 b h)) (f1.trans f2) r2 hz
/-- what a body tells that may draw -/
def envW (went : Nat) (ds : List PyData) (m : Nat) : Env := ⟨.un :: (env0 ds m).sl, went⟩
def wBodyW (m : Nat) (W : WS) : WP1 := fun ds went P => W (envW went ds m) fun f => match f with
  | .nx ρ => P .none ρ.went
  | .rt d ρ => P d ρ.went
  | _ => False
theorem repW {H : Hp} {N : Addr → Prop} {cells : List Nat} {went m : Nat} {ws : List V} {ds : List PyData} (hp : PurseAt H p c cells went) (np : ¬ N p) (nc : ¬ N c) (tw : Dns K H N ws ds) (hN : ∀ b, N b → H b ≠ none) :
    Rep (ctxD K H N p c 0) (some (.ref p) :: (ws.map some ++ List.replicate m none)) (envW went ds m) N H := by
  have r := rep0 (n := m) tw hN
  refine {
    len := congrArg Nat.succ r.len
    dat := fun i d e => ?_
    own := fun i fs e => ?_
    sep := fun i j fs gs a _ e _ _ _ => ?_
    fix := fun q hq => ?_
    old := fun b o e _ => e
    new := fun b n => ⟨.inl n, fun z => z.elim (fun z => np (z ▸ n)) fun z => nc (z ▸ n)⟩
    has := hN
    mh := fun b z => z.elim (fun z => ⟨_, z ▸ hp.hp⟩) fun z => ⟨_, z ▸ hp.hc⟩
    j := ⟨N, fun _ h => h, cells, hp⟩ }
  · cases i with
    | zero => cases e
    | succ i => exact r.dat i d e
  · cases i with
    | zero => cases e
    | succ i => exact (env0_own (i := i) (ds := ds) (n := m) e).elim
  · cases i with
    | zero => cases e
    | succ i => exact env0_own (i := i) (ds := ds) (n := m) e
  · cases List.mem_singleton.mp hq
    exact ⟨rfl, rfl⟩
theorem body_W {t : TS} {W : WS} {n m : Nat} {H : Hp} {vs : List V} {Q : VK} {E : XK} {Nn : Nat} (h : ∀ N p c, FS (ctxD K H N p c 0) t W) (hs : spW n (wBodyW m W) K vs H Q E) (hm : Nn - (n + 1) = m) :
    t { nx := fun _ H' => Q .non H', rt := Q } (vs.map some ++ List.replicate (Nn - vs.length) none) H := by
  have hl := spW_len hs
  obtain ⟨N, p, c, cells, went, ws, ds, P, rfl, l, hp, np, nc, tw, hN, w, q⟩ := hs
  rw [hl, hm]
  have fin : ∀ {σ' ρ' N' H'}, Rep (ctxD K H N p c 0) σ' ρ' N' H' → (∀ b, N' b → N b ∨ H b = none) ∧ SB2 p c H H' ∧ ∃ cells', PurseAt H' p c cells' ρ'.went := fun {σ' ρ' N' H'} r => by
    obtain ⟨_, _, cells', hp'⟩ := r.j
    exact ⟨fun b n => (r.new b n).1, fun b o ne e => r.old b o e fun z => z.elim ne.1 ne.2, cells', hp'⟩
  refine h N p c _ _ H _ N _ (repW hp np nc tw hN) w {
    nx := fun σ' H' N' ρ' pr n1 f r => ?_
    rt := fun v H' N' ρ' σ' d pr n1 f r hd => ?_
    bk := fun σ' H' N' ρ' pr n1 f r => pr.elim
    ct := fun σ' H' N' ρ' pr n1 f r => pr.elim }
  · obtain ⟨g1, g2, cells', g3⟩ := fin r
    exact q .non H' N' .none cells' _ pr n1 g1 r.has g2 g3 .non
  · obtain ⟨g1, g2, cells', g3⟩ := fin r
    exact q v H' N' d cells' _ pr n1 g1 r.has g2 g3 hd
end WD
namespace WK
open PySem PySem.Spec PyProof.Rows L2 WD
section
variable {P : Program} {w : World} {K : PySem.W.Frag} {mg : Str → Option Value} {base : Heap}
abbrev s_law_mixed : Stmt := topS 68
theorem sc_law_mixed : FnScope ["_law_purse_here", "_law_some", "_law_left", "_law_found"] ["_law_purse_here", "_law_some"] (defScope s_law_mixed) := ⟨rfl, rfl, rfl, by decide +kernel, rfl, by decide +kernel, by decide +kernel⟩
def w_law_mixed : WS := (wSeq (wOwn [0] 2 (wListO (wCons (wVar 1) wNil)))
  (wSeq (wOwn [0] 3 (wLstO wNil))
  (wSeq (wWhile (wB (wNeNil 2)) (wDrop (wAppend 3 (wPopAt 2 (wDraw (wLenOwn 2))))))
  (wRet (wVar 3)))))
def f_law_mixed : WP1 := wBodyW 2 w_law_mixed
def sp_law_mixed (K : PySem.W.Frag) : Sp := spW 1 f_law_mixed K
theorem ok_law_mixed {f : Addr} {fd : FuncData} (F : Fun K "_law_mixed" "_law_mixed" s_law_mixed f fd) (m_len : mg "len" = none) (m_list : mg "list" = none) {f_law_draw : Addr} {fd_law_draw : FuncData} (c_law_draw : Cal P w K mg base CX0 1 f_law_draw fd_law_draw "_law_draw" ["_law_purse_here", "_law_out_of"] (sp_law_draw K)) : FnOk P w K mg base CX0 2 f fd ["_law_purse_here", "_law_some"] (sp_law_mixed K) := by
  refine F.ok sc_law_mixed (fun vs H Q E h => spW_len h) (fun cdv A outer s H vs Q E hr h => ?_)
  refine ⟨_, (pss_cons (ps_set (i := 2) sc_law_mixed.nd rfl (Or.inl rfl) (pe_callTy call_list_of (by rfl) m_list (by decide +kernel) (pa_cons (pv 1) pa_nil)))
        (pss_cons (ps_set (i := 3) sc_law_mixed.nd rfl (Or.inl rfl) (pe_lst pa_nil))
        (pss_cons (ps_while PassesOwn.never (pt_cmpR (op_neD hr.units) (pv 2) (pe_lst pa_nil) (nomark _)) (pss_one (ps_expr (pe_bm PySem.F.plainAttrs_list PySem.F.slot_list_append PySem.F.type_list_append mt_append (pv 3) (pa_cons (pe_bm PySem.F.plainAttrs_list PySem.F.slot_list_pop PySem.F.type_list_pop mt_popAt (pv 2) (pa_cons (pe_call c_law_draw.G (hr.mono (by decide)) (by rfl) c_law_draw.g c_law_draw.kp c_law_draw.b .nil pass0 (pa_cons (pv 0) (pa_cons (pe_callB call_len_seq (by rfl) m_len PySem.boot_len (pa_cons (pv 2) pa_nil)) pa_nil))) pa_nil)) pa_nil)))))
        (pss_one (ps_ret (pv 3)))))), ?_⟩
  refine body_W (m := 2) (W := w_law_mixed) (fun N p c => ?_) h rfl
  have ok := @ctxD_ok K H N p c 0
  exact (fs_seq (fs_own' (fo_list' ok (fa_cons fe_var fa_nil)))
        (fs_seq (fs_own' (fo_lst' ok fa_nil))
        (fs_seq (fs_while (ft_test (fe_neNil ok)) (fs_drop (fe_append ok (fe_popAt ok (fe_draw fe_lenOwn)))))
        (fs_ret fe_var))))
abbrev s_law_atom : Stmt := topS 70
theorem sc_law_atom : FnScope ["_law_purse_here"] ["_law_purse_here"] (defScope s_law_atom) := ⟨rfl, rfl, rfl, by decide +kernel, rfl, by decide +kernel, by decide +kernel⟩
def w_law_atom : WS := (wSeq (wIfS (wB (wOp fEq (wDraw (wK (.int 2))) (wK (.int 0)))) (wRet (wTup (wCons (wK (.str "num")) (wCons (wOp fIxL (wLst (wCons (wDraw (wK (.int 12))) (wCons (wDraw (wOp (f2C WK.CPowB fun i j => i ^ j.toNat) (wK (.int 10)) (wK (.int 12)))) wNil))) (wDraw (wK (.int 2)))) wNil)))) wNext)
  (wRet (wTup (wCons (wK (.str "truth")) (wCons (wOp fEq (wDraw (wK (.int 2))) (wK (.int 0))) wNil)))))
def f_law_atom : WP1 := wBodyW 0 w_law_atom
def sp_law_atom (K : PySem.W.Frag) : Sp := spW 0 f_law_atom K
theorem ok_law_atom {f : Addr} {fd : FuncData} (F : Fun K "_law_atom" "_law_atom" s_law_atom f fd) {f_law_draw : Addr} {fd_law_draw : FuncData} (c_law_draw : Cal P w K mg base CX0 1 f_law_draw fd_law_draw "_law_draw" ["_law_purse_here", "_law_out_of"] (sp_law_draw K)) : FnOk P w K mg base CX0 2 f fd ["_law_purse_here"] (sp_law_atom K) := by
  refine F.ok sc_law_atom (fun vs H Q E h => spW_len h) (fun cdv A outer s H vs Q E hr h => ?_)
  refine ⟨_, (pss_cons (ps_if (pt_cmpR op_eq (pe_call c_law_draw.G (hr.mono (by decide)) (by rfl) c_law_draw.g c_law_draw.kp c_law_draw.b .nil pass0 (pa_cons (pv 0) (pa_cons pe_int pa_nil))) pe_int (nomark _)) (pss_one (ps_ret (pe_tup (pa_cons pe_str (pa_cons (pe_ix (r := rIxL K) ix_list (pe_lst (pa_cons (pe_call c_law_draw.G (hr.mono (by decide)) (by rfl) c_law_draw.g c_law_draw.kp c_law_draw.b .nil pass0 (pa_cons (pv 0) (pa_cons pe_int pa_nil))) (pa_cons (pe_call c_law_draw.G (hr.mono (by decide)) (by rfl) c_law_draw.g c_law_draw.kp c_law_draw.b .nil pass0 (pa_cons (pv 0) (pa_cons (pe_op WK.op_powB pe_int pe_int) pa_nil))) pa_nil))) (pe_call c_law_draw.G (hr.mono (by decide)) (by rfl) c_law_draw.g c_law_draw.kp c_law_draw.b .nil pass0 (pa_cons (pv 0) (pa_cons pe_int pa_nil))) (fun _ _ => rfl)) pa_nil))))) pss_nil)
        (pss_one (ps_ret (pe_tup (pa_cons pe_str (pa_cons (pe_cmpR op_eq (pe_call c_law_draw.G (hr.mono (by decide)) (by rfl) c_law_draw.g c_law_draw.kp c_law_draw.b .nil pass0 (pa_cons (pv 0) (pa_cons pe_int pa_nil))) pe_int (nomark _)) pa_nil)))))), ?_⟩
  refine body_W (m := 0) (W := w_law_atom) (fun N p c => ?_) h rfl
  have ok := @ctxD_ok K H N p c 0
  exact (fs_seq (fs_if (ft_test (fe_op fr_eq (fe_draw fe_int) fe_int)) (fs_ret (fe_tup ok (fa_cons fe_str (fa_cons (fe_op fr_ixL' (fe_lst ok (fa_cons (fe_draw fe_int) (fa_cons (fe_draw (fe_op fr_rI fe_int fe_int)) fa_nil))) (fe_draw fe_int)) fa_nil)))) fs_next)
        (fs_ret (fe_tup ok (fa_cons fe_str (fa_cons (fe_op fr_eq (fe_draw fe_int) fe_int) fa_nil)))))
end
end WK
namespace WK
open PySem PySem.Spec PyProof.Rows L2 WD
section
variable {P : Program} {w : World} {K : PySem.W.Frag} {mg : Str → Option Value} {base : Heap}
abbrev s_law_end : Stmt := topS 71
theorem sc_law_end : FnScope ["_law_purse_here", "_law_some", "_law_way", "_law_sizes", "_law_signs", "_law_size", "_law_sign"] ["_law_purse_here", "_law_some"] (defScope s_law_end) := ⟨rfl, rfl, rfl, by decide +kernel, rfl, by decide +kernel, by decide +kernel⟩
def w_law_end : WS := (wSeq (wAsg (wDraw (wK (.int 5))) (wName [0] 2))
  (wSeq (wIfS (wOr (wB (wOp fEq (wVar 2) (wK (.int 0)))) (wB (wOp fEqD (wVar 1) (wLst wNil)))) (wRet (wCallW 0 f_law_atom wNil)) wNext)
  (wSeq (wIfS (wB (wOp fEq (wVar 2) (wK (.int 1)))) (wSeq (wOwn [0] 3 (wLstO (wCons (wDraw (wK (.int 4))) (wCons (wDraw (wK (.int 4))) wNil))))
  (wSeq (wIfS (wB (wOp fEq (wDraw (wK (.int 8))) (wK (.int 0)))) (wAsg (wOp (f2I fun i j => .int (i + j)) (wK (.int 50)) (wDraw (wK (.int 11)))) (wgSet 3 (wDraw (wK (.int 2))))) wNext)
  (wSeq (wAsg (wTell (wLc [0] (wItL (wVar 3)) (wName [0] 5) wYes (wJoin (wK (.str "")) (wTell (wLc [0] (wItR1 (wCons (wVar 5) wNil)) (wName [0] 6) wYes (wOp fIxS (wK (.str "01")) (wDraw (wK (.int 2)))) [6]))) [5])) (wName [0] 4))
  (wRet (wTup (wCons (wK (.str "beats")) (wCons (wOp fIxL (wVar 4) (wK (.int 0))) (wCons (wSlS (wOp fAddS (wOp fIxL (wVar 4) (wK (.int 1))) (wOp fIxS (wK (.str "01")) (wDraw (wK (.int 2))))) (wPart (wK (.int (-60)))) wNoP) wNil)))))))) wNext)
  (wRet (wTup (wCons (wK (.str "flow")) (wCons (wOp fIxL (wVar 1) (wDraw (wCB fLen (wCons (wVar 1) wNil)))) wNil)))))))
def f_law_end : WP1 := wBodyW 5 w_law_end
def sp_law_end (K : PySem.W.Frag) : Sp := spW 1 f_law_end K
theorem ok_law_end {f : Addr} {fd : FuncData} (F : Fun K "_law_end" "_law_end" s_law_end f fd) (m_len : mg "len" = none) (m_range : mg "range" = none) {f_law_draw : Addr} {fd_law_draw : FuncData} (c_law_draw : Cal P w K mg base CX0 1 f_law_draw fd_law_draw "_law_draw" ["_law_purse_here", "_law_out_of"] (sp_law_draw K)) {f_law_atom : Addr} {fd_law_atom : FuncData} (c_law_atom : Cal P w K mg base CX0 2 f_law_atom fd_law_atom "_law_atom" ["_law_purse_here"] (sp_law_atom K)) : FnOk P w K mg base CX0 3 f fd ["_law_purse_here", "_law_some"] (sp_law_end K) := by
  refine F.ok sc_law_end (fun vs H Q E h => spW_len h) (fun cdv A outer s H vs Q E hr h => ?_)
  refine ⟨_, (pss_cons (ps_set (i := 2) sc_law_end.nd rfl (Or.inl rfl) (pe_call c_law_draw.G (hr.mono (by decide)) (by rfl) c_law_draw.g c_law_draw.kp c_law_draw.b .nil pass0 (pa_cons (pv 0) (pa_cons pe_int pa_nil))))
        (pss_cons (ps_if (PW.pt (pw_or (pt_cmpR op_eq (pv 2) pe_int (nomark _)) (pw_or1 (pt_cmpR (op_eqD hr.units) (pv 1) (pe_lst pa_nil) (nomark _))))) (pss_one (ps_ret (pe_call c_law_atom.G (hr.mono (by decide)) (by rfl) c_law_atom.g c_law_atom.kp c_law_atom.b .nil pass0 (pa_cons (pv 0) pa_nil)))) pss_nil)
        (pss_cons (ps_if (pt_cmpR op_eq (pv 2) pe_int (nomark _)) (pss_cons (ps_set (i := 3) sc_law_end.nd rfl (Or.inl rfl) (pe_lst (pa_cons (pe_call c_law_draw.G (hr.mono (by decide)) (by rfl) c_law_draw.g c_law_draw.kp c_law_draw.b .nil pass0 (pa_cons (pv 0) (pa_cons pe_int pa_nil))) (pa_cons (pe_call c_law_draw.G (hr.mono (by decide)) (by rfl) c_law_draw.g c_law_draw.kp c_law_draw.b .nil pass0 (pa_cons (pv 0) (pa_cons pe_int pa_nil))) pa_nil))))
        (pss_cons (ps_if (pt_cmpR op_eq (pe_call c_law_draw.G (hr.mono (by decide)) (by rfl) c_law_draw.g c_law_draw.kp c_law_draw.b .nil pass0 (pa_cons (pv 0) (pa_cons pe_int pa_nil))) pe_int (nomark _)) (pss_one (ps_asg (pe_op op_add pe_int (pe_call c_law_draw.G (hr.mono (by decide)) (by rfl) c_law_draw.g c_law_draw.kp c_law_draw.b .nil pass0 (pa_cons (pv 0) (pa_cons pe_int pa_nil)))) (pg_sub (pv 3) (pe_call c_law_draw.G (hr.mono (by decide)) (by rfl) c_law_draw.g c_law_draw.kp c_law_draw.b .nil pass0 (pa_cons (pv 0) (pa_cons pe_int pa_nil))) set_list))) pss_nil)
        (pss_cons (ps_setLc (i := 4) (own := [("_law_size", 5)]) (g := gName 5) (by rfl) sc_law_end.nd rfl rfl (sw_true rfl rfl rfl (by decide +kernel)) (pi_list (pv 3)) (blkOk_by (N := ["_law_purse_here", "_law_some", "_law_way", "_law_sizes", "_law_signs", "_law_size", "_law_sign"]) (sc := defScope s_law_end) (by decide +kernel)) (fun _ _ _ _ _ => (pg_name (i := 5) sc_law_end.nd rfl (Or.inl rfl))) (fun _ _ _ _ _ => pts_nil) (fun _ _ _ _ _ => (pe_joinK (K := K) rfl pe_str (pe_lc (own := [("_law_sign", 6)]) (g := gName 6) (by rfl) sc_law_end.nd (pi_range1 (by rfl) m_range (pa_cons (pv 5) pa_nil)) (blkOk_by (N := ["_law_purse_here", "_law_some", "_law_way", "_law_sizes", "_law_signs", "_law_size", "_law_sign"]) (by rfl)) (fun _ _ _ _ _ => (pg_name (i := 6) sc_law_end.nd rfl (Or.inl rfl))) (fun _ _ _ _ _ => pts_nil) (fun _ _ _ _ _ => (pe_ix (r := rIxS) ix_str pe_str (pe_call c_law_draw.G (hr.mono (by decide)) (by rfl) c_law_draw.g c_law_draw.kp c_law_draw.b .nil pass0 (pa_cons (pv 0) (pa_cons pe_int pa_nil))) (fun _ _ => rfl)))))))
        (pss_one (ps_ret (pe_tup (pa_cons pe_str (pa_cons (pe_ix (r := rIxL K) ix_list (pv 4) pe_int (fun _ _ => rfl)) (pa_cons (pe_slice sl_str (pe_op op_add_str (pe_ix (r := rIxL K) ix_list (pv 4) pe_int (fun _ _ => rfl)) (pe_ix (r := rIxS) ix_str pe_str (pe_call c_law_draw.G (hr.mono (by decide)) (by rfl) c_law_draw.g c_law_draw.kp c_law_draw.b .nil pass0 (pa_cons (pv 0) (pa_cons pe_int pa_nil))) (fun _ _ => rfl))) (po_some (pe_un un_neg pe_int)) po_none) pa_nil))))))))) pss_nil)
        (pss_one (ps_ret (pe_tup (pa_cons pe_str (pa_cons (pe_ix (r := rIxL K) ix_list (pv 1) (pe_call c_law_draw.G (hr.mono (by decide)) (by rfl) c_law_draw.g c_law_draw.kp c_law_draw.b .nil pass0 (pa_cons (pv 0) (pa_cons (pe_callB call_len_seq (by rfl) m_len PySem.boot_len (pa_cons (pv 1) pa_nil)) pa_nil))) (fun _ _ => rfl)) pa_nil)))))))), ?_⟩
  refine body_W (m := 5) (W := w_law_end) (fun N p c => ?_) h rfl
  have ok := @ctxD_ok K H N p c 0
  exact (fs_seq (fs_asg (fe_draw fe_int) fg_name)
        (fs_seq (fs_if (ft_or (ft_test (fe_op fr_eq fe_var fe_int)) (ft_test (fe_op fr_eqD fe_var (fe_lst ok fa_nil)))) (fs_ret (fe_callW fa_nil)) fs_next)
        (fs_seq (fs_if (ft_test (fe_op fr_eq fe_var fe_int)) (fs_seq (fs_own' (fo_lst' ok (fa_cons (fe_draw fe_int) (fa_cons (fe_draw fe_int) fa_nil))))
        (fs_seq (fs_if (ft_test (fe_op fr_eq (fe_draw fe_int) fe_int)) (fs_asg (fe_op fr_add fe_int (fe_draw fe_int)) (fg_set ok (fe_draw fe_int))) fs_next)
        (fs_seq (fs_asg (fe_o (fo_lc (vs := [5]) ok (fi_list fe_var) fg_name (by decide) ft_yes (fe_join fe_str (fe_o (fo_lc (vs := [6]) ok (fi_range1 (fa_cons fe_var fa_nil)) fg_name (by decide) ft_yes (fe_op fr_ixS fe_str (fe_draw fe_int))))))) fg_name)
        (fs_ret (fe_tup ok (fa_cons fe_str (fa_cons (fe_op fr_ixL' fe_var fe_int) (fa_cons (fe_slS (fe_op fr_addS (fe_op fr_ixL' fe_var fe_int) (fe_op fr_ixS fe_str (fe_draw fe_int))) (fp_some fe_neg) fp_none) fa_nil)))))))) fs_next)
        (fs_ret (fe_tup ok (fa_cons fe_str (fa_cons (fe_op fr_ixL' fe_var (fe_draw (fe_cb fc_len (fa_cons fe_var fa_nil)))) fa_nil)))))))
end
end WK
namespace WK
open PySem PySem.Spec PyProof.Rows L2 WD
section
variable {P : Program} {w : World} {K : PySem.W.Frag} {mg : Str → Option Value} {base : Heap}
abbrev s_law_grown : Stmt := topS 72
theorem sc_law_grown : FnScope ["_law_purse_here", "_law_some", "_law_deep_here", "_law_way", "_law_one", "_law_other"] ["_law_purse_here", "_law_some", "_law_deep_here"] (defScope s_law_grown) := ⟨rfl, rfl, rfl, by decide +kernel, rfl, by decide +kernel, by decide +kernel⟩
def w_law_grown (g : WP1) : WS := (wSeq (wAsg (wDraw (wK (.int 16))) (wName [0] 3))
  (wSeq (wIfS (wOr (wB (wOp (f2I fun i j => .bool (decide (i < j))) (wVar 2) (wK (.int 1)))) (wOr (wB (wOp (f2I fun i j => .bool (decide (i < j))) (wVar 3) (wK (.int 3)))) (wB (wOp fEqD (wVar 1) (wLst wNil))))) (wRet (wCallW 1 f_law_end (wCons (wVar 1) wNil))) wNext)
  (wSeq (wAsg (wCallW 2 g (wCons (wVar 1) (wCons (wOp (f2I fun i j => .int (i - j)) (wVar 2) (wK (.int 1))) wNil))) (wName [0] 4))
  (wSeq (wIfS (wB (wOp fEq (wVar 3) (wK (.int 10)))) (wRet (wTup (wCons (wK (.str "not")) (wCons (wVar 4) wNil)))) wNext)
  (wSeq (wIfS (wB (wOp fEq (wVar 3) (wK (.int 11)))) (wRet (wTup (wCons (wK (.str "then")) (wCons (wCallW 0 f_law_atom wNil) (wCons (wVar 4) wNil))))) wNext)
  (wSeq (wIfS (wB (wOp fEq (wVar 3) (wK (.int 12)))) (wRet (wTup (wCons (wK (.str "when")) (wCons (wVar 4) (wCons (wOp fIxL (wVar 1) (wDraw (wCB fLen (wCons (wVar 1) wNil)))) (wCons (wOp fEq (wDraw (wK (.int 2))) (wK (.int 0))) wNil)))))) wNext)
  (wSeq (wAsg (wCallW 2 g (wCons (wVar 1) (wCons (wOp (f2I fun i j => .int (i - j)) (wVar 2) (wK (.int 1))) wNil))) (wName [0] 5))
  (wSeq (wIfS (wB (wOp fEq (wVar 3) (wK (.int 13)))) (wRet (wTup (wCons (wK (.str "merge")) (wCons (wOp fIxL (wVar 1) (wDraw (wCB fLen (wCons (wVar 1) wNil)))) (wCons (wVar 4) (wCons (wVar 5) wNil)))))) wNext)
  (wSeq (wIfS (wB (wOp (f2I fun i j => .bool (decide (j < i))) (wVar 3) (wK (.int 13)))) (wRet (wTup (wCons (wK (.str "pick")) (wCons (wVar 4) (wCons (wVar 5) (wCons (wCallW 2 g (wCons (wVar 1) (wCons (wOp (f2I fun i j => .int (i - j)) (wVar 2) (wK (.int 1))) wNil))) wNil)))))) wNext)
  (wRet (wTup (wCons (wOp fIxL (wLst (wCons (wK (.str "sum")) (wCons (wK (.str "less")) (wCons (wK (.str "times")) (wCons (wK (.str "below")) (wCons (wK (.str "same")) (wCons (wK (.str "both")) (wCons (wK (.str "either")) wNil)))))))) (wOp (f2I fun i j => .int (i - j)) (wVar 3) (wK (.int 3)))) (wCons (wVar 4) (wCons (wVar 5) wNil))))))))))))))
theorem st_law_grown {n : Nat} {g : WP1} {f : Addr} {fd : FuncData} (F : Fun K "_law_grown" "_law_grown" s_law_grown f fd) (m_len : mg "len" = none) {f_law_draw : Addr} {fd_law_draw : FuncData} (c_law_draw : Cal P w K mg base CX0 1 f_law_draw fd_law_draw "_law_draw" ["_law_purse_here", "_law_out_of"] (sp_law_draw K)) {f_law_end : Addr} {fd_law_end : FuncData} (c_law_end : Cal P w K mg base CX0 3 f_law_end fd_law_end "_law_end" ["_law_purse_here", "_law_some"] (sp_law_end K)) {f_law_atom : Addr} {fd_law_atom : FuncData} (c_law_atom : Cal P w K mg base CX0 2 f_law_atom fd_law_atom "_law_atom" ["_law_purse_here"] (sp_law_atom K)) {f_law_grown : Addr} {fd_law_grown : FuncData} (c_law_grown : Cal P w K mg base CX0 (n + 3) f_law_grown fd_law_grown "_law_grown" ["_law_purse_here", "_law_some", "_law_deep_here"] (spW 2 g K)) : FnOk P w K mg base CX0 (n + 3 + 1) f fd ["_law_purse_here", "_law_some", "_law_deep_here"] (spW 2 (wBodyW 3 (w_law_grown g)) K) := by
  refine F.ok sc_law_grown (fun vs H Q E h => spW_len h) (fun cdv A outer s H vs Q E hr h => ?_)
  refine ⟨_, (pss_cons (ps_set (i := 3) sc_law_grown.nd rfl (Or.inl rfl) (pe_call c_law_draw.G (hr.mono (by omega)) (by rfl) c_law_draw.g c_law_draw.kp c_law_draw.b .nil pass0 (pa_cons (pv 0) (pa_cons pe_int pa_nil))))
        (pss_cons (ps_if (PW.pt (pw_or (pt_cmpR op_lt (pv 2) pe_int (nomark _)) (pw_or (pt_cmpR op_lt (pv 3) pe_int (nomark _)) (pw_or1 (pt_cmpR (op_eqD hr.units) (pv 1) (pe_lst pa_nil) (nomark _)))))) (pss_one (ps_ret (pe_call c_law_end.G (hr.mono (by omega)) (by rfl) c_law_end.g c_law_end.kp c_law_end.b .nil pass0 (pa_cons (pv 0) (pa_cons (pv 1) pa_nil))))) pss_nil)
        (pss_cons (ps_set (i := 4) sc_law_grown.nd rfl (Or.inl rfl) (pe_call c_law_grown.G (hr.mono (by omega)) (by rfl) c_law_grown.g c_law_grown.kp c_law_grown.b .nil pass0 (pa_cons (pv 0) (pa_cons (pv 1) (pa_cons (pe_op op_sub (pv 2) pe_int) pa_nil)))))
        (pss_cons (ps_if (pt_cmpR op_eq (pv 3) pe_int (nomark _)) (pss_one (ps_ret (pe_tup (pa_cons pe_str (pa_cons (pv 4) pa_nil))))) pss_nil)
        (pss_cons (ps_if (pt_cmpR op_eq (pv 3) pe_int (nomark _)) (pss_one (ps_ret (pe_tup (pa_cons pe_str (pa_cons (pe_call c_law_atom.G (hr.mono (by omega)) (by rfl) c_law_atom.g c_law_atom.kp c_law_atom.b .nil pass0 (pa_cons (pv 0) pa_nil)) (pa_cons (pv 4) pa_nil)))))) pss_nil)
        (pss_cons (ps_if (pt_cmpR op_eq (pv 3) pe_int (nomark _)) (pss_one (ps_ret (pe_tup (pa_cons pe_str (pa_cons (pv 4) (pa_cons (pe_ix (r := rIxL K) ix_list (pv 1) (pe_call c_law_draw.G (hr.mono (by omega)) (by rfl) c_law_draw.g c_law_draw.kp c_law_draw.b .nil pass0 (pa_cons (pv 0) (pa_cons (pe_callB call_len_seq (by rfl) m_len PySem.boot_len (pa_cons (pv 1) pa_nil)) pa_nil))) (fun _ _ => rfl)) (pa_cons (pe_cmpR op_eq (pe_call c_law_draw.G (hr.mono (by omega)) (by rfl) c_law_draw.g c_law_draw.kp c_law_draw.b .nil pass0 (pa_cons (pv 0) (pa_cons pe_int pa_nil))) pe_int (nomark _)) pa_nil))))))) pss_nil)
        (pss_cons (ps_set (i := 5) sc_law_grown.nd rfl (Or.inl rfl) (pe_call c_law_grown.G (hr.mono (by omega)) (by rfl) c_law_grown.g c_law_grown.kp c_law_grown.b .nil pass0 (pa_cons (pv 0) (pa_cons (pv 1) (pa_cons (pe_op op_sub (pv 2) pe_int) pa_nil)))))
        (pss_cons (ps_if (pt_cmpR op_eq (pv 3) pe_int (nomark _)) (pss_one (ps_ret (pe_tup (pa_cons pe_str (pa_cons (pe_ix (r := rIxL K) ix_list (pv 1) (pe_call c_law_draw.G (hr.mono (by omega)) (by rfl) c_law_draw.g c_law_draw.kp c_law_draw.b .nil pass0 (pa_cons (pv 0) (pa_cons (pe_callB call_len_seq (by rfl) m_len PySem.boot_len (pa_cons (pv 1) pa_nil)) pa_nil))) (fun _ _ => rfl)) (pa_cons (pv 4) (pa_cons (pv 5) pa_nil))))))) pss_nil)
        (pss_cons (ps_if (pt_cmpR op_gt (pv 3) pe_int (nomark _)) (pss_one (ps_ret (pe_tup (pa_cons pe_str (pa_cons (pv 4) (pa_cons (pv 5) (pa_cons (pe_call c_law_grown.G (hr.mono (by omega)) (by rfl) c_law_grown.g c_law_grown.kp c_law_grown.b .nil pass0 (pa_cons (pv 0) (pa_cons (pv 1) (pa_cons (pe_op op_sub (pv 2) pe_int) pa_nil)))) pa_nil))))))) pss_nil)
        (pss_one (ps_ret (pe_tup (pa_cons (pe_ix (r := rIxL K) ix_list (pe_lst (pa_cons pe_str (pa_cons pe_str (pa_cons pe_str (pa_cons pe_str (pa_cons pe_str (pa_cons pe_str (pa_cons pe_str pa_nil)))))))) (pe_op op_sub (pv 3) pe_int) (fun _ _ => rfl)) (pa_cons (pv 4) (pa_cons (pv 5) pa_nil))))))))))))))), ?_⟩
  refine body_W (m := 3) (W := w_law_grown g) (fun N p c => ?_) h rfl
  have ok := @ctxD_ok K H N p c 0
  exact (fs_seq (fs_asg (fe_draw fe_int) fg_name)
        (fs_seq (fs_if (ft_or (ft_test (fe_op fr_lt fe_var fe_int)) (ft_or (ft_test (fe_op fr_lt fe_var fe_int)) (ft_test (fe_op fr_eqD fe_var (fe_lst ok fa_nil))))) (fs_ret (fe_callW (fa_cons fe_var fa_nil))) fs_next)
        (fs_seq (fs_asg (fe_callW (fa_cons fe_var (fa_cons (fe_op fr_sub fe_var fe_int) fa_nil))) fg_name)
        (fs_seq (fs_if (ft_test (fe_op fr_eq fe_var fe_int)) (fs_ret (fe_tup ok (fa_cons fe_str (fa_cons fe_var fa_nil)))) fs_next)
        (fs_seq (fs_if (ft_test (fe_op fr_eq fe_var fe_int)) (fs_ret (fe_tup ok (fa_cons fe_str (fa_cons (fe_callW fa_nil) (fa_cons fe_var fa_nil))))) fs_next)
        (fs_seq (fs_if (ft_test (fe_op fr_eq fe_var fe_int)) (fs_ret (fe_tup ok (fa_cons fe_str (fa_cons fe_var (fa_cons (fe_op fr_ixL' fe_var (fe_draw (fe_cb fc_len (fa_cons fe_var fa_nil)))) (fa_cons (fe_op fr_eq (fe_draw fe_int) fe_int) fa_nil)))))) fs_next)
        (fs_seq (fs_asg (fe_callW (fa_cons fe_var (fa_cons (fe_op fr_sub fe_var fe_int) fa_nil))) fg_name)
        (fs_seq (fs_if (ft_test (fe_op fr_eq fe_var fe_int)) (fs_ret (fe_tup ok (fa_cons fe_str (fa_cons (fe_op fr_ixL' fe_var (fe_draw (fe_cb fc_len (fa_cons fe_var fa_nil)))) (fa_cons fe_var (fa_cons fe_var fa_nil)))))) fs_next)
        (fs_seq (fs_if (ft_test (fe_op fr_gt fe_var fe_int)) (fs_ret (fe_tup ok (fa_cons fe_str (fa_cons fe_var (fa_cons fe_var (fa_cons (fe_callW (fa_cons fe_var (fa_cons (fe_op fr_sub fe_var fe_int) fa_nil))) fa_nil)))))) fs_next)
        (fs_ret (fe_tup ok (fa_cons (fe_op fr_ixL' (fe_lst ok (fa_cons fe_str (fa_cons fe_str (fa_cons fe_str (fa_cons fe_str (fa_cons fe_str (fa_cons fe_str (fa_cons fe_str fa_nil)))))))) (fe_op fr_sub fe_var fe_int)) (fa_cons fe_var (fa_cons fe_var fa_nil))))))))))))))
end
end WK
namespace WK
open PySem PySem.Spec PyProof.Rows L2 WD
/-- by n draws at most f tells a thing of G -/
def DrawsW (f : WP1) (ds : List PyData) (n : Nat) (G : PyData → Prop) : Prop := ∀ (w : Nat) (P : PyData → Nat → Prop), w + n ≤ 100000000 → (∀ z m, G z → m ≤ w + n → P z m) → f ds w P
theorem DrawsW.mono {f : WP1} {ds : List PyData} {n n2 : Nat} {G G2 : PyData → Prop} (h : DrawsW f ds n G) (l : n ≤ n2) (g : ∀ z, G z → G2 z) : DrawsW f ds n2 G2 := fun w P b q => h w P (by omega) fun z m gz hm => q z m (g z gz) (by omega)
theorem fine_strs {n : Nat} {xs : List Str} (h : ∀ x ∈ xs, PyData.strOk x = true) : FineD (n + 1) (.list (xs.map .str)) := fine_list fun d m => by
  obtain ⟨x, hx, rfl⟩ := List.mem_map.mp m
  exact ⟨rfl, by simp only [PyData.canLay0]; exact h x hx, Nat.zero_le _⟩
theorem noDicts_strs {xs : List Str} : noDicts (xs.map .str) = true := noDicts_of fun d m => by
  obtain ⟨x, hx, rfl⟩ := List.mem_map.mp m
  rfl
theorem map_erase : ∀ (l : List Str) (i : Nat), (l.map PyData.str).eraseIdx i = (l.eraseIdx i).map .str
  | [], _ => rfl
  | _ :: _, 0 => rfl
  | x :: l, i + 1 => by
    rw [List.map_cons, List.eraseIdx_cons_succ, List.eraseIdx_cons_succ, List.map_cons, map_erase l i]
theorem erase_perm : ∀ (l : List Str) (i : Nat) (h : i < l.length), (l[i] :: l.eraseIdx i).Perm l
  | x :: l, 0, _ => .refl _
  | x :: l, i + 1, h => by
    have ih := erase_perm l i (by rw [List.length_cons] at h; omega)
    rw [List.eraseIdx_cons_succ]
    exact (List.Perm.swap _ _ _).trans (ih.cons x)
theorem draws_mixed {xs : List Str} (h : ∀ x ∈ xs, PyData.strOk x = true) (hl : xs.length ≤ 1000) : DrawsW f_law_mixed [.list (xs.map .str)] xs.length (fun z => ∃ ys : List Str, z = .list (ys.map .str) ∧ ys.Perm xs) := fun w P hw q => by
  have t30 : (10 : Int) ^ 30 = 1000000000000000000000000000000 := by decide
  refine ⟨rfl, by show 2 < 4; decide, by decide, rfl, by show 3 < 4; decide, ?_⟩
  refine ⟨fun m ρ => ∃ l f : List Str, ρ = ⟨[.un, .dat (.list (xs.map .str)), .own (l.map .str), .own (f.map .str)], w + f.length⟩ ∧ (f ++ l).Perm xs ∧ l.length = m, ⟨xs.length, xs, [], rfl, .refl _, rfl⟩, ?_⟩
  rintro m ρ ⟨l, f, rfl, hp, rfl⟩
  have hlen : f.length + l.length = xs.length := by rw [← List.length_append]; exact hp.length_eq
  have hs : ∀ x ∈ l, PyData.strOk x = true := fun x m => h x (hp.mem_iff.mp (List.mem_append.mpr (.inr m)))
  refine ⟨_, rfl, noDicts_strs, (fine_strs (n := 0) hs).shaped (by decide), ?_⟩
  cases l with
  | nil =>
    rw [List.append_nil] at hp
    exact q (.list (f.map .str)) _ ⟨f, rfl, hp⟩ (by rw [List.length_nil] at hlen; show w + f.length ≤ w + xs.length; omega)
  | cons y l =>
    rw [List.length_cons] at hlen
    refine ⟨rfl, rfl, (y :: l).map .str, rfl, ?_⟩
    refine ⟨by rw [List.length_map, List.length_cons]; omega, by rw [List.length_map, List.length_cons, t30]; omega, by show w + f.length ≤ 100000000; omega, fun r hr => ?_⟩
    have hr : r < (y :: l).length := by rw [List.length_map] at hr; omega
    refine ⟨(y :: l).map .str, r, .str (y :: l)[r], rfl, rfl, by rw [List.getElem?_map, List.getElem?_eq_getElem hr]; rfl, by rw [List.length_map, List.length_cons]; omega, ?_⟩
    refine ⟨f.map .str, rfl, by rw [List.length_map]; omega, ?_⟩
    have e := erase_perm (y :: l) r hr
    have le : ((y :: l).eraseIdx r).length + 1 = (y :: l).length := by
      have := e.length_eq
      rwa [List.length_cons] at this
    refine ⟨((y :: l).eraseIdx r).length, by omega, (y :: l).eraseIdx r, f ++ [(y :: l)[r]], ?_, ?_, rfl⟩
    · show (⟨[.un, .dat (.list (xs.map .str)), .own (((y :: l).map PyData.str).eraseIdx r), .own (f.map .str ++ [.str (y :: l)[r]])], w + f.length + 1⟩ : WD.Env) = _
      rw [map_erase, List.map_append, List.length_append]
      rfl
    · rw [List.append_assoc]
      exact (e.append_left f).trans hp
theorem two_cases {r : Nat} (h : (r : Int) < 2) : r = 0 ∨ r = 1 := by omega
theorem draws_atom : DrawsW f_law_atom [] 4 Atom := fun w P hw q => by
  have t30 : (10 : Int) ^ 30 = 1000000000000000000000000000000 := by decide
  have t12 : (10 : Int) ^ (12 : Int).toNat = 1000000000000 := by decide
  refine ⟨by decide, by decide, by show w ≤ 100000000; omega, fun r hr => ⟨_, rfl, ?_⟩⟩
  rcases two_cases hr with rfl | rfl
  · refine ⟨by decide, by decide, by show w + 1 ≤ 100000000; omega, fun a ha => ⟨⟨by decide, by decide +kernel⟩, ?_⟩⟩
    refine ⟨by show (0 : Int) < 10 ^ (12 : Int).toNat; rw [t12]; decide, by show (10 : Int) ^ (12 : Int).toNat ≤ _; rw [t12]; decide, by show w + 1 + 1 ≤ 100000000; omega, fun b hb => ?_⟩
    have hb : (b : Int) < 10 ^ (12 : Int).toNat := hb
    rw [t12] at hb
    refine ⟨by show 2 ≤ 16777216; decide, by decide, by decide, by show w + 1 + 1 + 1 ≤ 100000000; omega, fun c hc => ?_⟩
    rcases two_cases hc with rfl | rfl
    · exact ⟨_, rfl, by show 2 ≤ 16777216; decide, q _ _ (.num (Int.natCast_nonneg _) (Int.lt_of_lt_of_le (b := 1000000000000) (by omega) (by decide))) (by show w + 1 + 1 + 1 + 1 ≤ _; omega)⟩
    · exact ⟨_, rfl, by show 2 ≤ 16777216; decide, q _ _ (.num (Int.natCast_nonneg _) (Int.lt_of_lt_of_le (b := 1000000000000) (by omega) (by decide))) (by show w + 1 + 1 + 1 + 1 ≤ _; omega)⟩
  · refine ⟨by decide, by decide, by show w + 1 ≤ 100000000; omega, fun a ha => ⟨_, rfl, by show 2 ≤ 16777216; decide, ?_⟩⟩
    exact q _ _ (.truth _) (by show w + 1 + 1 ≤ _; omega)
end WK
namespace WK
open PySem PySem.Spec PyProof.Rows L2 WD
/-! texts of drawn signs -/
abbrev chD (c : Nat) : PyData := .str ⟨#[c]⟩
theorem txD_ch : ∀ cs : List Nat, txD (cs.map chD) = some ((cs.map fun c => [c]).map SX.S)
  | [] => rfl
  | c :: cs => by
    rw [List.map_cons]
    unfold txD
    rw [txD_ch cs]
    rfl
theorem joinL_ones : ∀ cs : List Nat, TL.joinL [] (cs.map fun c => [c]) = cs
  | [] => rfl
  | [c] => rfl
  | c :: d :: cs => by
    have := joinL_ones (d :: cs)
    show [c] ++ ([] ++ TL.joinL [] ((d :: cs).map fun c => [c])) = _
    rw [this]
    rfl
theorem nilS : ("" : Str) = SX.S [] := by decide +kernel
theorem join_ch (cs : List Nat) : Txt.join ("" : Str) ((cs.map fun c => [c]).map SX.S) = SX.S cs := by
  rw [nilS, SX.join_S, joinL_ones]
theorem sum_ones : ∀ cs : List Nat, (((cs.map fun c => [c]).map SX.S).map (·.length)).sum = cs.length
  | [] => rfl
  | c :: cs => by
    rw [List.map_cons, List.map_cons, List.map_cons, List.sum_cons, sum_ones cs, List.length_cons, SX.S_len, List.length_cons, List.length_nil]
    omega
theorem at01 {r : Nat} (h : (r : Int) < 2) : ∃ c, atI ("01" : Str).cps.toList (r : Int) = some c ∧ (c = 48 ∨ c = 49) := by
  rcases two_cases h with rfl | rfl
  · exact ⟨48, by decide +kernel, .inl rfl⟩
  · exact ⟨49, by decide +kernel, .inr rfl⟩
abbrev en7W (a b c d e f g : En) (w : Nat) : WD.Env := ⟨[a, b, c, d, e, f, g], w⟩
theorem comp_drawn {A : Str} {o : Int} {ok : Nat → Prop} (hA : A.length ≤ 16777216) (o1 : 0 < o) (o2 : o ≤ 10 ^ 30) (hk : ∀ r : Nat, (r : Int) < o → ∃ c, atI A.cps.toList (r : Int) = some c ∧ ok c) {a b c d e f : En} {P : List PyData → WD.Env → Prop} : ∀ (ds : List PyData) (cs : List Nat) (w : Nat), (∀ x ∈ cs, ok x) → cs.length + ds.length ≤ 1000 → w + ds.length ≤ 100000000 →
    (∀ cs2 : List Nat, (∀ x ∈ cs2, ok x) → cs2.length = cs.length + ds.length → P (cs2.map chD) (en7W a b c d e f .un (w + ds.length))) →
    wComp (wName [0] 6) wYes (wOp fIxS (wK (.str A)) (wDraw (wK (.int o)))) [6] ds [a, b, c, d, e, f, .un] w (cs.map chD) P
  | [], cs, w, h, _, _, q => q cs h (by rw [List.length_nil, Nat.add_zero])
  | x :: ds, cs, w, h, l, hw, q => by
    rw [List.length_cons] at l hw
    refine ⟨rfl, by show 6 < 7; decide, o1, o2, by show w ≤ 100000000; omega, fun r hr => ?_⟩
    obtain ⟨k, hk2, ho⟩ := hk r hr
    refine ⟨hA, k, hk2, rfl, by rw [List.length_map]; omega, ?_⟩
    have e1 : cs.map chD ++ [PyData.str ⟨#[k]⟩] = (cs ++ [k]).map chD := by rw [List.map_append]; rfl
    rw [e1]
    refine comp_drawn hA o1 o2 hk ds (cs ++ [k]) (w + 1) (fun y hy => ?_) (by rw [List.length_append]; simp only [List.length_cons, List.length_nil]; omega) (by omega) fun cs2 h2 l2 => ?_
    · rcases List.mem_append.mp hy with hy | hy
      · exact h y hy
      · rw [List.mem_singleton.mp hy]; exact ho
    · have := q cs2 h2 (by rw [l2, List.length_append, List.length_cons]; simp only [List.length_cons, List.length_nil]; omega)
      rw [List.length_cons] at this
      rw [show w + 1 + ds.length = w + (ds.length + 1) by omega]
      exact this
theorem len01 : ("01" : Str).length ≤ 16777216 := by decide +kernel
/-- the text of n drawn signs -/
theorem join_ones {a b c d e : En} {n w : Nat} {P : PyData → WD.Env → Prop} (hn : n ≤ 100) (hw : w + n ≤ 100000000)
    (q : ∀ cs : List Nat, (∀ x ∈ cs, x = 48 ∨ x = 49) → cs.length = n → P (.str (SX.S cs)) (en7W a b c d e (.dat (.int (n : Nat))) .un (w + n))) :
    wJoin (wK (.str "")) (wTell (wLc [0] (wItR1 (wCons (wVar 5) wNil)) (wName [0] 6) wYes (wOp fIxS (wK (.str "01")) (wDraw (wK (.int 2)))) [6])) (en7W a b c d e (.dat (.int (n : Nat))) .un w) P := by
  refine ⟨by omega, by omega, ⟨rfl, rfl⟩, ?_⟩
  have lu : (upFrom 0 ((n : Nat) : Int).toNat).length = n := by rw [upFrom_len]; omega
  refine comp_drawn (ok := fun c => c = 48 ∨ c = 49) len01 (by decide) (by decide) (fun _ => at01) (upFrom 0 ((n : Nat) : Int).toNat) [] w (fun _ h => by cases h) (by rw [List.length_nil, lu]; omega) (by rw [lu]; exact hw) fun cs h l => ?_
  rw [lu, List.length_nil, Nat.zero_add] at l
  rw [lu]
  refine ⟨_, txD_ch cs, ?_, ?_⟩
  · rw [sum_ones, show ("" : Str).length = 0 by decide +kernel]
    omega
  · rw [join_ch]
    exact q cs h l
theorem ones_in {c : Nat} (h : c = 48 ∨ c = 49) : ("01" : Str).cps.contains c = true := by
  rcases h with rfl | rfl <;> decide +kernel
theorem signs_S {cs : List Nat} (h : ∀ x ∈ cs, x = 48 ∨ x = 49) (l : cs.length ≤ 60) : SignsS (SX.S cs) := ⟨by rw [SX.S_len]; exact l, fun c hc => ones_in (h c (by simpa using hc))⟩
/-- the last sixty signs -/
theorem last_sixty {cs : List Nat} (h : ∀ x ∈ cs, x = 48 ∨ x = 49) (l0 : 1 ≤ cs.length) : SignsS (cutS (SX.S cs) (some (-60)) none) ∧ 1 ≤ (cutS (SX.S cs) (some (-60)) none).length := by
  have e1 : HT.sIx (SX.S cs).length 0 (some (-60)) = cs.length - 60 := by
    rw [SX.S_len]
    show (if (-60 : Int) < 0 then ((-60 : Int) + (cs.length : Int)).toNat else min (-60 : Int).toNat cs.length) = _
    rw [if_pos (by decide)]
    omega
  have e2 : cutS (SX.S cs) (some (-60)) none = SX.S ((cs.drop (cs.length - 60)).take (cs.length - (cs.length - 60))) := by
    unfold cutS
    rw [e1, HT.sIx_none, SX.S_len]
  rw [e2]
  refine ⟨signs_S (fun x hx => h x (List.mem_of_mem_drop (List.mem_of_mem_take hx))) ?_, ?_⟩
  · rw [List.length_take, List.length_drop]
    omega
  · rw [SX.S_len, List.length_take, List.length_drop]
    omega
/-- an expression without parts -/
def EndD (ks : List Str) (e : PyData) : Prop := ∀ m, Exq ks m 1 e 1
theorem yes_step {c : WE} {ρ : WD.Env} {R : PyData → WD.Env → Prop} {E : WD.Env → Prop} (h : c ρ R) : wYes ρ (fun k ρ3 => if k = true then c ρ3 R else E ρ3) := by
  show (if true = true then c ρ R else E ρ)
  rw [if_pos rfl]
  exact h
theorem draws_end {ks fl : List Str} (hs : ∀ x ∈ fl, NameS x ∧ x ∈ ks) (hl : fl.length ≤ 1000) : DrawsW f_law_end [.list (fl.map .str)] 200 (EndD ks) := fun w P hw q => by
  have t30 : (10 : Int) ^ 30 = 1000000000000000000000000000000 := by decide
  have fin : FineD 1 (.list (fl.map .str)) := fine_strs (n := 0) fun x hx => strOk_name (hs x hx).1
  refine ⟨by decide, by decide, by show w ≤ 100000000; omega, fun way hway => ⟨rfl, by show 2 < 7; decide, ?_⟩⟩
  have atom : (wRet (wCallW 0 f_law_atom wNil)) (en7W .un (.dat (.list (fl.map .str))) (.dat (.int (way : Nat))) .un .un .un .un (w + 1)) (fun f => match f with
      | .nx ρ => P .none ρ.went
      | .rt d ρ => P d ρ.went
      | _ => False) := by
    refine ⟨rfl, draws_atom (w + 1) _ (by omega) fun z m hz hm => ?_⟩
    exact q z m (fun mm => .atom hz) (by omega)
  refine ⟨_, rfl, ?_⟩
  by_cases h0 : (way : Int) = 0
  · show (if decide ((way : Int) = 0) = true then _ else _)
    rw [decide_eq_true h0]
    exact atom
  show (if decide ((way : Int) = 0) = true then _ else _)
  rw [decide_eq_false h0, if_neg (by decide)]
  refine ⟨by decide, fin.1, rfl, fin.shaped (by decide), by decide +kernel, ?_⟩
  have eeq : PyData.eqv (.list (fl.map .str)) (.list []) = fl.isEmpty := by
    cases fl <;> simp [PyData.eqv, PyData.eqvAll]
  rw [eeq]
  by_cases hne : fl.isEmpty = true
  · rw [hne]
    exact atom
  rw [Bool.eq_false_iff.mpr hne]
  refine ⟨_, rfl, ?_⟩
  by_cases h1 : (way : Int) = 1
  · show (if decide ((way : Int) = 1) = true then _ else _)
    rw [decide_eq_true h1]
    refine ⟨by decide, by decide, by show w + 1 ≤ 100000000; omega, fun a ha => ?_⟩
    refine ⟨by decide, by decide, by show w + 1 + 1 ≤ 100000000; omega, fun b hb => ?_⟩
    refine ⟨by show 2 ≤ 16777216; decide, rfl, by show 3 < 7; decide, ?_⟩
    refine ⟨by decide, by decide, by show w + 1 + 1 + 1 ≤ 100000000; omega, fun c hc => ⟨_, rfl, ?_⟩⟩
    have go : ∀ (a b w2 : Nat), a ≤ 60 → b ≤ 60 → w2 ≤ w + 6 → (wSeq (wAsg (wTell (wLc [0] (wItL (wVar 3)) (wName [0] 5) wYes (wJoin (wK (.str "")) (wTell (wLc [0] (wItR1 (wCons (wVar 5) wNil)) (wName [0] 6) wYes (wOp fIxS (wK (.str "01")) (wDraw (wK (.int 2)))) [6]))) [5])) (wName [0] 4))
        (wRet (wTup (wCons (wK (.str "beats")) (wCons (wOp fIxL (wVar 4) (wK (.int 0))) (wCons (wSlS (wOp fAddS (wOp fIxL (wVar 4) (wK (.int 1))) (wOp fIxS (wK (.str "01")) (wDraw (wK (.int 2))))) (wPart (wK (.int (-60)))) wNoP) wNil))))))
        (en7W .un (.dat (.list (fl.map .str))) (.dat (.int (way : Nat))) (.own [.int (a : Nat), .int (b : Nat)]) .un .un .un w2) (fun f => match f with
          | .nx ρ => P .none ρ.went
          | .rt d ρ => P d ρ.went
          | _ => False) := fun a b w2 ha hb hw2 => by
      refine ⟨⟨rfl, rfl⟩, rfl, by show 5 < 7; decide, ?_⟩
      refine yes_step (join_ones (n := a) (w := w2) (by omega) (by omega) fun cs hcs lcs => ?_)
      refine ⟨rfl, by show 0 < 16777216; decide, rfl, by show 5 < 7; decide, ?_⟩
      refine yes_step (join_ones (n := b) (w := w2 + a) (by omega) (by omega) fun ds hds lds => ?_)
      refine ⟨rfl, by show 1 < 16777216; decide, rfl, by show 4 < 7; decide, ?_⟩
      refine ⟨.str (SX.S cs), rfl, .str (SX.S ds), rfl, by decide, by decide, by show w2 + a + b ≤ 100000000; omega, fun r hr => ?_⟩
      obtain ⟨k, hk, ho⟩ := at01 hr
      refine ⟨by decide +kernel, k, hk, ?_⟩
      have e1 : SX.S ds ++ (⟨#[k]⟩ : Str) = SX.S (ds ++ [k]) := SX.S_cat ds [k]
      have hm : ∀ x ∈ ds ++ [k], x = 48 ∨ x = 49 := fun y hy => by
        rcases List.mem_append.mp hy with hy | hy
        · exact hds y hy
        · rw [List.mem_singleton.mp hy]; exact ho
      refine ⟨by rw [SX.S_len]; show ds.length + 1 ≤ 16777216; omega, ?_⟩
      rw [e1]
      obtain ⟨g1, g2⟩ := last_sixty hm (by rw [List.length_append]; simp only [List.length_cons, List.length_nil]; omega)
      refine ⟨by rw [SX.S_len, List.length_append]; simp only [List.length_cons, List.length_nil]; omega, by show 3 ≤ 16777216; decide, ?_⟩
      exact q _ _ (fun m => .beats (signs_S hcs (by omega)) g1 g2) (by show w2 + a + b + 1 ≤ _; omega)
    by_cases hc0 : (c : Int) = 0
    · rw [decide_eq_true hc0]
      refine ⟨by decide, by decide, by show w + 1 + 1 + 1 + 1 ≤ 100000000; omega, fun x hx => ?_⟩
      refine ⟨rfl, by decide, by decide, by show w + 1 + 1 + 1 + 1 + 1 ≤ 100000000; omega, fun y hy => ?_⟩
      rcases two_cases hy with rfl | rfl
      · refine ⟨_, 0, rfl, rfl, ?_⟩
        have := go (50 + x) b (w + 1 + 1 + 1 + 1 + 1 + 1) (by omega) (by omega) (by omega)
        rw [show ((50 + x : Nat) : Int) = 50 + (x : Int) by omega] at this
        exact this
      · refine ⟨_, 1, rfl, rfl, ?_⟩
        have := go a (50 + x) (w + 1 + 1 + 1 + 1 + 1 + 1) (by omega) (by omega) (by omega)
        rw [show ((50 + x : Nat) : Int) = 50 + (x : Int) by omega] at this
        exact this
    · rw [decide_eq_false hc0]
      exact go a b (w + 1 + 1 + 1 + 1) (by omega) (by omega) (by omega)
  · show (if decide ((way : Int) = 1) = true then _ else _)
    rw [decide_eq_false h1, if_neg (by decide)]
    cases fl with
    | nil => exact absurd rfl hne
    | cons s0 sr =>
      refine ⟨by rw [List.length_map, List.length_cons]; omega, by rw [List.length_map, List.length_cons]; rw [List.length_cons] at hl; omega, by show w + 1 ≤ 100000000; omega, fun r hr => ?_⟩
      have hr : r < (s0 :: sr).length := by rw [List.length_map] at hr; omega
      refine ⟨.str (s0 :: sr)[r], atI_nat (by rw [List.getElem?_map, List.getElem?_eq_getElem hr]; rfl), by show 2 ≤ 16777216; decide, ?_⟩
      obtain ⟨g1, g2⟩ := hs _ (List.getElem_mem hr)
      exact q _ _ (fun m => .flow (by rw [inD_keys]; exact decide_eq_true g2) g1) (by show w + 1 + 1 ≤ _; omega)
end WK
namespace WK
open PySem PySem.Spec PyProof.Rows L2 WD
/-- an expression of depth below n is grown -/
def grownB : Nat → WP1
  | 0 => fun _ _ _ => False
  | n + 1 => wBodyW 3 (w_law_grown (grownB n))
def f_law_grown : WP1 := grownB 5
def sp_law_grown (K : PySem.W.Frag) : Sp := spW 2 f_law_grown K
section
variable {P : Program} {w : World} {K : PySem.W.Frag} {mg : Str → Option Value} {base : Heap}
theorem grown_all {f : Addr} {fd : FuncData} (hf : mg "_law_grown" = some (.ref f)) (F : Fun K "_law_grown" "_law_grown" s_law_grown f fd) (m_len : mg "len" = none) {f_law_draw : Addr} {fd_law_draw : FuncData} (c_law_draw : Cal P w K mg base CX0 1 f_law_draw fd_law_draw "_law_draw" ["_law_purse_here", "_law_out_of"] (sp_law_draw K)) {f_law_end : Addr} {fd_law_end : FuncData} (c_law_end : Cal P w K mg base CX0 3 f_law_end fd_law_end "_law_end" ["_law_purse_here", "_law_some"] (sp_law_end K)) {f_law_atom : Addr} {fd_law_atom : FuncData} (c_law_atom : Cal P w K mg base CX0 2 f_law_atom fd_law_atom "_law_atom" ["_law_purse_here"] (sp_law_atom K)) :
    ∀ n, FnOk P w K mg base CX0 (n + 3) f fd ["_law_purse_here", "_law_some", "_law_deep_here"] (spW 2 (grownB n) K)
  | 0 => ⟨fun _ _ _ _ h => (by obtain ⟨_, _, _, _, _, _, _, _, _, _, _, _, _, _, _, e, _⟩ := h; exact e.elim), fun _ _ _ _ _ _ _ _ _ _ _ _ _ h => (by obtain ⟨_, _, _, _, _, _, _, _, _, _, _, _, _, _, _, e, _⟩ := h; exact e.elim)⟩
  | n + 1 => st_law_grown F m_len c_law_draw c_law_end c_law_atom (f_law_grown := f) (fd_law_grown := fd) ⟨grown_all hf F m_len c_law_draw c_law_end c_law_atom n, hf, F.kp, F.binds (ps := ["_law_purse_here", "_law_some", "_law_deep_here"]) fun _ _ _ _ _ _ us hl => match us, hl with | [_, _, _], _ => rfl⟩
theorem ok_law_grown {f : Addr} {fd : FuncData} (hf : mg "_law_grown" = some (.ref f)) (F : Fun K "_law_grown" "_law_grown" s_law_grown f fd) (m_len : mg "len" = none) {f_law_draw : Addr} {fd_law_draw : FuncData} (c_law_draw : Cal P w K mg base CX0 1 f_law_draw fd_law_draw "_law_draw" ["_law_purse_here", "_law_out_of"] (sp_law_draw K)) {f_law_end : Addr} {fd_law_end : FuncData} (c_law_end : Cal P w K mg base CX0 3 f_law_end fd_law_end "_law_end" ["_law_purse_here", "_law_some"] (sp_law_end K)) {f_law_atom : Addr} {fd_law_atom : FuncData} (c_law_atom : Cal P w K mg base CX0 2 f_law_atom fd_law_atom "_law_atom" ["_law_purse_here"] (sp_law_atom K)) :
    FnOk P w K mg base CX0 8 f fd ["_law_purse_here", "_law_some", "_law_deep_here"] (sp_law_grown K) := grown_all hf F m_len c_law_draw c_law_end c_law_atom 5
end
end WK
namespace WK
open PySem PySem.Spec PyProof.Rows L2 WD
section
variable {P : Program} {w : World} {K : PySem.W.Frag} {mg : Str → Option Value} {base : Heap}
abbrev s_law_whole_row : Stmt := topS 73
theorem sc_law_whole_row : FnScope ["_law_purse_here", "_law_some", "_law_deep_here", "_law_targets", "_law_parts_here", "_law_k"] ["_law_purse_here", "_law_some", "_law_deep_here", "_law_targets"] (defScope s_law_whole_row) := ⟨rfl, rfl, rfl, by decide +kernel, rfl, by decide +kernel, by decide +kernel⟩
def w_law_whole_row : WS := (wSeq (wIfS (wOr (wB (wOp (f2I fun i j => .bool (decide (j < i))) (wCB fLen (wCons (wVar 3) wNil)) (wK (.int 1)))) (wB (wOp fEq (wDraw (wK (.int 6))) (wK (.int 0))))) (wSeq (wAsg (wTell (wLc [0] (wItR1 (wCons (wDraw (wK (.int 4))) wNil)) (wName [0] 5) wYes (wCallW 2 f_law_grown (wCons (wVar 1) (wCons (wOp (f2I fun i j => .int (i - j)) (wVar 2) (wK (.int 1))) wNil))) [5])) (wName [0] 4))
  (wRet (wTup (wCons (wK (.str "call")) (wCons (wOp fIxL (wLst (wCons (wK (.str "sub")) (wCons (wK (.str "a")) (wCons (wK (.str "gain")) (wCons (wOp fIxL (wVar 1) (wK (.int 0))) wNil))))) (wDraw (wK (.int 4)))) (wCons (wVar 4) wNil)))))) wNext)
  (wRet (wCallW 2 f_law_grown (wCons (wVar 1) (wCons (wVar 2) wNil)))))
def f_law_whole_row : WP1 := wBodyW 2 w_law_whole_row
def sp_law_whole_row (K : PySem.W.Frag) : Sp := spW 3 f_law_whole_row K
theorem ok_law_whole_row {f : Addr} {fd : FuncData} (F : Fun K "_law_whole_row" "_law_whole_row" s_law_whole_row f fd) (m_len : mg "len" = none) (m_range : mg "range" = none) {f_law_draw : Addr} {fd_law_draw : FuncData} (c_law_draw : Cal P w K mg base CX0 1 f_law_draw fd_law_draw "_law_draw" ["_law_purse_here", "_law_out_of"] (sp_law_draw K)) {f_law_grown : Addr} {fd_law_grown : FuncData} (c_law_grown : Cal P w K mg base CX0 8 f_law_grown fd_law_grown "_law_grown" ["_law_purse_here", "_law_some", "_law_deep_here"] (sp_law_grown K)) : FnOk P w K mg base CX0 9 f fd ["_law_purse_here", "_law_some", "_law_deep_here", "_law_targets"] (sp_law_whole_row K) := by
  refine F.ok sc_law_whole_row (fun vs H Q E h => spW_len h) (fun cdv A outer s H vs Q E hr h => ?_)
  refine ⟨_, (pss_cons (ps_if (PW.pt (pw_or (pt_cmpR op_gt (pe_callB call_len_seq (by rfl) m_len PySem.boot_len (pa_cons (pv 3) pa_nil)) pe_int (nomark _)) (pw_or1 (pt_cmpR op_eq (pe_call c_law_draw.G (hr.mono (by decide)) (by rfl) c_law_draw.g c_law_draw.kp c_law_draw.b .nil pass0 (pa_cons (pv 0) (pa_cons pe_int pa_nil))) pe_int (nomark _))))) (pss_cons (ps_setLc (i := 4) (own := [("_law_k", 5)]) (g := gName 5) (by rfl) sc_law_whole_row.nd rfl rfl (sw_true rfl rfl rfl (by decide +kernel)) (pi_range1 (by rfl) m_range (pa_cons (pe_call c_law_draw.G (hr.mono (by decide)) (by rfl) c_law_draw.g c_law_draw.kp c_law_draw.b .nil pass0 (pa_cons (pv 0) (pa_cons pe_int pa_nil))) pa_nil)) (blkOk_by (N := ["_law_purse_here", "_law_some", "_law_deep_here", "_law_targets", "_law_parts_here", "_law_k"]) (sc := defScope s_law_whole_row) (by decide +kernel)) (fun _ _ _ _ _ => (pg_name (i := 5) sc_law_whole_row.nd rfl (Or.inl rfl))) (fun _ _ _ _ _ => pts_nil) (fun _ _ _ _ _ => (pe_call c_law_grown.G (hr.mono (by decide)) (by rfl) c_law_grown.g c_law_grown.kp c_law_grown.b .nil pass0 (pa_cons (pv 0) (pa_cons (pv 1) (pa_cons (pe_op op_sub (pv 2) pe_int) pa_nil))))))
        (pss_one (ps_ret (pe_tup (pa_cons pe_str (pa_cons (pe_ix (r := rIxL K) ix_list (pe_lst (pa_cons pe_str (pa_cons pe_str (pa_cons pe_str (pa_cons (pe_ix (r := rIxL K) ix_list (pv 1) pe_int (fun _ _ => rfl)) pa_nil))))) (pe_call c_law_draw.G (hr.mono (by decide)) (by rfl) c_law_draw.g c_law_draw.kp c_law_draw.b .nil pass0 (pa_cons (pv 0) (pa_cons pe_int pa_nil))) (fun _ _ => rfl)) (pa_cons (pv 4) pa_nil))))))) pss_nil)
        (pss_one (ps_ret (pe_call c_law_grown.G (hr.mono (by decide)) (by rfl) c_law_grown.g c_law_grown.kp c_law_grown.b .nil pass0 (pa_cons (pv 0) (pa_cons (pv 1) (pa_cons (pv 2) pa_nil))))))), ?_⟩
  refine body_W (m := 2) (W := w_law_whole_row) (fun N p c => ?_) h rfl
  have ok := @ctxD_ok K H N p c 0
  exact (fs_seq (fs_if (ft_or (ft_test (fe_op fr_gt (fe_cb fc_len (fa_cons fe_var fa_nil)) fe_int)) (ft_test (fe_op fr_eq (fe_draw fe_int) fe_int))) (fs_seq (fs_asg (fe_o (fo_lc (vs := [5]) ok (fi_range1 (fa_cons (fe_draw fe_int) fa_nil)) fg_name (by decide) ft_yes (fe_callW (fa_cons fe_var (fa_cons (fe_op fr_sub fe_var fe_int) fa_nil))))) fg_name)
        (fs_ret (fe_tup ok (fa_cons fe_str (fa_cons (fe_op fr_ixL' (fe_lst ok (fa_cons fe_str (fa_cons fe_str (fa_cons fe_str (fa_cons (fe_op fr_ixL' fe_var fe_int) fa_nil))))) (fe_draw fe_int)) (fa_cons fe_var fa_nil)))))) fs_next)
        (fs_ret (fe_callW (fa_cons fe_var (fa_cons fe_var fa_nil)))))
end
end WK
namespace WK
open PySem PySem.Spec PyProof.Rows L2 WD
/-- expressions in all, draws, of n levels below -/
def szG : Nat → Nat
  | 0 => 1
  | n + 1 => 3 * szG n + 1
def drG : Nat → Nat
  | 0 => 210
  | n + 1 => 3 * drG n + 300
def GrownD (ks : List Str) (n : Nat) (e : PyData) : Prop := ∃ s, s ≤ szG n ∧ ∀ m, Exq ks m (n + 1) e s
theorem Exq.up {ks : List Str} : ∀ (d : Nat) (m : Bool) (e : PyData) (s : Nat), Exq ks m d e s → Exq ks m (d + 1) e s := by
  intro d
  induction d with
  | zero => intro m e s h; obtain ⟨d2, e2⟩ := h.pos; omega
  | succ d ih =>
    intro m e s h
    cases h with
    | atom h => exact .atom h
    | flow a b => exact .flow a b
    | beats a b c => exact .beats a b c
    | two a b c => exact .two a (ih _ _ _ b) (ih _ _ _ c)
    | not a => exact .not (ih _ _ _ a)
    | pick a b c => exact .pick (ih _ _ _ a) (ih _ _ _ b) (ih _ _ _ c)
    | thn a b => exact .thn a (ih _ _ _ b)
    | whn a b c => exact .whn (ih _ _ _ a) b c
    | merge a b c d => exact .merge a b (ih _ _ _ c) (ih _ _ _ d)
    | @call _ n f ps a b c =>
      refine .call a b ?_
      have go : ∀ (l : List PyData) (n : Nat), LevQ ks false d l n → LevQ ks false (d + 1) l n := by
        intro l
        induction l with
        | nil => intro n h; rw [h.unnil]; exact .nil
        | cons x l ih2 =>
          intro n h
          obtain ⟨s, n', rfl, he, ht⟩ := h.uncons
          exact .cons (ih _ _ _ he) (ih2 n' ht)
      exact go ps n c
theorem Exq.le {ks : List Str} {m : Bool} {d d2 : Nat} {e : PyData} {s : Nat} (h : Exq ks m d e s) (l : d ≤ d2) : Exq ks m d2 e s := by
  obtain ⟨k, rfl⟩ : ∃ k, d2 = d + k := ⟨d2 - d, by omega⟩
  clear l
  induction k with
  | zero => exact h
  | succ k ih => exact ih.up
theorem szG_pos : ∀ n, 1 ≤ szG n
  | 0 => Nat.le_refl _
  | n + 1 => by unfold szG; omega
theorem drG_pos : ∀ n, 210 ≤ drG n
  | 0 => Nat.le_refl _
  | n + 1 => by unfold drG; omega
theorem grown_end {ks : List Str} {n : Nat} {e : PyData} (h : EndD ks e) : GrownD ks n e := ⟨1, szG_pos n, fun m => (h m).le (by omega)⟩
theorem draws_grown {ks fl : List Str} (hs : ∀ x ∈ fl, NameS x ∧ x ∈ ks) (hl : fl.length ≤ 1000) : ∀ (b n : Nat) (d : Int), n < b → n ≤ 4 → d ≤ (n : Int) → DrawsW (grownB b) [.list (fl.map .str), .int d] (drG n) (GrownD ks n)
  | 0, _, _, h, _, _ => by omega
  | b + 1, n, d, hb, h4, hd => fun w P hw q => by
    have t30 : (10 : Int) ^ 30 = 1000000000000000000000000000000 := by decide
    have fin : FineD 1 (.list (fl.map .str)) := fine_strs (n := 0) fun x hx => strOk_name (hs x hx).1
    have hp := drG_pos n
    refine ⟨by decide, by decide, by show w ≤ 100000000; omega, fun way hway => ⟨rfl, by show 3 < 6; decide, ?_⟩⟩
    have fend : (wRet (wCallW 1 f_law_end (wCons (wVar 1) wNil))) ⟨[.un, .dat (.list (fl.map .str)), .dat (.int d), .dat (.int (way : Nat)), .un, .un], w + 1⟩ (fun f => match f with
        | .nx ρ => P .none ρ.went
        | .rt d ρ => P d ρ.went
        | _ => False) := ⟨rfl, draws_end hs hl (w + 1) _ (by omega) fun z m hz hm => q z m (grown_end hz) (by omega)⟩
    by_cases d1 : d < 1
    · show (if decide (d < 1) = true then _ else _)
      rw [decide_eq_true d1]
      exact fend
    show (if decide (d < 1) = true then _ else _)
    rw [decide_eq_false d1, if_neg (by decide)]
    by_cases w3 : (way : Int) < 3
    · show (if decide ((way : Int) < 3) = true then _ else _)
      rw [decide_eq_true w3]
      exact fend
    show (if decide ((way : Int) < 3) = true then _ else _)
    rw [decide_eq_false w3, if_neg (by decide)]
    refine ⟨by decide, fin.1, rfl, fin.shaped (by decide), by decide +kernel, ?_⟩
    have eeq : PyData.eqv (.list (fl.map .str)) (.list []) = fl.isEmpty := by
      cases fl <;> simp [PyData.eqv, PyData.eqvAll]
    rw [eeq]
    by_cases hne : fl.isEmpty = true
    · rw [hne]
      exact fend
    rw [Bool.eq_false_iff.mpr hne]
    obtain ⟨n, rfl⟩ : ∃ k, n = k + 1 := ⟨n - 1, by omega⟩
    have hf0 : 0 < fl.length := by
      cases fl with
      | nil => exact absurd rfl hne
      | cons _ _ => rw [List.length_cons]; omega
    have ih := draws_grown hs hl b n (d - 1) (by omega) (by omega) (by omega)
    have edr : drG (n + 1) = 3 * drG n + 300 := rfl
    have esz : szG (n + 1) = 3 * szG n + 1 := rfl
    refine ⟨rfl, ih (w + 1) _ (by omega) fun one m1 h1 m1l => ⟨rfl, by show 4 < 6; decide, ?_⟩⟩
    obtain ⟨s1, z1, e1⟩ := h1
    have getf : ∀ j : Nat, (j : Int) < (((fl.map PyData.str).length : Nat) : Int) → ∃ x, x ∈ fl ∧ atI (fl.map PyData.str) (j : Int) = some (.str x) := fun j hj => by
      have hj : j < fl.length := by rw [List.length_map] at hj; omega
      exact ⟨fl[j], List.getElem_mem hj, atI_nat (by rw [List.getElem?_map, List.getElem?_eq_getElem hj]; rfl)⟩
    refine ⟨_, rfl, ?_⟩
    by_cases c10 : (way : Int) = 10
    · rw [decide_eq_true c10]
      exact ⟨by show 2 ≤ 16777216; decide, q _ _ ⟨s1 + 1, by omega, fun m => .not (e1 false)⟩ (by show m1 ≤ _; omega)⟩
    rw [decide_eq_false c10]
    refine ⟨_, rfl, ?_⟩
    by_cases c11 : (way : Int) = 11
    · rw [decide_eq_true c11]
      refine ⟨rfl, draws_atom m1 _ (by omega) fun k m2 hk m2l => ?_⟩
      exact ⟨by show 3 ≤ 16777216; decide, q _ _ ⟨s1 + 1, by omega, fun m => .thn hk (e1 false)⟩ (by show m2 ≤ _; omega)⟩
    rw [decide_eq_false c11]
    refine ⟨_, rfl, ?_⟩
    by_cases c12 : (way : Int) = 12
    · rw [decide_eq_true c12]
      refine ⟨by rw [List.length_map]; omega, by rw [List.length_map]; omega, by show m1 ≤ 100000000; omega, fun j hj => ?_⟩
      obtain ⟨x, hx, ex⟩ := getf j hj
      refine ⟨.str x, ex, ?_⟩
      refine ⟨by decide, by decide, by show m1 + 1 ≤ 100000000; omega, fun r hr => ⟨_, rfl, by show 4 ≤ 16777216; decide, ?_⟩⟩
      exact q _ _ ⟨s1 + 1, by omega, fun m => .whn (e1 false) (by rw [inD_keys]; exact decide_eq_true (hs x hx).2) (hs x hx).1⟩ (by show m1 + 1 + 1 ≤ _; omega)
    rw [decide_eq_false c12]
    refine ⟨rfl, ih m1 _ (by omega) fun two m2 h2 m2l => ⟨rfl, by show 5 < 6; decide, ?_⟩⟩
    obtain ⟨s2, z2, e2⟩ := h2
    refine ⟨_, rfl, ?_⟩
    by_cases c13 : (way : Int) = 13
    · rw [decide_eq_true c13]
      refine ⟨by rw [List.length_map]; omega, by rw [List.length_map]; omega, by show m2 ≤ 100000000; omega, fun j hj => ?_⟩
      obtain ⟨x, hx, ex⟩ := getf j hj
      refine ⟨.str x, ex, ?_⟩
      exact ⟨by show 4 ≤ 16777216; decide, q _ _ ⟨s1 + s2 + 1, by omega, fun m => .merge (by rw [inD_keys]; exact decide_eq_true (hs x hx).2) (hs x hx).1 (e1 false) (e2 false)⟩ (by show m2 + 1 ≤ _; omega)⟩
    rw [decide_eq_false c13]
    by_cases c14 : (13 : Int) < (way : Int)
    · show (if decide ((13 : Int) < (way : Int)) = true then _ else _)
      rw [decide_eq_true c14]
      refine ⟨rfl, ih m2 _ (by omega) fun thr m3 h3 m3l => ?_⟩
      obtain ⟨s3, z3, e3⟩ := h3
      exact ⟨by show 4 ≤ 16777216; decide, q _ _ ⟨s1 + s2 + s3 + 1, by omega, fun m => .pick (e1 false) (e2 false) (e3 false)⟩ (by show m3 ≤ _; omega)⟩
    show (if decide ((13 : Int) < (way : Int)) = true then _ else _)
    rw [decide_eq_false c14]
    have hx : ∃ x ∈ twoW, atI [PyData.str ("sum" : Str), .str "less", .str "times", .str "below", .str "same", .str "both", .str "either"] ((way : Int) - 3) = some (.str x) := by
      have : (way : Int) = 3 ∨ (way : Int) = 4 ∨ (way : Int) = 5 ∨ (way : Int) = 6 ∨ (way : Int) = 7 ∨ (way : Int) = 8 ∨ (way : Int) = 9 := by omega
      unfold twoW
      rcases this with e | e | e | e | e | e | e <;> rw [e] <;> exact ⟨_, by simp only [List.mem_cons, true_or, or_true]; first | trivial | skip, rfl⟩
    obtain ⟨x, hx1, hx2⟩ := hx
    refine ⟨by show 7 ≤ 16777216; decide, .str x, hx2, by show 3 ≤ 16777216; decide, ?_⟩
    exact q _ _ ⟨s1 + s2 + 1, by omega, fun m => .two hx1 (e1 false) (e2 false)⟩ (by show m2 ≤ _; omega)
/-- a row's expression -/
def RowD (ks : List Str) (S D : Nat) (ts : Nat) (e : PyData) : Prop := ∃ s, s ≤ S ∧ Exq ks true D e s ∧ (ts ≤ 1 ∨ ∃ r, e = .tuple (.str "call" :: r))
theorem comp_grown {ks fl : List Str} {n : Nat} {d : Int} {a0 : En} {ts : En} (hs : ∀ x ∈ fl, NameS x ∧ x ∈ ks) (hl : fl.length ≤ 1000) (hn : n ≤ 3) (hd : d - 1 ≤ (n : Int)) {P : List PyData → WD.Env → Prop} : ∀ (xs acc : List PyData) (w M : Nat), LevQ ks false (n + 1) acc M → M ≤ acc.length * szG n → acc.length + xs.length ≤ 1000 → w + xs.length * drG n ≤ 100000000 →
    (∀ acc2 M2 w2, LevQ ks false (n + 1) acc2 M2 → M2 ≤ acc2.length * szG n → acc2.length = acc.length + xs.length → w2 ≤ w + xs.length * drG n → P acc2 ⟨[a0, .dat (.list (fl.map .str)), .dat (.int d), ts, .un, .un], w2⟩) →
    wComp (wName [0] 5) wYes (wCallW 2 f_law_grown (wCons (wVar 1) (wCons (wOp (f2I fun i j => .int (i - j)) (wVar 2) (wK (.int 1))) wNil))) [5] xs [a0, .dat (.list (fl.map .str)), .dat (.int d), ts, .un, .un] w acc P
  | [], acc, w, M, h, hM, _, _, q => q acc M w h hM (by rw [List.length_nil, Nat.add_zero]) (by omega)
  | x :: xs, acc, w, M, h, hM, l, hw, q => by
    rw [List.length_cons] at l hw
    have e3 : (xs.length + 1) * drG n = xs.length * drG n + drG n := by rw [Nat.add_mul, Nat.one_mul]
    refine ⟨rfl, by show 5 < 6; decide, rfl, draws_grown hs hl 5 n (d - 1) (by omega) (by omega) hd w _ (by omega) fun z m hz hm => ?_⟩
    obtain ⟨s, hs1, he⟩ := hz
    refine ⟨rfl, by omega, ?_⟩
    refine comp_grown hs hl hn hd xs (acc ++ [z]) m (M + s) (h.app (lev1 (he false))) ?_ (by rw [List.length_append]; simp only [List.length_cons, List.length_nil]; omega) (by omega) fun acc2 M2 w2 g1 g2 g3 g4 => ?_
    · rw [List.length_append, List.length_cons, List.length_nil, Nat.add_mul]
      omega
    · refine q acc2 M2 w2 g1 g2 (by rw [g3, List.length_append, List.length_cons]; simp only [List.length_cons, List.length_nil]; omega) ?_
      rw [List.length_cons]
      omega
end WK
namespace WK
open PySem PySem.Spec PyProof.Rows L2 WD
theorem name_sub : NameS ("sub" : Str) := ⟨by decide +kernel, by decide +kernel, by decide +kernel⟩
theorem name_a : NameS ("a" : Str) := ⟨by decide +kernel, by decide +kernel, by decide +kernel⟩
theorem name_gain : NameS ("gain" : Str) := ⟨by decide +kernel, by decide +kernel, by decide +kernel⟩
theorem four_cases {r : Nat} (h : (r : Int) < 4) : r = 0 ∨ r = 1 ∨ r = 2 ∨ r = 3 := by omega
theorem draws_row {ks fl ts : List Str} {n n2 S D : Nat} {d : Int} (hs : ∀ x ∈ fl, NameS x ∧ x ∈ ks) (hl : fl.length ≤ 1000) (h0 : fl ≠ []) (hn : n ≤ 3) (hn2 : n2 ≤ 3) (hd : d ≤ (n : Int)) (hd2 : d - 1 ≤ (n2 : Int)) (hS : szG n ≤ S) (hS2 : 3 * szG n2 + 1 ≤ S) (hD : n + 1 ≤ D) (hD2 : n2 + 2 ≤ D) :
    DrawsW f_law_whole_row [.list (fl.map .str), .int d, .tuple (ts.map .str)] 30000 (RowD ks S D ts.length) := fun w P hw q => by
  have t30 : (10 : Int) ^ 30 = 1000000000000000000000000000000 := by decide
  have dr3 : ∀ m : Nat, m ≤ 3 → drG m ≤ 9570 := fun m hm => by
    have : m = 0 ∨ m = 1 ∨ m = 2 ∨ m = 3 := by omega
    rcases this with rfl | rfl | rfl | rfl <;> decide
  have call : ∀ w1, w1 ≤ w + 1 → (wSeq (wAsg (wTell (wLc [0] (wItR1 (wCons (wDraw (wK (.int 4))) wNil)) (wName [0] 5) wYes (wCallW 2 f_law_grown (wCons (wVar 1) (wCons (wOp (f2I fun i j => .int (i - j)) (wVar 2) (wK (.int 1))) wNil))) [5])) (wName [0] 4))
      (wRet (wTup (wCons (wK (.str "call")) (wCons (wOp fIxL (wLst (wCons (wK (.str "sub")) (wCons (wK (.str "a")) (wCons (wK (.str "gain")) (wCons (wOp fIxL (wVar 1) (wK (.int 0))) wNil))))) (wDraw (wK (.int 4)))) (wCons (wVar 4) wNil))))))
      ⟨[.un, .dat (.list (fl.map .str)), .dat (.int d), .dat (.tuple (ts.map .str)), .un, .un], w1⟩ (fun f => match f with
        | .nx ρ => wRet (wCallW 2 f_law_grown (wCons (wVar 1) (wCons (wVar 2) wNil))) ρ (fun f => match f with
          | .nx ρ => P .none ρ.went
          | .rt d ρ => P d ρ.went
          | _ => False)
        | .rt d ρ => P d ρ.went
        | f => (match f with
          | .nx ρ => P .none ρ.went
          | .rt d ρ => P d ρ.went
          | _ => False)) := fun w1 hw1 => by
    refine ⟨by decide, by decide, by show w1 ≤ 100000000; omega, fun c hc => ?_⟩
    refine ⟨by omega, by omega, ⟨rfl, rfl⟩, ?_⟩
    have lu : (upFrom 0 ((c : Nat) : Int).toNat).length = c := by rw [upFrom_len]; omega
    have hdr := dr3 n2 hn2
    have hm : c * drG n2 ≤ 3 * drG n2 := Nat.mul_le_mul_right _ (by omega)
    refine comp_grown hs hl hn2 hd2 (upFrom 0 ((c : Nat) : Int).toNat) [] (w1 + 1) 0 .nil (by omega) (by rw [List.length_nil, lu]; omega) (by rw [lu]; omega) fun ps M w2 g1 g2 g3 g4 => ?_
    rw [lu] at g3 g4
    rw [List.length_nil, Nat.zero_add] at g3
    have hM : M ≤ 3 * szG n2 := Nat.le_trans g2 (Nat.mul_le_mul_right _ (by omega))
    refine ⟨rfl, by show 4 < 6; decide, ?_⟩
    cases fl with
    | nil => exact absurd rfl h0
    | cons f0 fr =>
      have ex : ∀ f : Str, NameS f → RowD ks S D ts.length (.tuple [.str "call", .str f, .list ps]) := fun f hf => ⟨M + 1, by omega, (Exq.call hf (by omega) g1).le (by omega), .inr ⟨_, rfl⟩⟩
      refine ⟨.str f0, (at_head : atI (PyData.str f0 :: fr.map .str) 0 = _), by show 4 ≤ 16777216; decide, by decide, by decide, by show w2 ≤ 100000000; omega, fun r hr => ?_⟩
      rcases four_cases hr with rfl | rfl | rfl | rfl
      · exact ⟨_, rfl, by show 3 ≤ 16777216; decide, q _ _ (ex _ name_sub) (by show w2 + 1 ≤ _; omega)⟩
      · exact ⟨_, rfl, by show 3 ≤ 16777216; decide, q _ _ (ex _ name_a) (by show w2 + 1 ≤ _; omega)⟩
      · exact ⟨_, rfl, by show 3 ≤ 16777216; decide, q _ _ (ex _ name_gain) (by show w2 + 1 ≤ _; omega)⟩
      · exact ⟨_, rfl, by show 3 ≤ 16777216; decide, q _ _ (ex _ (hs f0 (.head _)).1) (by show w2 + 1 ≤ _; omega)⟩
  by_cases h1 : (1 : Int) < (((ts.map PyData.str).length : Nat) : Int)
  · show (if decide ((1 : Int) < (((ts.map PyData.str).length : Nat) : Int)) = true then _ else _)
    rw [decide_eq_true h1]
    exact call w (by omega)
  show (if decide ((1 : Int) < (((ts.map PyData.str).length : Nat) : Int)) = true then _ else _)
  rw [decide_eq_false h1, if_neg (by decide)]
  refine ⟨by decide, by decide, by show w ≤ 100000000; omega, fun c hc => ⟨_, rfl, ?_⟩⟩
  by_cases hc0 : (c : Int) = 0
  · rw [decide_eq_true hc0]
    exact call (w + 1) (by omega)
  rw [decide_eq_false hc0]
  have hdr := dr3 n hn
  refine ⟨rfl, draws_grown hs hl 5 n d (by omega) (by omega) hd (w + 1) _ (by omega) fun z m hz hm => ?_⟩
  obtain ⟨s, g1, g2⟩ := hz
  rw [List.length_map] at h1
  exact q _ _ ⟨s, by omega, (g2 true).le hD, .inl (by omega)⟩ (by show m ≤ _; omega)
end WK
namespace WK
open PySem PySem.Spec PyProof.Rows L2 WD
section
variable {P : Program} {w : World} {K : PySem.W.Frag} {mg : Str → Option Value} {base : Heap}
abbrev s_law_names : Stmt := topS 69
theorem sc_law_names : FnScope ["_law_purse_here", "_law_many", "_law_found", "_law_k", "_law_tail", "_law_word", "_law_sign"] ["_law_purse_here", "_law_many"] (defScope s_law_names) := ⟨rfl, rfl, rfl, by decide +kernel, rfl, by decide +kernel, by decide +kernel⟩
def w_law_names : WS := (wSeq (wOwn [0] 2 (wLstO wNil))
  (wSeq (wFor (wItR1 (wCons (wVar 1) wNil)) (wName [0] 3) (wSeq (wAsg (wOp fAddS (wOp fIxS (wK (.str "abcdefghijklmnopqrstuvwxyz")) (wOp (f2C CDiv fun i j => i / j) (wVar 3) (wK (.int 26)))) (wOp fIxS (wK (.str "abcdefghijklmnopqrstuvwxyz")) (wOp (f2C (fun _ j => 0 < j) fun i j => i % j) (wVar 3) (wK (.int 26))))) (wName [0] 4))
  (wSeq (wAsg (wOp fAddS (wJoin (wK (.str "")) (wTell (wLc [0] (wItR1 (wCons (wDraw (wK (.int 7))) wNil)) (wName [0] 6) wYes (wOp fIxS (wK (.str "aoxz")) (wDraw (wK (.int 4)))) [6]))) (wVar 4)) (wName [0] 5))
  (wSeq (wIfS (wB (wOp fEq (wDraw (wK (.int 3))) (wK (.int 0)))) (wAsg (wOp fIxL (wLst (wCons (wOp fIxS (wVar 4) (wK (.int 1))) (wCons (wVar 5) wNil))) (wCB fInt1 (wCons (wOp (f2I fun i j => .bool (decide (j < i))) (wVar 3) (wK (.int 25))) wNil))) (wName [0] 5)) wNext)
  (wSeq (wIfS (wAnd (wB (wOp (f2I fun i j => .bool (decide (i < j))) (wVar 3) (wK (.int 8)))) (wB (wOp fEq (wDraw (wK (.int 6))) (wK (.int 0))))) (wAsg (wOp fIxL (wLst (wCons (wK (.str "and")) (wCons (wK (.str "not")) (wCons (wK (.str "when")) (wCons (wK (.str "out")) (wCons (wK (.str "true")) (wCons (wK (.str "none")) (wCons (wK (.str "module")) (wCons (wK (.str "merge")) wNil))))))))) (wVar 3)) (wName [0] 5)) wNext)
  (wDrop (wAppend 2 (wVar 5))))))))
  (wRet (wCallW 1 f_law_mixed (wCons (wVar 2) wNil)))))
def f_law_names : WP1 := wBodyW 5 w_law_names
def sp_law_names (K : PySem.W.Frag) : Sp := spW 1 f_law_names K
theorem ok_law_names {f : Addr} {fd : FuncData} (F : Fun K "_law_names" "_law_names" s_law_names f fd) (m_int : mg "int" = none) (m_range : mg "range" = none) {f_law_draw : Addr} {fd_law_draw : FuncData} (c_law_draw : Cal P w K mg base CX0 1 f_law_draw fd_law_draw "_law_draw" ["_law_purse_here", "_law_out_of"] (sp_law_draw K)) {f_law_mixed : Addr} {fd_law_mixed : FuncData} (c_law_mixed : Cal P w K mg base CX0 2 f_law_mixed fd_law_mixed "_law_mixed" ["_law_purse_here", "_law_some"] (sp_law_mixed K)) : FnOk P w K mg base CX0 3 f fd ["_law_purse_here", "_law_many"] (sp_law_names K) := by
  refine F.ok sc_law_names (fun vs H Q E h => spW_len h) (fun cdv A outer s H vs Q E hr h => ?_)
  refine ⟨_, (pss_cons (ps_set (i := 2) sc_law_names.nd rfl (Or.inl rfl) (pe_lst pa_nil))
        (pss_cons (ps_for PassesOwn.never rfl (pi_range1 (by rfl) m_range (pa_cons (pv 1) pa_nil)) (pg_name (i := 3) sc_law_names.nd rfl (Or.inl rfl)) (pss_cons (ps_set (i := 4) sc_law_names.nd rfl (Or.inl rfl) (pe_op op_add_str (pe_ix (r := rIxS) ix_str pe_str (pe_op op_fdiv (pv 3) pe_int) (fun _ _ => rfl)) (pe_ix (r := rIxS) ix_str pe_str (pe_op op_mod (pv 3) pe_int) (fun _ _ => rfl))))
        (pss_cons (ps_set (i := 5) sc_law_names.nd rfl (Or.inl rfl) (pe_op op_add_str (pe_join pe_str (pe_lc (own := [("_law_sign", 6)]) (g := gName 6) (by rfl) sc_law_names.nd (pi_range1 (by rfl) m_range (pa_cons (pe_call c_law_draw.G (hr.mono (by decide)) (by rfl) c_law_draw.g c_law_draw.kp c_law_draw.b .nil pass0 (pa_cons (pv 0) (pa_cons pe_int pa_nil))) pa_nil)) (blkOk_by (N := ["_law_purse_here", "_law_many", "_law_found", "_law_k", "_law_tail", "_law_word", "_law_sign"]) (sc := defScope s_law_names) (by decide +kernel)) (fun _ _ _ _ _ => (pg_name (i := 6) sc_law_names.nd rfl (Or.inl rfl))) (fun _ _ _ _ _ => pts_nil) (fun _ _ _ _ _ => (pe_ix (r := rIxS) ix_str pe_str (pe_call c_law_draw.G (hr.mono (by decide)) (by rfl) c_law_draw.g c_law_draw.kp c_law_draw.b .nil pass0 (pa_cons (pv 0) (pa_cons pe_int pa_nil))) (fun _ _ => rfl))))) (pv 4)))
        (pss_cons (ps_if (pt_cmpR op_eq (pe_call c_law_draw.G (hr.mono (by decide)) (by rfl) c_law_draw.g c_law_draw.kp c_law_draw.b .nil pass0 (pa_cons (pv 0) (pa_cons pe_int pa_nil))) pe_int (nomark _)) (pss_one (ps_set (i := 5) sc_law_names.nd rfl (Or.inl rfl) (pe_ix (r := rIxL K) ix_list (pe_lst (pa_cons (pe_ix (r := rIxS) ix_str (pv 4) pe_int (fun _ _ => rfl)) (pa_cons (pv 5) pa_nil))) (pe_callTy call_int1 (by rfl) m_int (by decide +kernel) (pa_cons (pe_cmpR op_gt (pv 3) pe_int (nomark _)) pa_nil)) (fun _ _ => rfl)))) pss_nil)
        (pss_cons (ps_if (PW.pt (pw_and (pt_cmpR op_lt (pv 3) pe_int (nomark _)) (pw_and1 (pt_cmpR op_eq (pe_call c_law_draw.G (hr.mono (by decide)) (by rfl) c_law_draw.g c_law_draw.kp c_law_draw.b .nil pass0 (pa_cons (pv 0) (pa_cons pe_int pa_nil))) pe_int (nomark _))))) (pss_one (ps_set (i := 5) sc_law_names.nd rfl (Or.inl rfl) (pe_ix (r := rIxL K) ix_list (pe_lst (pa_cons pe_str (pa_cons pe_str (pa_cons pe_str (pa_cons pe_str (pa_cons pe_str (pa_cons pe_str (pa_cons pe_str (pa_cons pe_str pa_nil))))))))) (pv 3) (fun _ _ => rfl)))) pss_nil)
        (pss_one (ps_expr (pe_bm PySem.F.plainAttrs_list PySem.F.slot_list_append PySem.F.type_list_append mt_append (pv 2) (pa_cons (pv 5) pa_nil)))))))))
        (pss_one (ps_ret (pe_call c_law_mixed.G (hr.mono (by decide)) (by rfl) c_law_mixed.g c_law_mixed.kp c_law_mixed.b .nil pass0 (pa_cons (pv 0) (pa_cons (pv 2) pa_nil))))))), ?_⟩
  refine body_W (m := 5) (W := w_law_names) (fun N p c => ?_) h rfl
  have ok := @ctxD_ok K H N p c 0
  exact (fs_seq (fs_own' (fo_lst' ok fa_nil))
        (fs_seq (fs_for (fi_range1 (fa_cons fe_var fa_nil)) fg_name (fs_seq (fs_asg (fe_op fr_addS (fe_op fr_ixS fe_str (fe_op fr_rI fe_var fe_int)) (fe_op fr_ixS fe_str (fe_op fr_rI fe_var fe_int))) fg_name)
        (fs_seq (fs_asg (fe_op fr_addS (fe_join fe_str (fe_o (fo_lc (vs := [6]) ok (fi_range1 (fa_cons (fe_draw fe_int) fa_nil)) fg_name (by decide) ft_yes (fe_op fr_ixS fe_str (fe_draw fe_int))))) fe_var) fg_name)
        (fs_seq (fs_if (ft_test (fe_op fr_eq (fe_draw fe_int) fe_int)) (fs_asg (fe_op fr_ixL' (fe_lst ok (fa_cons (fe_op fr_ixS fe_var fe_int) (fa_cons fe_var fa_nil))) (fe_cb fc_int1 (fa_cons (fe_op fr_gt fe_var fe_int) fa_nil))) fg_name) fs_next)
        (fs_seq (fs_if (ft_and (ft_test (fe_op fr_lt fe_var fe_int)) (ft_test (fe_op fr_eq (fe_draw fe_int) fe_int))) (fs_asg (fe_op fr_ixL' (fe_lst ok (fa_cons fe_str (fa_cons fe_str (fa_cons fe_str (fa_cons fe_str (fa_cons fe_str (fa_cons fe_str (fa_cons fe_str (fa_cons fe_str fa_nil))))))))) fe_var) fg_name) fs_next)
        (fs_drop (fe_append ok fe_var)))))))
        (fs_ret (fe_callW (fa_cons fe_var fa_nil)))))
end
end WK
namespace WK
open PySem PySem.Spec PyProof.Rows L2 WD
abbrev alpha : Str := ("abcdefghijklmnopqrstuvwxyz" : Str)
theorem alpha_list : alpha.cps.toList = (List.range 26).map fun i => 97 + i := by decide +kernel
theorem alpha_at {j : Nat} (h : j < 26) : atI alpha.cps.toList (j : Int) = some (97 + j) := by
  refine atI_nat ?_
  rw [alpha_list, List.getElem?_map, List.getElem?_range h]
  rfl
theorem alpha_in {c : Nat} (h : 97 ≤ c) (h2 : c < 123) : alpha.cps.contains c = true := by
  rw [Array.contains_iff_mem, ← Array.mem_toList_iff, alpha_list]
  exact List.mem_map.mpr ⟨c - 97, List.mem_range.mpr (by omega), by omega⟩
/-- one of the letters a, o, x, z -/
def Ax (c : Nat) : Prop := c = 97 ∨ c = 111 ∨ c = 120 ∨ c = 122
theorem ax_at {r : Nat} (h : (r : Int) < 4) : ∃ c, atI ("aoxz" : Str).cps.toList (r : Int) = some c ∧ Ax c := by
  rcases four_cases h with rfl | rfl | rfl | rfl
  · exact ⟨97, by decide +kernel, .inl rfl⟩
  · exact ⟨111, by decide +kernel, .inr (.inl rfl)⟩
  · exact ⟨120, by decide +kernel, .inr (.inr (.inl rfl))⟩
  · exact ⟨122, by decide +kernel, .inr (.inr (.inr rfl))⟩
def resN : List (List Nat) := [[97, 110, 100], [110, 111, 116], [119, 104, 101, 110], [111, 117, 116], [116, 114, 117, 101], [110, 111, 110, 101], [109, 111, 100, 117, 108, 101], [109, 101, 114, 103, 101]]
theorem res_eq : (["and", "not", "when", "out", "true", "none", "module", "merge"] : List Str) = resN.map SX.S := by decide +kernel
/-- the names that may stand at k -/
def NameK (k : Nat) (x : Str) : Prop := (∃ p : List Nat, (∀ c ∈ p, Ax c) ∧ p.length ≤ 6 ∧ x = SX.S (p ++ [97 + k / 26, 97 + k % 26])) ∨ (k ≤ 25 ∧ x = SX.S [97 + k % 26]) ∨ (∃ l, resN[k]? = some l ∧ x = SX.S l)
theorem nameK_ok {k : Nat} {x : Str} (hk : k < 156) (h : NameK k x) : NameS x := by
  have big : ∀ {c : Nat}, 97 ≤ c → c < 123 → alpha.cps.contains c = true := fun a b => alpha_in a b
  rcases h with ⟨p, hp, lp, rfl⟩ | ⟨hk2, rfl⟩ | ⟨l, hl, rfl⟩
  · refine ⟨by rw [SX.S_len, List.length_append]; simp only [List.length_cons, List.length_nil]; omega, by rw [SX.S_len, List.length_append]; simp only [List.length_cons, List.length_nil]; omega, fun c hc => ?_⟩
    have hc : c ∈ p ++ [97 + k / 26, 97 + k % 26] := by simpa using hc
    rcases List.mem_append.mp hc with hc | hc
    · have := hp c hc
      unfold Ax at this
      exact big (by omega) (by omega)
    · simp only [List.mem_cons, List.not_mem_nil, or_false] at hc
      rcases hc with rfl | rfl
      · exact big (by omega) (by omega)
      · exact big (by omega) (by omega)
  · refine ⟨by rw [SX.S_len]; exact Nat.le_refl 1, by rw [SX.S_len]; simp, fun c hc => ?_⟩
    have hc : c ∈ [97 + k % 26] := by simpa using hc
    rw [List.mem_singleton.mp hc]
    exact big (by omega) (by omega)
  · have hm := List.mem_of_getElem? hl
    unfold resN at hm
    simp only [List.mem_cons, List.not_mem_nil, or_false] at hm
    rcases hm with rfl | rfl | rfl | rfl | rfl | rfl | rfl | rfl <;> exact ⟨by decide +kernel, by decide +kernel, by decide +kernel⟩
theorem app2 {p q : List Nat} {a b c d : Nat} (h : p ++ [a, b] = q ++ [c, d]) : p = q ∧ a = c ∧ b = d := by
  obtain ⟨h1, h2⟩ := List.append_inj' h rfl
  simp only [List.cons.injEq, and_true] at h2
  exact ⟨h1, h2⟩
theorem no_res {p : List Nat} {k : Nat} {l : List Nat} (hp : ∀ c ∈ p, Ax c) (hk : k < 156) (hl : l ∈ resN) (h : p ++ [97 + k / 26, 97 + k % 26] = l) : False := by
  have one : ∀ {c : Nat} {q : List Nat}, p = c :: q → Ax c := fun e => hp _ (by rw [e]; exact .head _)
  unfold resN at hl
  simp only [List.mem_cons, List.not_mem_nil, or_false] at hl
  rcases hl with rfl | rfl | rfl | rfl | rfl | rfl | rfl | rfl
  · obtain ⟨_, e2, _⟩ := app2 (q := [97]) h; omega
  · obtain ⟨e1, _, _⟩ := app2 (q := [110]) h; have := one e1; unfold Ax at this; omega
  · obtain ⟨e1, _, _⟩ := app2 (q := [119, 104]) h; have := one e1; unfold Ax at this; omega
  · obtain ⟨_, e2, _⟩ := app2 (q := [111]) h; omega
  · obtain ⟨e1, _, _⟩ := app2 (q := [116, 114]) h; have := one e1; unfold Ax at this; omega
  · obtain ⟨e1, _, _⟩ := app2 (q := [110, 111]) h; have := one e1; unfold Ax at this; omega
  · obtain ⟨e1, _, _⟩ := app2 (q := [109, 111, 100, 117]) h; have := one e1; unfold Ax at this; omega
  · obtain ⟨e1, _, _⟩ := app2 (q := [109, 101, 114]) h; have := one e1; unfold Ax at this; omega
theorem res_long {l : List Nat} (h : l ∈ resN) : 3 ≤ l.length := by
  have : ∀ l ∈ resN, 3 ≤ l.length := by decide
  exact this l h
theorem res_inj {j k : Nat} {l : List Nat} (hj : resN[j]? = some l) (hk : resN[k]? = some l) : j = k := by
  have h1 := (List.getElem?_eq_some_iff.mp hj).1
  have h2 := (List.getElem?_eq_some_iff.mp hk).1
  have : ∀ j k : Fin 8, resN[j.val]? = resN[k.val]? → j = k := by decide
  exact congrArg Fin.val (this ⟨j, h1⟩ ⟨k, h2⟩ (hj.trans hk.symm))
theorem nameK_inj {j k : Nat} {x : Str} (hj : j < 156) (hk : k < 156) (a : NameK j x) (b : NameK k x) : j = k := by
  rcases a with ⟨p, hp, lp, rfl⟩ | ⟨hj2, rfl⟩ | ⟨l, hl, rfl⟩
  · rcases b with ⟨q, hq, lq, e⟩ | ⟨hk2, e⟩ | ⟨m, hm, e⟩
    · obtain ⟨_, e1, e2⟩ := app2 (SX.S_inj e)
      omega
    · have := congrArg List.length (SX.S_inj e)
      rw [List.length_append] at this
      simp at this
    · exact (no_res hp hj (List.mem_of_getElem? hm) (SX.S_inj e)).elim
  · rcases b with ⟨q, hq, lq, e⟩ | ⟨hk2, e⟩ | ⟨m, hm, e⟩
    · have := congrArg List.length (SX.S_inj e)
      rw [List.length_append] at this
      simp at this
    · have := SX.S_inj e
      simp only [List.cons.injEq, and_true] at this
      omega
    · have := res_long (List.mem_of_getElem? hm)
      have e := congrArg List.length (SX.S_inj e)
      rw [← e] at this
      simp at this
  · rcases b with ⟨q, hq, lq, e⟩ | ⟨hk2, e⟩ | ⟨m, hm, e⟩
    · exact (no_res hq hk (List.mem_of_getElem? hl) (SX.S_inj e).symm).elim
    · have := res_long (List.mem_of_getElem? hl)
      have e := congrArg List.length (SX.S_inj e)
      rw [e] at this
      simp at this
    · have e := SX.S_inj e
      subst e
      exact res_inj hl hm
theorem sum_ch : ∀ cs : List Nat, (((cs.map fun c => [c]).map SX.S).map (·.length)).sum = cs.length := sum_ones
abbrev enN (a b f : En) (w : Nat) (many : Nat) (found : List Str) : WD.Env := ⟨[.un, .dat (.int (many : Nat)), .own (found.map .str), a, b, f, .un], w⟩
abbrev bodyN : WS := (wSeq (wAsg (wOp fAddS (wOp fIxS (wK (.str "abcdefghijklmnopqrstuvwxyz")) (wOp (f2C CDiv fun i j => i / j) (wVar 3) (wK (.int 26)))) (wOp fIxS (wK (.str "abcdefghijklmnopqrstuvwxyz")) (wOp (f2C (fun _ j => 0 < j) fun i j => i % j) (wVar 3) (wK (.int 26))))) (wName [0] 4))
  (wSeq (wAsg (wOp fAddS (wJoin (wK (.str "")) (wTell (wLc [0] (wItR1 (wCons (wDraw (wK (.int 7))) wNil)) (wName [0] 6) wYes (wOp fIxS (wK (.str "aoxz")) (wDraw (wK (.int 4)))) [6]))) (wVar 4)) (wName [0] 5))
  (wSeq (wIfS (wB (wOp fEq (wDraw (wK (.int 3))) (wK (.int 0)))) (wAsg (wOp fIxL (wLst (wCons (wOp fIxS (wVar 4) (wK (.int 1))) (wCons (wVar 5) wNil))) (wCB fInt1 (wCons (wOp (f2I fun i j => .bool (decide (j < i))) (wVar 3) (wK (.int 25))) wNil))) (wName [0] 5)) wNext)
  (wSeq (wIfS (wAnd (wB (wOp (f2I fun i j => .bool (decide (i < j))) (wVar 3) (wK (.int 8)))) (wB (wOp fEq (wDraw (wK (.int 6))) (wK (.int 0))))) (wAsg (wOp fIxL (wLst (wCons (wK (.str "and")) (wCons (wK (.str "not")) (wCons (wK (.str "when")) (wCons (wK (.str "out")) (wCons (wK (.str "true")) (wCons (wK (.str "none")) (wCons (wK (.str "module")) (wCons (wK (.str "merge")) wNil))))))))) (wVar 3)) (wName [0] 5)) wNext)
  (wDrop (wAppend 2 (wVar 5)))))))
/-- the last two ifs of the body, with a word that may stand at k -/
theorem names_tail {k many w : Nat} {found : List Str} {x : Str} {t : En} {P : Fl → Prop} (hx : NameK k x) (hf : found.length ≤ 1000) (hw : w + 1 ≤ 100000000)
    (q : ∀ (y : Str) (w2 : Nat), NameK k y → w2 ≤ w + 1 → P (.nx (enN (.dat (.int (k : Nat))) t (.dat (.str y)) w2 many (found ++ [y])))) :
    wSeq (wIfS (wAnd (wB (wOp (f2I fun i j => .bool (decide (i < j))) (wVar 3) (wK (.int 8)))) (wB (wOp fEq (wDraw (wK (.int 6))) (wK (.int 0))))) (wAsg (wOp fIxL (wLst (wCons (wK (.str "and")) (wCons (wK (.str "not")) (wCons (wK (.str "when")) (wCons (wK (.str "out")) (wCons (wK (.str "true")) (wCons (wK (.str "none")) (wCons (wK (.str "module")) (wCons (wK (.str "merge")) wNil))))))))) (wVar 3)) (wName [0] 5)) wNext)
      (wDrop (wAppend 2 (wVar 5))) (enN (.dat (.int (k : Nat))) t (.dat (.str x)) w many found) P := by
  have fin : ∀ (y : Str) (w2 : Nat), NameK k y → w2 ≤ w + 1 → wDrop (wAppend 2 (wVar 5)) (enN (.dat (.int (k : Nat))) t (.dat (.str y)) w2 many found) P := fun y w2 hy h2 => by
    refine ⟨rfl, found.map .str, rfl, by rw [List.length_map]; omega, ?_⟩
    have := q y w2 hy h2
    show P (.nx ⟨[.un, .dat (.int (many : Nat)), .own (found.map PyData.str ++ [.str y]), .dat (.int (k : Nat)), t, .dat (.str y), .un], w2⟩)
    unfold enN at this
    rw [List.map_append] at this
    exact this
  by_cases h8 : (k : Int) < 8
  · show (if decide ((k : Int) < 8) = true then _ else _)
    rw [decide_eq_true h8]
    refine ⟨by decide, by decide, by show w ≤ 100000000; omega, fun r hr => ⟨_, rfl, ?_⟩⟩
    by_cases r0 : (r : Int) = 0
    · rw [decide_eq_true r0]
      have hk : k < 8 := by omega
      obtain ⟨l, hl⟩ : ∃ l, resN[k]? = some l := ⟨resN[k]'hk, List.getElem?_eq_getElem hk⟩
      have e : ([PyData.str ("and" : Str), .str "not", .str "when", .str "out", .str "true", .str "none", .str "module", .str "merge"])[k]? = some (.str (SX.S l)) := by
        have := congrArg (fun z : List Str => (z.map PyData.str)[k]?) res_eq
        have e2 : ((resN.map SX.S).map PyData.str)[k]? = some (.str (SX.S l)) := by rw [List.getElem?_map, List.getElem?_map, hl]; rfl
        rw [← e2, ← this]
        rfl
      refine ⟨by show 8 ≤ 16777216; decide, .str (SX.S l), atI_nat e, rfl, by show 5 < 7; decide, ?_⟩
      exact fin _ _ (.inr (.inr ⟨l, hl, rfl⟩)) (Nat.le_refl _)
    · rw [decide_eq_false r0]
      exact fin _ _ hx (Nat.le_refl _)
  · show (if decide ((k : Int) < 8) = true then _ else _)
    rw [decide_eq_false h8, if_neg (by decide)]
    exact fin _ _ hx (by omega)
theorem names_step {k many w : Nat} {found : List Str} {a b f : En} {P : Fl → Prop} (hk : k < 156) (hf : found.length ≤ 1000) (hw : w + 9 ≤ 100000000)
    (q : ∀ (y : Str) (w2 : Nat) (t : En), NameK k y → w2 ≤ w + 9 → P (.nx (enN (.dat (.int (k : Nat))) t (.dat (.str y)) w2 many (found ++ [y])))) :
    bodyN (enN (.dat (.int (k : Nat))) b f w many found) P := by
  have ed : (k : Int) / 26 = ((k / 26 : Nat) : Int) := by omega
  have em : (k : Int) % 26 = ((k % 26 : Nat) : Int) := by omega
  have la : alpha.length ≤ 16777216 := by decide +kernel
  have t30 : (10 : Int) ^ 30 = 1000000000000000000000000000000 := by decide
  refine ⟨⟨by decide, by decide⟩, ?_⟩
  refine ⟨la, 97 + k / 26, by show atI alpha.cps.toList ((k : Int) / 26) = _; rw [ed]; exact alpha_at (by omega), by show (0 : Int) < 26; decide, la, 97 + k % 26, by show atI alpha.cps.toList ((k : Int) % 26) = _; rw [em]; exact alpha_at (by omega), by show 1 + 1 ≤ 16777216; decide, rfl, by show 4 < 7; decide, ?_⟩
  have et : (⟨#[97 + k / 26]⟩ : Str) ++ ⟨#[97 + k % 26]⟩ = SX.S [97 + k / 26, 97 + k % 26] := SX.S_cat [97 + k / 26] [97 + k % 26]
  rw [et]
  refine ⟨by decide, by decide, by show w ≤ 100000000; omega, fun n hn => ?_⟩
  refine ⟨by omega, by omega, ⟨rfl, rfl⟩, ?_⟩
  have lu : (upFrom 0 ((n : Nat) : Int).toNat).length = n := by rw [upFrom_len]; omega
  refine comp_drawn (ok := Ax) (by decide +kernel) (by decide) (by decide) (fun _ => ax_at) (upFrom 0 ((n : Nat) : Int).toNat) [] (w + 1) (fun _ h => by cases h) (by rw [List.length_nil, lu]; omega) (by rw [lu]; omega) fun p hp lp => ?_
  rw [lu, List.length_nil, Nat.zero_add] at lp
  rw [lu]
  refine ⟨_, txD_ch p, ?_, ?_⟩
  · rw [sum_ones, show ("" : Str).length = 0 by decide +kernel]
    omega
  rw [join_ch]
  refine ⟨by rw [SX.S_len, SX.S_len]; show p.length + 2 ≤ 16777216; omega, rfl, by show 5 < 7; decide, ?_⟩
  rw [SX.S_cat]
  have nA : NameK k (SX.S (p ++ [97 + k / 26, 97 + k % 26])) := .inl ⟨p, hp, by omega, rfl⟩
  refine ⟨by decide, by decide, by show w + 1 + n ≤ 100000000; omega, fun r hr => ⟨_, rfl, ?_⟩⟩
  have go : ∀ y, NameK k y → wSeq (wIfS (wAnd (wB (wOp (f2I fun i j => .bool (decide (i < j))) (wVar 3) (wK (.int 8)))) (wB (wOp fEq (wDraw (wK (.int 6))) (wK (.int 0))))) (wAsg (wOp fIxL (wLst (wCons (wK (.str "and")) (wCons (wK (.str "not")) (wCons (wK (.str "when")) (wCons (wK (.str "out")) (wCons (wK (.str "true")) (wCons (wK (.str "none")) (wCons (wK (.str "module")) (wCons (wK (.str "merge")) wNil))))))))) (wVar 3)) (wName [0] 5)) wNext)
      (wDrop (wAppend 2 (wVar 5))) (enN (.dat (.int (k : Nat))) (.dat (.str (SX.S [97 + k / 26, 97 + k % 26]))) (.dat (.str y)) (w + 1 + n + 1) many found) P := fun y hy => names_tail hy hf (by omega) fun z w2 hz h2 => q z w2 _ hz (by omega)
  by_cases r0 : (r : Int) = 0
  · rw [decide_eq_true r0]
    refine ⟨by rw [SX.S_len]; show 2 ≤ 16777216; decide, 97 + k % 26, rfl, by show 2 ≤ 16777216; decide, ?_⟩
    by_cases h25 : (25 : Int) < (k : Int)
    · exact ⟨.str (SX.S (p ++ [97 + k / 26, 97 + k % 26])), by show atI [PyData.str ⟨#[97 + k % 26]⟩, PyData.str (SX.S (p ++ [97 + k / 26, 97 + k % 26]))] (if decide ((25 : Int) < (k : Int)) = true then (1 : Int) else 0) = _; rw [decide_eq_true h25]; rfl, rfl, by show 5 < 7; decide, go _ nA⟩
    · exact ⟨.str (SX.S [97 + k % 26]), by show atI [PyData.str ⟨#[97 + k % 26]⟩, PyData.str (SX.S (p ++ [97 + k / 26, 97 + k % 26]))] (if decide ((25 : Int) < (k : Int)) = true then (1 : Int) else 0) = _; rw [decide_eq_false h25]; rfl, rfl, by show 5 < 7; decide, go _ (.inr (.inl ⟨by omega, rfl⟩))⟩
  · rw [decide_eq_false r0]
    exact go _ nA
theorem names_loopW {many : Nat} {P : Fl → Prop} : ∀ (n k w : Nat) (found : List Str) (a b f : En), (∀ j x, found[j]? = some x → NameK j x) → found.length = k → k + n ≤ 156 → w + n * 9 ≤ 100000000 →
    (∀ (ys : List Str) (w2 : Nat) (a b f : En), (∀ j x, ys[j]? = some x → NameK j x) → ys.length = k + n → w2 ≤ w + n * 9 → P (.nx (enN a b f w2 many ys))) →
    wLoop (wName [0] 3) bodyN (upFrom (k : Int) n) (enN a b f w many found) P
  | 0, k, w, found, a, b, f, h, hl, _, _, q => q found w a b f h (by omega) (by omega)
  | n + 1, k, w, found, a, b, f, h, hl, hk, hw, q => by
    have eup : upFrom (k : Int) (n + 1) = .int (k : Nat) :: upFrom ((k + 1 : Nat) : Int) n := by
      unfold upFrom
      rw [List.range_succ_eq_map, List.map_cons, List.map_map]
      congr 1
      · simp
        intro a _
        omega
    rw [eup]
    refine ⟨rfl, by show 3 < 7; decide, ?_⟩
    refine names_step (k := k) (w := w) (found := found) (a := .dat (.int (k : Nat))) (b := b) (f := f) (by omega) (by omega) (by omega) fun y w2 t hy h2 => ?_
    refine names_loopW n (k + 1) w2 (found ++ [y]) _ _ _ (fun j x hx => ?_) (by rw [List.length_append, hl]; rfl) (by omega) (by omega) fun ys w3 a b f g1 g2 g3 => q ys w3 a b f g1 (by omega) (by omega)
    by_cases hj : j < found.length
    · rw [List.getElem?_append_left hj] at hx
      exact h j x hx
    · rw [List.getElem?_append_right (by omega)] at hx
      have : j - found.length = 0 := by
        have := (List.getElem?_eq_some_iff.mp hx).1
        simp only [List.length_cons, List.length_nil] at this
        omega
      rw [this] at hx
      cases hx
      rw [show j = k by omega]
      exact hy
theorem names_nodup {ys : List Str} (h : ∀ j x, ys[j]? = some x → NameK j x) (l : ys.length ≤ 156) : ys.Nodup := by
  rw [List.Nodup, List.pairwise_iff_getElem]
  intro i j hi hj hij e
  have a := h i _ (List.getElem?_eq_getElem hi)
  have b := h j _ (List.getElem?_eq_getElem hj)
  rw [e] at a
  have := nameK_inj (by omega) (by omega) a b
  omega
/-- names, all good, each once -/
def NamesD (many : Nat) (z : PyData) : Prop := ∃ ys : List Str, z = .list (ys.map .str) ∧ ys.length = many ∧ (∀ x ∈ ys, NameS x) ∧ ys.Nodup
theorem draws_names {many : Nat} (hm : many ≤ 156) : DrawsW f_law_names [.int (many : Nat)] 2000 (NamesD many) := fun w P hw q => by
  refine ⟨by decide, rfl, by show 2 < 7; decide, ?_⟩
  refine ⟨by omega, by omega, ?_⟩
  have e : ((many : Nat) : Int).toNat = many := by omega
  rw [e]
  refine names_loopW many 0 w [] .un .un .un (fun j x h => by simp at h) rfl (by omega) (by omega) fun ys w2 a b f g1 g2 g3 => ?_
  rw [Nat.zero_add] at g2
  have ok : ∀ x ∈ ys, NameS x := fun x hx => by
    obtain ⟨j, hj, rfl⟩ := List.mem_iff_getElem.mp hx
    exact nameK_ok (by omega) (g1 j _ (List.getElem?_eq_getElem hj))
  refine ⟨rfl, draws_mixed (xs := ys) (fun x hx => strOk_name (ok x hx)) (by omega) w2 _ (by omega) fun z m hz hmm => ?_⟩
  obtain ⟨zs, rfl, hp⟩ := hz
  refine q _ _ ⟨zs, rfl, by rw [hp.length_eq]; exact g2, fun x hx => ok x (hp.mem_iff.mp hx), hp.nodup_iff.mpr (names_nodup g1 (by omega))⟩ (by show m ≤ _; omega)
end WK
namespace WK
open PySem PySem.Spec PyProof.Rows L2 WD
section
variable {P : Program} {w : World} {K : PySem.W.Frag} {mg : Str → Option Value} {base : Heap}
abbrev s_law_module : Stmt := topS 74
theorem sc_law_module : FnScope ["_law_purse_here", "_law_sizes", "_law_many", "_law_deep_here", "_law_ins", "_law_wide", "_law_names_here", "_law_at", "_law_body", "_law_size", "_law_targets", "_law_outs", "_law_k"] ["_law_purse_here"] (defScope s_law_module) := ⟨rfl, rfl, rfl, by decide +kernel, rfl, by decide +kernel, by decide +kernel⟩
def w_law_module : WS := (wSeq (wAsg (wLst (wCons (wTup (wCons (wOp (f2I fun i j => .int (i + j)) (wK (.int 1)) (wDraw (wK (.int 4)))) (wCons (wK (.int 3)) wNil))) (wCons (wTup (wCons (wOp (f2I fun i j => .int (i + j)) (wK (.int 1)) (wDraw (wK (.int 10)))) (wCons (wK (.int 2)) wNil))) (wCons (wTup (wCons (wOp (f2I fun i j => .int (i + j)) (wK (.int 30)) (wDraw (wK (.int 20)))) (wCons (wK (.int 0)) wNil))) wNil)))) (wName [0] 1))
  (wSeq (wAsg (wOp fIxL (wVar 1) (wOp fIxL (wLst (wCons (wK (.int 0)) (wCons (wK (.int 0)) (wCons (wK (.int 0)) (wCons (wK (.int 1)) (wCons (wK (.int 1)) (wCons (wK (.int 2)) wNil))))))) (wDraw (wK (.int 6))))) (wgTup 2 (wgCons (wName [0] 2) (wgCons (wName [0] 3) wgNil))))
  (wSeq (wAsg (wOp fIxL (wLst (wCons (wK (.int 0)) (wCons (wK (.int 1)) (wCons (wK (.int 2)) (wCons (wK (.int 3)) (wCons (wK (.int 8)) wNil)))))) (wDraw (wK (.int 5)))) (wName [0] 4))
  (wSeq (wAsg (wTell (wLc [0] (wItR1 (wCons (wVar 2) wNil)) (wName [0] 12) wYes (wOp (f2I fun i j => .int (i + j)) (wK (.int 1)) (wOp fIxL (wLst (wCons (wK (.int 0)) (wCons (wK (.int 0)) (wCons (wK (.int 0)) (wCons (wK (.int 0)) (wCons (wK (.int 1)) (wCons (wK (.int 2)) wNil))))))) (wDraw (wK (.int 6))))) [12])) (wName [0] 5))
  (wSeq (wAsg (wCallW 1 f_law_names (wCons (wOp (f2I fun i j => .int (i + j)) (wVar 4) (wCB fSum (wCons (wVar 5) wNil))) wNil)) (wName [0] 6))
  (wSeq (wAsg (wVar 4) (wName [0] 7))
  (wSeq (wOwn [0] 8 (wLstO wNil))
  (wSeq (wFor (wItL (wVar 5)) (wName [0] 9) (wSeq (wAsg (wCB fTupleOf (wCons (wTell (wSlL (wVar 6) (wPart (wVar 7)) (wPart (wOp (f2I fun i j => .int (i + j)) (wVar 7) (wVar 9))))) wNil)) (wName [0] 10))
  (wSeq (wAsg (wOp (f2I fun i j => .int (i + j)) (wVar 7) (wVar 9)) (wName [0] 7))
  (wDrop (wAppend 8 (wTup (wCons (wVar 10) (wCons (wCallW 3 f_law_whole_row (wCons (wVar 6) (wCons (wVar 3) (wCons (wVar 10) wNil)))) wNil))))))))
  (wSeq (wAsg (wTell (wSlL (wCallW 1 f_law_mixed (wCons (wTell (wSlL (wVar 6) (wPart (wVar 4)) wNoP)) wNil)) wNoP (wPart (wOp (f2I fun i j => .int (i + j)) (wK (.int 1)) (wDraw (wK (.int 8))))))) (wName [0] 11))
  (wRet (wTup (wCons (wOp fIxL (wLst (wCons (wK (.str "main")) (wCons (wK (.str "a")) (wCons (wK (.str "module")) (wCons (wK (.str "abcdefgh")) wNil))))) (wDraw (wK (.int 4)))) (wCons (wCB fTupleOf (wCons (wTell (wSlL (wVar 6) wNoP (wPart (wVar 4)))) wNil)) (wCons (wCB fTupleOf (wCons (wVar 11) wNil)) (wCons (wVar 8) wNil)))))))))))))))
def f_law_module : WP1 := wBodyW 12 w_law_module
def sp_law_module (K : PySem.W.Frag) : Sp := spW 0 f_law_module K
theorem ok_law_module {f : Addr} {fd : FuncData} (F : Fun K "_law_module" "_law_module" s_law_module f fd) (m_range : mg "range" = none) (m_sum : mg "sum" = none) (m_tuple : mg "tuple" = none) {f_law_draw : Addr} {fd_law_draw : FuncData} (c_law_draw : Cal P w K mg base CX0 1 f_law_draw fd_law_draw "_law_draw" ["_law_purse_here", "_law_out_of"] (sp_law_draw K)) {f_law_names : Addr} {fd_law_names : FuncData} (c_law_names : Cal P w K mg base CX0 3 f_law_names fd_law_names "_law_names" ["_law_purse_here", "_law_many"] (sp_law_names K)) {f_law_whole_row : Addr} {fd_law_whole_row : FuncData} (c_law_whole_row : Cal P w K mg base CX0 9 f_law_whole_row fd_law_whole_row "_law_whole_row" ["_law_purse_here", "_law_some", "_law_deep_here", "_law_targets"] (sp_law_whole_row K)) {f_law_mixed : Addr} {fd_law_mixed : FuncData} (c_law_mixed : Cal P w K mg base CX0 2 f_law_mixed fd_law_mixed "_law_mixed" ["_law_purse_here", "_law_some"] (sp_law_mixed K)) : FnOk P w K mg base CX0 10 f fd ["_law_purse_here"] (sp_law_module K) := by
  refine F.ok sc_law_module (fun vs H Q E h => spW_len h) (fun cdv A outer s H vs Q E hr h => ?_)
  refine ⟨_, (pss_cons (ps_set (i := 1) sc_law_module.nd rfl (Or.inl rfl) (pe_lst (pa_cons (pe_tup (pa_cons (pe_op op_add pe_int (pe_call c_law_draw.G (hr.mono (by decide)) (by rfl) c_law_draw.g c_law_draw.kp c_law_draw.b .nil pass0 (pa_cons (pv 0) (pa_cons pe_int pa_nil)))) (pa_cons pe_int pa_nil))) (pa_cons (pe_tup (pa_cons (pe_op op_add pe_int (pe_call c_law_draw.G (hr.mono (by decide)) (by rfl) c_law_draw.g c_law_draw.kp c_law_draw.b .nil pass0 (pa_cons (pv 0) (pa_cons pe_int pa_nil)))) (pa_cons pe_int pa_nil))) (pa_cons (pe_tup (pa_cons (pe_op op_add pe_int (pe_call c_law_draw.G (hr.mono (by decide)) (by rfl) c_law_draw.g c_law_draw.kp c_law_draw.b .nil pass0 (pa_cons (pv 0) (pa_cons pe_int pa_nil)))) (pa_cons pe_int pa_nil))) pa_nil)))))
        (pss_cons (ps_asg (pe_ix (r := rIxL K) ix_list (pv 1) (pe_ix (r := rIxL K) ix_list (pe_lst (pa_cons pe_int (pa_cons pe_int (pa_cons pe_int (pa_cons pe_int (pa_cons pe_int (pa_cons pe_int pa_nil))))))) (pe_call c_law_draw.G (hr.mono (by decide)) (by rfl) c_law_draw.g c_law_draw.kp c_law_draw.b .nil pass0 (pa_cons (pv 0) (pa_cons pe_int pa_nil))) (fun _ _ => rfl)) (fun _ _ => rfl)) (pg_tup (by rfl) (pgs_cons (pg_name (i := 2) sc_law_module.nd rfl (Or.inl rfl)) (pgs_cons (pg_name (i := 3) sc_law_module.nd rfl (Or.inl rfl)) pgs_nil))))
        (pss_cons (ps_set (i := 4) sc_law_module.nd rfl (Or.inl rfl) (pe_ix (r := rIxL K) ix_list (pe_lst (pa_cons pe_int (pa_cons pe_int (pa_cons pe_int (pa_cons pe_int (pa_cons pe_int pa_nil)))))) (pe_call c_law_draw.G (hr.mono (by decide)) (by rfl) c_law_draw.g c_law_draw.kp c_law_draw.b .nil pass0 (pa_cons (pv 0) (pa_cons pe_int pa_nil))) (fun _ _ => rfl)))
        (pss_cons (ps_setLc (i := 5) (own := [("_law_k", 12)]) (g := gName 12) (by rfl) sc_law_module.nd rfl rfl (sw_true rfl rfl rfl (by decide +kernel)) (pi_range1 (by rfl) m_range (pa_cons (pv 2) pa_nil)) (blkOk_by (N := ["_law_purse_here", "_law_sizes", "_law_many", "_law_deep_here", "_law_ins", "_law_wide", "_law_names_here", "_law_at", "_law_body", "_law_size", "_law_targets", "_law_outs", "_law_k"]) (sc := defScope s_law_module) (by decide +kernel)) (fun _ _ _ _ _ => (pg_name (i := 12) sc_law_module.nd rfl (Or.inl rfl))) (fun _ _ _ _ _ => pts_nil) (fun _ _ _ _ _ => (pe_op op_add pe_int (pe_ix (r := rIxL K) ix_list (pe_lst (pa_cons pe_int (pa_cons pe_int (pa_cons pe_int (pa_cons pe_int (pa_cons pe_int (pa_cons pe_int pa_nil))))))) (pe_call c_law_draw.G (hr.mono (by decide)) (by rfl) c_law_draw.g c_law_draw.kp c_law_draw.b .nil pass0 (pa_cons (pv 0) (pa_cons pe_int pa_nil))) (fun _ _ => rfl)))))
        (pss_cons (ps_set (i := 6) sc_law_module.nd rfl (Or.inl rfl) (pe_call c_law_names.G (hr.mono (by decide)) (by rfl) c_law_names.g c_law_names.kp c_law_names.b .nil pass0 (pa_cons (pv 0) (pa_cons (pe_op op_add (pv 4) (pe_callB (cr_sum rfl) (by rfl) m_sum (by decide +kernel) (pa_cons (pv 5) pa_nil))) pa_nil))))
        (pss_cons (ps_set (i := 7) sc_law_module.nd rfl (Or.inl rfl) (pv 4))
        (pss_cons (ps_set (i := 8) sc_law_module.nd rfl (Or.inl rfl) (pe_lst pa_nil))
        (pss_cons (ps_for PassesOwn.never rfl (pi_list (pv 5)) (pg_name (i := 9) sc_law_module.nd rfl (Or.inl rfl)) (pss_cons (ps_set (i := 10) sc_law_module.nd rfl (Or.inl rfl) (pe_callTy call_tuple_of (by rfl) m_tuple (by decide +kernel) (pa_cons (pe_slice sl_list (pv 6) (po_some (pv 7)) (po_some (pe_op op_add (pv 7) (pv 9)))) pa_nil)))
        (pss_cons (ps_set (i := 7) sc_law_module.nd rfl (Or.inl rfl) (pe_op op_add (pv 7) (pv 9)))
        (pss_one (ps_expr (pe_bm PySem.F.plainAttrs_list PySem.F.slot_list_append PySem.F.type_list_append mt_append (pv 8) (pa_cons (pe_tup (pa_cons (pv 10) (pa_cons (pe_call c_law_whole_row.G (hr.mono (by decide)) (by rfl) c_law_whole_row.g c_law_whole_row.kp c_law_whole_row.b .nil pass0 (pa_cons (pv 0) (pa_cons (pv 6) (pa_cons (pv 3) (pa_cons (pv 10) pa_nil))))) pa_nil))) pa_nil)))))))
        (pss_cons (ps_set (i := 11) sc_law_module.nd rfl (Or.inl rfl) (pe_slice sl_list (pe_call c_law_mixed.G (hr.mono (by decide)) (by rfl) c_law_mixed.g c_law_mixed.kp c_law_mixed.b .nil pass0 (pa_cons (pv 0) (pa_cons (pe_slice sl_list (pv 6) (po_some (pv 4)) po_none) pa_nil))) po_none (po_some (pe_op op_add pe_int (pe_call c_law_draw.G (hr.mono (by decide)) (by rfl) c_law_draw.g c_law_draw.kp c_law_draw.b .nil pass0 (pa_cons (pv 0) (pa_cons pe_int pa_nil)))))))
        (pss_one (ps_ret (pe_tup (pa_cons (pe_ix (r := rIxL K) ix_list (pe_lst (pa_cons pe_str (pa_cons pe_str (pa_cons pe_str (pa_cons pe_str pa_nil))))) (pe_call c_law_draw.G (hr.mono (by decide)) (by rfl) c_law_draw.g c_law_draw.kp c_law_draw.b .nil pass0 (pa_cons (pv 0) (pa_cons pe_int pa_nil))) (fun _ _ => rfl)) (pa_cons (pe_callTy call_tuple_of (by rfl) m_tuple (by decide +kernel) (pa_cons (pe_slice sl_list (pv 6) po_none (po_some (pv 4))) pa_nil)) (pa_cons (pe_callTy call_tuple_of (by rfl) m_tuple (by decide +kernel) (pa_cons (pv 11) pa_nil)) (pa_cons (pv 8) pa_nil)))))))))))))))), ?_⟩
  refine body_W (m := 12) (W := w_law_module) (fun N p c => ?_) h rfl
  have ok := @ctxD_ok K H N p c 0
  exact (fs_seq (fs_asg (fe_lst ok (fa_cons (fe_tup ok (fa_cons (fe_op fr_add fe_int (fe_draw fe_int)) (fa_cons fe_int fa_nil))) (fa_cons (fe_tup ok (fa_cons (fe_op fr_add fe_int (fe_draw fe_int)) (fa_cons fe_int fa_nil))) (fa_cons (fe_tup ok (fa_cons (fe_op fr_add fe_int (fe_draw fe_int)) (fa_cons fe_int fa_nil))) fa_nil)))) fg_name)
        (fs_seq (fs_asg (fe_op fr_ixL' fe_var (fe_op fr_ixL' (fe_lst ok (fa_cons fe_int (fa_cons fe_int (fa_cons fe_int (fa_cons fe_int (fa_cons fe_int (fa_cons fe_int fa_nil))))))) (fe_draw fe_int))) (fg_tup (fg_cons fg_name (fg_cons fg_name fg_nil))))
        (fs_seq (fs_asg (fe_op fr_ixL' (fe_lst ok (fa_cons fe_int (fa_cons fe_int (fa_cons fe_int (fa_cons fe_int (fa_cons fe_int fa_nil)))))) (fe_draw fe_int)) fg_name)
        (fs_seq (fs_asg (fe_o (fo_lc (vs := [12]) ok (fi_range1 (fa_cons fe_var fa_nil)) fg_name (by decide) ft_yes (fe_op fr_add fe_int (fe_op fr_ixL' (fe_lst ok (fa_cons fe_int (fa_cons fe_int (fa_cons fe_int (fa_cons fe_int (fa_cons fe_int (fa_cons fe_int fa_nil))))))) (fe_draw fe_int))))) fg_name)
        (fs_seq (fs_asg (fe_callW (fa_cons (fe_op fr_add fe_var (fe_cb fc_sum (fa_cons fe_var fa_nil))) fa_nil)) fg_name)
        (fs_seq (fs_asg fe_var fg_name)
        (fs_seq (fs_own' (fo_lst' ok fa_nil))
        (fs_seq (fs_for (fi_list fe_var) fg_name (fs_seq (fs_asg (fe_cb (fc_tupleOf ok) (fa_cons (fe_o (fo_slL ok fe_var (fp_some fe_var) (fp_some (fe_op fr_add fe_var fe_var)))) fa_nil)) fg_name)
        (fs_seq (fs_asg (fe_op fr_add fe_var fe_var) fg_name)
        (fs_drop (fe_append ok (fe_tup ok (fa_cons fe_var (fa_cons (fe_callW (fa_cons fe_var (fa_cons fe_var (fa_cons fe_var fa_nil)))) fa_nil))))))))
        (fs_seq (fs_asg (fe_o (fo_slL ok (fe_callW (fa_cons (fe_o (fo_slL ok fe_var (fp_some fe_var) fp_none)) fa_nil)) fp_none (fp_some (fe_op fr_add fe_int (fe_draw fe_int))))) fg_name)
        (fs_ret (fe_tup ok (fa_cons (fe_op fr_ixL' (fe_lst ok (fa_cons fe_str (fa_cons fe_str (fa_cons fe_str (fa_cons fe_str fa_nil))))) (fe_draw fe_int)) (fa_cons (fe_cb (fc_tupleOf ok) (fa_cons (fe_o (fo_slL ok fe_var fp_none (fp_some fe_var))) fa_nil)) (fa_cons (fe_cb (fc_tupleOf ok) (fa_cons fe_var fa_nil)) (fa_cons fe_var fa_nil)))))))))))))))
end
end WK
namespace WK
open PySem PySem.Spec PyProof.Rows L2 WD
theorem RowsQ.app {ks : List Str} {d : Nat} : ∀ {a b : List (List PyData × PyData)} {M N : Nat}, RowsQ ks d a M → RowsQ ks d b N → RowsQ ks d (a ++ b) (M + N)
  | [], _, _, _, .nil, h => by rw [Nat.zero_add]; exact h
  | _ :: _, _, _, _, .cons h w t, g => by rw [Nat.add_assoc]; exact .cons h w (t.app g)
theorem intsOf_map : ∀ l : List Int, intsOf (l.map .int) = some l
  | [] => rfl
  | i :: l => by
    rw [List.map_cons]
    unfold intsOf
    rw [intsOf_map l]
    rfl
theorem cutD_nat {xs : List PyData} {a b : Nat} (h : a + b ≤ xs.length) : WD.cutD xs (some (a : Int)) (some (((a + b : Nat)) : Int)) = (xs.drop a).take b := by
  unfold WD.cutD
  rw [HT.sIx_nat, HT.sIx_nat, Nat.min_eq_left (show a ≤ xs.length by omega), Nat.min_eq_left h]
  rw [show a + b - a = b by omega]
theorem cutD_from {xs : List PyData} {a : Nat} (h : a ≤ xs.length) : WD.cutD xs (some (a : Int)) none = xs.drop a := by
  unfold WD.cutD
  rw [HT.sIx_nat, HT.sIx_none, Nat.min_eq_left h, List.take_of_length_le (by rw [List.length_drop]; omega)]
theorem cutD_to {xs : List PyData} {b : Nat} : WD.cutD xs none (some (b : Int)) = xs.take b := by
  unfold WD.cutD
  rw [HT.sIx_nat, HT.sIx_none, List.drop_zero, Nat.sub_zero]
  by_cases h : b ≤ xs.length
  · rw [Nat.min_eq_left h]
  · rw [Nat.min_eq_right (by omega), List.take_of_length_le (Nat.le_refl _), List.take_of_length_le (by omega)]
abbrev enMo (sz : PyData) (many : Nat) (deep : Int) (ins : Nat) (wide : List Nat) (names : List Str) (at' : Nat) (body : List PyData) (a b : En) (w : Nat) : WD.Env :=
  ⟨[.un, .dat sz, .dat (.int (many : Nat)), .dat (.int deep), .dat (.int (ins : Nat)), .dat (.list (wide.map fun n : Nat => .int (n : Nat))), .dat (.list (names.map .str)), .dat (.int (at' : Nat)), .own body, a, b, .un, .un], w⟩
/-- what was made row by row -/
structure MadeR (names : List Str) (ins S : Nat) (rows : List (List Str × PyData)) (N at' : Nat) : Prop where
  ex : RowsQ names 4 (rows.map fun r => (r.1.map .str, r.2)) N
  few : N ≤ rows.length * S
  fl : names.take ins ++ rows.flatMap (·.1) = names.take at'
  ne : ∀ r ∈ rows, r.1 ≠ []
theorem module_loop {sz : PyData} {many ins S : Nat} {deep : Int} {wide : List Nat} {names : List Str} {P : Fl → Prop} (hn : ∀ x ∈ names, NameS x) (hnl : names.length ≤ 156)
    (hrow : ∀ ts : List Str, DrawsW f_law_whole_row [.list (names.map .str), .int deep, .tuple (ts.map .str)] 30000 (RowD names S 4 ts.length)) : ∀ (l : List Nat) (rows : List (List Str × PyData)) (N at' w : Nat) (a b : En), MadeR names ins S rows N at' → ins ≤ at' → (∀ n ∈ l, 1 ≤ n) → at' + l.sum = names.length → rows.length + l.length ≤ 100 → w + l.length * 30000 ≤ 100000000 →
    (∀ (rows2 : List (List Str × PyData)) (N2 w2 : Nat) (a b : En), MadeR names ins S rows2 N2 names.length → rows2.length = rows.length + l.length → w2 ≤ w + l.length * 30000 → P (.nx (enMo sz many deep ins wide names names.length ((rows2.map fun r => (r.1.map PyData.str, r.2)).map rowD) a b w2))) →
    wLoop (wName [0] 9) (wSeq (wAsg (wCB fTupleOf (wCons (wTell (wSlL (wVar 6) (wPart (wVar 7)) (wPart (wOp (f2I fun i j => .int (i + j)) (wVar 7) (wVar 9))))) wNil)) (wName [0] 10))
      (wSeq (wAsg (wOp (f2I fun i j => .int (i + j)) (wVar 7) (wVar 9)) (wName [0] 7))
      (wDrop (wAppend 8 (wTup (wCons (wVar 10) (wCons (wCallW 3 f_law_whole_row (wCons (wVar 6) (wCons (wVar 3) (wCons (wVar 10) wNil)))) wNil)))))))
      (l.map fun n : Nat => .int (n : Nat)) (enMo sz many deep ins wide names at' ((rows.map fun r => (r.1.map PyData.str, r.2)).map rowD) a b w) P
  | [], rows, N, at', w, a, b, h, hi, hl, hs, hc, hw, q => by
    rw [List.sum_nil, Nat.add_zero] at hs
    subst hs
    exact q rows N w a b h rfl (by omega)
  | n :: l, rows, N, at', w, a, b, h, hi, hl, hs, hc, hw, q => by
    rw [List.sum_cons] at hs
    rw [List.length_cons] at hc hw
    have h1 := hl n (.head _)
    have ecut : WD.cutD (names.map .str) (some (at' : Int)) (some ((at' : Int) + (n : Int))) = ((names.drop at').take n).map .str := by
      rw [show (at' : Int) + (n : Int) = ((at' + n : Nat) : Int) by omega, cutD_nat (by rw [List.length_map]; omega), ← List.map_drop, ← List.map_take]
    have ea : (at' : Int) + (n : Int) = ((at' + n : Nat) : Int) := by omega
    have hr := hrow ((names.drop at').take n)
    rw [← ecut] at hr
    refine ⟨rfl, by show 9 < 13; decide, rfl, by show 10 < 13; decide, rfl, by show 7 < 13; decide, rfl, rfl, hr w _ (by omega) fun z m hz hm => ?_⟩
    obtain ⟨s, z1, z2, z3⟩ := hz
    refine ⟨by show 2 ≤ 16777216; decide, (rows.map fun r => (r.1.map PyData.str, r.2)).map rowD, rfl, by rw [List.length_map, List.length_map]; omega, ?_⟩
    have tl : ((names.drop at').take n).length = n := by rw [List.length_take, List.length_drop]; omega
    have made : MadeR names ins S (rows ++ [((names.drop at').take n, z)]) (N + s) (at' + n) := {
      ex := by
        rw [List.map_append]
        have : RowsQ names 4 [(((names.drop at').take n).map PyData.str, z)] (s + 0) := .cons z2 (by rw [List.length_map]; exact z3) .nil
        rw [Nat.add_zero] at this
        exact h.ex.app this
      few := by
        have := h.few
        rw [List.length_append, List.length_cons, List.length_nil, Nat.add_mul]
        omega
      fl := by
        rw [List.flatMap_append, ← List.append_assoc, h.fl, List.flatMap_cons, List.flatMap_nil, List.append_nil]
        exact (List.take_add).symm
      ne := fun r hr => by
        rcases List.mem_append.mp hr with hr | hr
        · exact h.ne r hr
        · rw [List.mem_singleton.mp hr]
          intro e
          have := congrArg List.length e
          rw [tl] at this
          simp at this
          omega }
    have := module_loop (sz := sz) (many := many) (deep := deep) (wide := wide) (P := P) hn hnl hrow l (rows ++ [((names.drop at').take n, z)]) (N + s) (at' + n) m (.dat (.int (n : Nat))) (.dat (.tuple (((names.drop at').take n).map .str))) made (by omega) (fun k hk => hl k (.tail _ hk)) (by omega) (by rw [List.length_append]; simp only [List.length_cons, List.length_nil]; omega) (by omega) fun rows2 N2 w2 a b g1 g2 g3 => q rows2 N2 w2 a b g1 (by rw [g2, List.length_append]; simp only [List.length_cons, List.length_nil]; omega) (by rw [List.length_cons]; omega)
    rw [List.map_append, List.map_append] at this
    unfold enMo at this
    rw [← ea] at this
    have e2 : ([((names.drop at').take n, z)].map fun r : List Str × PyData => (r.1.map PyData.str, r.2)).map rowD = [.tuple [.tuple (((names.drop at').take n).map .str), z]] := rfl
    rw [e2, ← ecut] at this
    exact this
theorem six_cases {r : Nat} (h : (r : Int) < 6) : r = 0 ∨ r = 1 ∨ r = 2 ∨ r = 3 ∨ r = 4 ∨ r = 5 := by omega
theorem five_cases {r : Nat} (h : (r : Int) < 5) : r = 0 ∨ r = 1 ∨ r = 2 ∨ r = 3 ∨ r = 4 := by omega
/-- the comprehension of widths -/
theorem comp_wide {a1 a2 a3 a4 : En} {P : List PyData → WD.Env → Prop} : ∀ (xs : List PyData) (ws : List Nat) (w : Nat), (∀ n ∈ ws, 1 ≤ n ∧ n ≤ 3) → ws.length + xs.length ≤ 100 → w + xs.length ≤ 100000000 →
    (∀ ws2 : List Nat, (∀ n ∈ ws2, 1 ≤ n ∧ n ≤ 3) → ws2.length = ws.length + xs.length → P (ws2.map fun n : Nat => .int (n : Nat)) ⟨[.un, a1, a2, a3, a4, .un, .un, .un, .un, .un, .un, .un, .un], w + xs.length⟩) →
    wComp (wName [0] 12) wYes (wOp (f2I fun i j => .int (i + j)) (wK (.int 1)) (wOp fIxL (wLst (wCons (wK (.int 0)) (wCons (wK (.int 0)) (wCons (wK (.int 0)) (wCons (wK (.int 0)) (wCons (wK (.int 1)) (wCons (wK (.int 2)) wNil))))))) (wDraw (wK (.int 6))))) [12] xs [.un, a1, a2, a3, a4, .un, .un, .un, .un, .un, .un, .un, .un] w (ws.map fun n : Nat => .int (n : Nat)) P
  | [], ws, w, h, _, _, q => q ws h (by rw [List.length_nil, Nat.add_zero])
  | x :: xs, ws, w, h, l, hw, q => by
    rw [List.length_cons] at l hw
    refine ⟨rfl, by show 12 < 13; decide, by show 6 ≤ 16777216; decide, by decide, by decide, by show w ≤ 100000000; omega, fun r hr => ?_⟩
    have go : ∀ (z : Nat), z ≤ 2 → wipeE [.un, a1, a2, a3, a4, .un, .un, .un, .un, .un, .un, .un, .dat x] [12] = [.un, a1, a2, a3, a4, .un, .un, .un, .un, .un, .un, .un, .un] ∧ (ws.map fun n : Nat => PyData.int (n : Nat)).length < 16777216 ∧
        wComp (wName [0] 12) wYes (wOp (f2I fun i j => .int (i + j)) (wK (.int 1)) (wOp fIxL (wLst (wCons (wK (.int 0)) (wCons (wK (.int 0)) (wCons (wK (.int 0)) (wCons (wK (.int 0)) (wCons (wK (.int 1)) (wCons (wK (.int 2)) wNil))))))) (wDraw (wK (.int 6))))) [12] xs [.un, a1, a2, a3, a4, .un, .un, .un, .un, .un, .un, .un, .un] (w + 1) ((ws.map fun n : Nat => PyData.int (n : Nat)) ++ [.int (1 + (z : Int))]) P := fun z hz => by
      refine ⟨rfl, by rw [List.length_map]; omega, ?_⟩
      have e : (ws.map fun n : Nat => PyData.int (n : Nat)) ++ [.int (1 + (z : Int))] = (ws ++ [1 + z]).map fun n : Nat => PyData.int (n : Nat) := by
        rw [List.map_append]
        rfl
      rw [e]
      refine comp_wide xs (ws ++ [1 + z]) (w + 1) (fun n hn => ?_) (by rw [List.length_append]; simp only [List.length_cons, List.length_nil]; omega) (by omega) fun ws2 g1 g2 => ?_
      · rcases List.mem_append.mp hn with hn | hn
        · exact h n hn
        · rw [List.mem_singleton.mp hn]; omega
      · have := q ws2 g1 (by rw [g2, List.length_append, List.length_cons]; simp only [List.length_cons, List.length_nil]; omega)
        rw [List.length_cons] at this
        rw [show w + 1 + xs.length = w + (xs.length + 1) by omega]
        exact this
    rcases six_cases hr with rfl | rfl | rfl | rfl | rfl | rfl
    · exact ⟨_, rfl, go 0 (by decide)⟩
    · exact ⟨_, rfl, go 0 (by decide)⟩
    · exact ⟨_, rfl, go 0 (by decide)⟩
    · exact ⟨_, rfl, go 0 (by decide)⟩
    · exact ⟨_, rfl, go 1 (by decide)⟩
    · exact ⟨_, rfl, go 2 (by decide)⟩
theorem sum_wide : ∀ ws : List Nat, (∀ n ∈ ws, 1 ≤ n ∧ n ≤ 3) → ws.length ≤ ws.sum ∧ ws.sum ≤ 3 * ws.length
  | [], _ => ⟨Nat.le_refl _, Nat.le_refl _⟩
  | n :: ws, h => by
    have a := h n (.head _)
    have b := sum_wide ws fun m hm => h m (.tail _ hm)
    rw [List.sum_cons, List.length_cons]
    omega
theorem sum_ints : ∀ ws : List Nat, (ws.map fun n : Nat => (n : Int)).sum = ((ws.sum : Nat) : Int)
  | [] => rfl
  | n :: ws => by
    rw [List.map_cons, List.sum_cons, sum_ints ws, List.sum_cons]
    omega
end WK
namespace WK
open PySem PySem.Spec PyProof.Rows L2 WD
theorem name_main : NameS ("main" : Str) := ⟨by decide +kernel, by decide +kernel, by decide +kernel⟩
theorem name_module : NameS ("module" : Str) := ⟨by decide +kernel, by decide +kernel, by decide +kernel⟩
theorem name_long : NameS ("abcdefgh" : Str) := ⟨by decide +kernel, by decide +kernel, by decide +kernel⟩
theorem Exq.up8 {ks : List Str} {l : List (List PyData × PyData)} {N : Nat} (h : RowsQ ks 4 l N) : RowsQ ks 8 l N := by
  induction h with
  | nil => exact .nil
  | cons h w t ih => exact .cons (h.le (by decide)) w ih
/-- a drawn module -/
def ModuleD (z : PyData) : Prop := ∃ (M : Mod) (N : Nat), z = M.D ∧ ModOk M N
/-- all behind the rows -/
theorem module_end {sz : PyData} {many ins S : Nat} {deep : Int} {wide : List Nat} {names : List Str} {P : PyData → Nat → Prop} (hn : ∀ x ∈ names, NameS x) (nd : names.Nodup) (hnl : names.length ≤ 156) (hi8 : ins ≤ 8) (hS : S ≤ 200) {rows : List (List Str × PyData)} {N w : Nat} {a b : En} (h : MadeR names ins S rows N names.length) (h0 : 1 ≤ rows.length) (h60 : rows.length ≤ 60) (hin : ins ≤ names.length)
    (hN : rows.length * S ≤ 200) (hw : w + 200 ≤ 100000000) (q : ∀ z m, ModuleD z → m ≤ w + 200 → P z m) :
    (wSeq (wAsg (wTell (wSlL (wCallW 1 f_law_mixed (wCons (wTell (wSlL (wVar 6) (wPart (wVar 4)) wNoP)) wNil)) wNoP (wPart (wOp (f2I fun i j => .int (i + j)) (wK (.int 1)) (wDraw (wK (.int 8))))))) (wName [0] 11))
      (wRet (wTup (wCons (wOp fIxL (wLst (wCons (wK (.str "main")) (wCons (wK (.str "a")) (wCons (wK (.str "module")) (wCons (wK (.str "abcdefgh")) wNil))))) (wDraw (wK (.int 4)))) (wCons (wCB fTupleOf (wCons (wTell (wSlL (wVar 6) wNoP (wPart (wVar 4)))) wNil)) (wCons (wCB fTupleOf (wCons (wVar 11) wNil)) (wCons (wVar 8) wNil)))))))
      (enMo sz many deep ins wide names names.length ((rows.map fun r => (r.1.map PyData.str, r.2)).map rowD) a b w) (fun f => match f with
        | .nx ρ => P .none ρ.went
        | .rt d ρ => P d ρ.went
        | _ => False) := by
  have etgs : rows.flatMap (·.1) = names.drop ins := by
    have e := h.fl
    rw [List.take_of_length_le (Nat.le_refl _)] at e
    have e2 : names.take ins ++ rows.flatMap (·.1) = names.take ins ++ names.drop ins := by rw [e, List.take_append_drop]
    exact List.append_cancel_left e2
  have ecut : WD.cutD (names.map .str) (some (ins : Int)) none = (names.drop ins).map .str := by
    rw [cutD_from (by rw [List.length_map]; exact hin), ← List.map_drop]
  have dl : (names.drop ins).length ≤ 156 := by rw [List.length_drop]; omega
  have dm := draws_mixed (xs := names.drop ins) (fun x hx => strOk_name (hn x (List.mem_of_mem_drop hx))) (by omega)
  rw [← ecut] at dm
  refine ⟨rfl, dm w _ (by omega) fun z m hz hm => ?_⟩
  obtain ⟨ys, rfl, hp⟩ := hz
  refine ⟨by decide, by decide, by show m ≤ 100000000; omega, fun r hr => ?_⟩
  refine ⟨rfl, by show 11 < 13; decide, ?_⟩
  have hpos : 1 ≤ (names.drop ins).length := by
    rw [← etgs]
    cases rows with
    | nil => simp at h0
    | cons r0 rr =>
      have := h.ne r0 (.head _)
      rw [List.flatMap_cons, List.length_append]
      have : 0 < r0.1.length := List.length_pos_iff.mpr this
      omega
  have ylen := hp.length_eq
  have made : ∀ nm : Str, NameS nm → ModuleD (.tuple [.str nm, .tuple ((names.take ins).map .str), .tuple ((ys.take (1 + r)).map .str), .list ((rows.map fun r => (r.1.map PyData.str, r.2)).map rowD)]) := fun nm hnm => by
    refine ⟨⟨nm, names.take ins, ys.take (1 + r), rows⟩, N, rfl, ?_⟩
    have et : Mod.tgs ⟨nm, names.take ins, ys.take (1 + r), rows⟩ = names.drop ins := etgs
    have ek : names.take ins ++ Mod.tgs ⟨nm, names.take ins, ys.take (1 + r), rows⟩ = names := by rw [et, List.take_append_drop]
    have iny : ∀ x ∈ ys.take (1 + r), x ∈ names.drop ins := fun x hx => hp.mem_iff.mp (List.mem_of_mem_take hx)
    have hfew := h.few
    exact {
      name := hnm
      ins := fun x hx => hn x (List.mem_of_mem_take hx)
      insL := by show (names.take ins).length ≤ 8; rw [List.length_take]; omega
      outs := fun x hx => hn x (List.mem_of_mem_drop (iny x hx))
      outsL := by show (ys.take (1 + r)).length ≤ 8; rw [List.length_take]; omega
      outs0 := fun e => by
        have := congrArg List.length e
        simp only [List.length_take, List.length_nil] at this
        omega
      outsN := ((hp.nodup_iff.mpr (nd.sublist (List.drop_sublist _ _))).sublist (List.take_sublist _ _))
      outsT := fun x hx => by rw [et]; exact iny x hx
      rowN := fun r hr => ⟨h.ne r hr, fun x hx => by
        have : x ∈ rows.flatMap (·.1) := List.mem_flatMap.mpr ⟨r, hr, hx⟩
        rw [etgs] at this
        exact hn x (List.mem_of_mem_drop this)⟩
      rowL := h60
      tgsL := by rw [et]; omega
      nd := by rw [ek]; exact nd
      ex := by
        show RowsQ (names.take ins ++ Mod.tgs ⟨nm, names.take ins, ys.take (1 + r), rows⟩) 8 _ N
        rw [ek]
        exact Exq.up8 h.ex
      few := by omega }
  refine ⟨by show 4 ≤ 16777216; decide, by decide, by decide, by show m + 1 ≤ 100000000; omega, fun c hc => ?_⟩
  have ecut2 : WD.cutD (ys.map .str) none (some (1 + (r : Int))) = (ys.take (1 + r)).map .str := by
    rw [show 1 + (r : Int) = ((1 + r : Nat) : Int) by omega, cutD_to, ← List.map_take]
  have ecut3 : WD.cutD (names.map .str) none (some (ins : Int)) = (names.take ins).map .str := by rw [cutD_to, ← List.map_take]
  rw [← ecut2, ← ecut3] at made
  rcases four_cases hc with rfl | rfl | rfl | rfl
  · exact ⟨_, rfl, by show 4 ≤ 16777216; decide, q _ _ (made _ name_main) (by show m + 1 + 1 ≤ _; omega)⟩
  · exact ⟨_, rfl, by show 4 ≤ 16777216; decide, q _ _ (made _ name_a) (by show m + 1 + 1 ≤ _; omega)⟩
  · exact ⟨_, rfl, by show 4 ≤ 16777216; decide, q _ _ (made _ name_module) (by show m + 1 + 1 ≤ _; omega)⟩
  · exact ⟨_, rfl, by show 4 ≤ 16777216; decide, q _ _ (made _ name_long) (by show m + 1 + 1 ≤ _; omega)⟩
end WK
namespace WK
open PySem PySem.Spec PyProof.Rows L2 WD
abbrev restM : WS := (wSeq (wAsg (wOp fIxL (wLst (wCons (wK (.int 0)) (wCons (wK (.int 1)) (wCons (wK (.int 2)) (wCons (wK (.int 3)) (wCons (wK (.int 8)) wNil)))))) (wDraw (wK (.int 5)))) (wName [0] 4))
  (wSeq (wAsg (wTell (wLc [0] (wItR1 (wCons (wVar 2) wNil)) (wName [0] 12) wYes (wOp (f2I fun i j => .int (i + j)) (wK (.int 1)) (wOp fIxL (wLst (wCons (wK (.int 0)) (wCons (wK (.int 0)) (wCons (wK (.int 0)) (wCons (wK (.int 0)) (wCons (wK (.int 1)) (wCons (wK (.int 2)) wNil))))))) (wDraw (wK (.int 6))))) [12])) (wName [0] 5))
  (wSeq (wAsg (wCallW 1 f_law_names (wCons (wOp (f2I fun i j => .int (i + j)) (wVar 4) (wCB fSum (wCons (wVar 5) wNil))) wNil)) (wName [0] 6))
  (wSeq (wAsg (wVar 4) (wName [0] 7))
  (wSeq (wOwn [0] 8 (wLstO wNil))
  (wSeq (wFor (wItL (wVar 5)) (wName [0] 9) (wSeq (wAsg (wCB fTupleOf (wCons (wTell (wSlL (wVar 6) (wPart (wVar 7)) (wPart (wOp (f2I fun i j => .int (i + j)) (wVar 7) (wVar 9))))) wNil)) (wName [0] 10))
  (wSeq (wAsg (wOp (f2I fun i j => .int (i + j)) (wVar 7) (wVar 9)) (wName [0] 7))
  (wDrop (wAppend 8 (wTup (wCons (wVar 10) (wCons (wCallW 3 f_law_whole_row (wCons (wVar 6) (wCons (wVar 3) (wCons (wVar 10) wNil)))) wNil))))))))
  (wSeq (wAsg (wTell (wSlL (wCallW 1 f_law_mixed (wCons (wTell (wSlL (wVar 6) (wPart (wVar 4)) wNoP)) wNil)) wNoP (wPart (wOp (f2I fun i j => .int (i + j)) (wK (.int 1)) (wDraw (wK (.int 8))))))) (wName [0] 11))
  (wRet (wTup (wCons (wOp fIxL (wLst (wCons (wK (.str "main")) (wCons (wK (.str "a")) (wCons (wK (.str "module")) (wCons (wK (.str "abcdefgh")) wNil))))) (wDraw (wK (.int 4)))) (wCons (wCB fTupleOf (wCons (wTell (wSlL (wVar 6) wNoP (wPart (wVar 4)))) wNil)) (wCons (wCB fTupleOf (wCons (wVar 11) wNil)) (wCons (wVar 8) wNil)))))))))))))
def SizeOk (many : Nat) (deep : Int) : Prop := 1 ≤ many ∧ many ≤ 49 ∧ ∃ n n2 S : Nat, n ≤ 3 ∧ n2 ≤ 3 ∧ deep ≤ (n : Int) ∧ deep - 1 ≤ (n2 : Int) ∧ szG n ≤ S ∧ 3 * szG n2 + 1 ≤ S ∧ n + 1 ≤ 4 ∧ n2 + 2 ≤ 4 ∧ many * S ≤ 196
theorem at_ins {r : Nat} (h : (r : Int) < 5) : ∃ n : Nat, n ≤ 8 ∧ atI [PyData.int 0, .int 1, .int 2, .int 3, .int 8] (r : Int) = some (.int (n : Nat)) := by
  rcases five_cases h with rfl | rfl | rfl | rfl | rfl
  · exact ⟨0, by decide, rfl⟩
  · exact ⟨1, by decide, rfl⟩
  · exact ⟨2, by decide, rfl⟩
  · exact ⟨3, by decide, rfl⟩
  · exact ⟨8, by decide, rfl⟩
theorem at_size {r : Nat} (h : (r : Int) < 6) : ∃ n : Nat, n ≤ 2 ∧ atI [PyData.int 0, .int 0, .int 0, .int 1, .int 1, .int 2] (r : Int) = some (.int (n : Nat)) := by
  rcases six_cases h with rfl | rfl | rfl | rfl | rfl | rfl
  · exact ⟨0, by decide, rfl⟩
  · exact ⟨0, by decide, rfl⟩
  · exact ⟨0, by decide, rfl⟩
  · exact ⟨1, by decide, rfl⟩
  · exact ⟨1, by decide, rfl⟩
  · exact ⟨2, by decide, rfl⟩
theorem at_three {a b c n : Nat} (ha : (a : Int) < 4) (hb : (b : Int) < 10) (hc : (c : Int) < 20) (hn : n ≤ 2) : ∃ (many : Nat) (deep : Int), SizeOk many deep ∧ atI [PyData.tuple [.int (1 + (a : Int)), .int 3], .tuple [.int (1 + (b : Int)), .int 2], .tuple [.int (30 + (c : Int)), .int 0]] (n : Int) = some (.tuple [.int (many : Nat), .int deep]) := by
  have : n = 0 ∨ n = 1 ∨ n = 2 := by omega
  rcases this with rfl | rfl | rfl
  · exact ⟨1 + a, 3, ⟨by omega, by omega, 3, 2, 40, by decide, by decide, by decide, by decide, by decide, by decide, by decide, by decide, by omega⟩, rfl⟩
  · exact ⟨1 + b, 2, ⟨by omega, by omega, 2, 1, 13, by decide, by decide, by decide, by decide, by decide, by decide, by decide, by decide, by omega⟩, rfl⟩
  · exact ⟨30 + c, 0, ⟨by omega, by omega, 0, 0, 4, by decide, by decide, by decide, by decide, by decide, by decide, by decide, by decide, by omega⟩, rfl⟩
theorem intsOf_nats : ∀ ws : List Nat, intsOf (ws.map fun n : Nat => PyData.int (n : Nat)) = some (ws.map fun n : Nat => (n : Int))
  | [] => rfl
  | n :: ws => by
    rw [List.map_cons]
    unfold intsOf
    rw [intsOf_nats ws]
    rfl
theorem module_rest {sz : PyData} {many : Nat} {deep : Int} {w : Nat} {P : PyData → Nat → Prop} (hs : SizeOk many deep) (hw : w + 1500000 ≤ 100000000) (q : ∀ z m, ModuleD z → m ≤ w + 1500000 → P z m) :
    restM ⟨[.un, .dat sz, .dat (.int (many : Nat)), .dat (.int deep), .un, .un, .un, .un, .un, .un, .un, .un, .un], w⟩ (fun f => match f with
      | .nx ρ => P .none ρ.went
      | .rt d ρ => P d ρ.went
      | _ => False) := by
  obtain ⟨m1, m2, n, n2, S, e1, e2, e3, e4, e5, e6, e7, e8, e9⟩ := hs
  refine ⟨by show 5 ≤ 16777216; decide, by decide, by decide, by show w ≤ 100000000; omega, fun r hr => ?_⟩
  obtain ⟨ins, i1, i2⟩ := at_ins hr
  refine ⟨_, i2, rfl, by show 4 < 13; decide, by omega, by omega, ⟨rfl, rfl⟩, ?_⟩
  have lu : (upFrom 0 ((many : Nat) : Int).toNat).length = many := by rw [upFrom_len]; omega
  refine comp_wide (upFrom 0 ((many : Nat) : Int).toNat) [] (w + 1) (fun _ h => by cases h) (by rw [List.length_nil, lu]; omega) (by rw [lu]; omega) fun ws h1 h2 => ?_
  rw [lu, List.length_nil, Nat.zero_add] at h2
  rw [lu]
  obtain ⟨s1, s2⟩ := sum_wide ws h1
  have dn : DrawsW f_law_names [.int ((ins : Int) + (ws.map fun n : Nat => (n : Int)).sum)] 2000 (NamesD (ins + ws.sum)) := by
    rw [sum_ints, ← Int.natCast_add]
    exact draws_names (by omega)
  refine ⟨rfl, by show 5 < 13; decide, _, intsOf_nats ws, rfl, dn (w + 1 + many) _ (by omega) fun z m hz hm => ?_⟩
  obtain ⟨ys, rfl, y1, y2, y3⟩ := hz
  refine ⟨rfl, by show 6 < 13; decide, rfl, by show 7 < 13; decide, by decide, rfl, by show 8 < 13; decide, ?_⟩
  have y0 : ys ≠ [] := fun e => by
    rw [e, List.length_nil] at y1
    omega
  refine module_loop (sz := sz) (many := many) (ins := ins) (S := S) (deep := deep) (wide := ws) (names := ys) y2 (by omega) (fun ts => draws_row (fun x hx => ⟨y2 x hx, hx⟩) (by omega) y0 e1 e2 e3 e4 e5 e6 e7 e8) ws [] 0 ins m .un .un ⟨.nil, Nat.zero_le _, by rw [List.flatMap_nil, List.append_nil], fun r hr => by cases hr⟩ (Nat.le_refl _) (fun n hn => (h1 n hn).1) (by omega) (by rw [List.length_nil]; omega) (by omega) fun rows N w2 a b g1 g2 g3 => ?_
  rw [List.length_nil, Nat.zero_add] at g2
  have eN : rows.length * S ≤ 196 := by rw [g2, h2]; exact e9
  have eS : S ≤ 196 := by
    have : 1 * S ≤ many * S := Nat.mul_le_mul_right _ m1
    omega
  exact module_end y2 y3 (by omega) i1 (by omega) g1 (by omega) (by omega) (by omega) (by omega) (by omega) fun z m2 hz hm2 => q z m2 hz (by omega)
theorem draws_module : DrawsW f_law_module [] 2000000 ModuleD := fun w P hw q => by
  refine ⟨by decide, by decide, by show w ≤ 100000000; omega, fun a ha => ⟨by show 2 ≤ 16777216; decide, ?_⟩⟩
  refine ⟨by decide, by decide, by show w + 1 ≤ 100000000; omega, fun b hb => ⟨by show 2 ≤ 16777216; decide, ?_⟩⟩
  refine ⟨by decide, by decide, by show w + 1 + 1 ≤ 100000000; omega, fun c hc => ⟨by show 2 ≤ 16777216; decide, by show 3 ≤ 16777216; decide, rfl, by show 1 < 13; decide, ?_⟩⟩
  refine ⟨by show 6 ≤ 16777216; decide, by decide, by decide, by show w + 1 + 1 + 1 ≤ 100000000; omega, fun r hr => ?_⟩
  obtain ⟨n, n1, n2⟩ := at_size hr
  obtain ⟨many, deep, k1, k2⟩ := at_three ha hb hc n1
  refine ⟨_, n2, _, k2, rfl, rfl, by show 2 < 13; decide, rfl, by show 3 < 13; decide, rfl, ?_⟩
  exact module_rest (w := w + 1 + 1 + 1 + 1) k1 (by omega) fun z m hz hm => q z m hz (by omega)
end WK
namespace WK
open PySem PySem.Spec PyProof.Rows L2 WD
section
variable {P : Program} {w : World} {K : PySem.W.Frag} {mg : Str → Option Value} {base : Heap}
abbrev s_law_deep : Stmt := topS 81
theorem sc_law_deep : FnScope ["_law_piece", "_law_part"] ["_law_piece"] (defScope s_law_deep) := ⟨rfl, rfl, rfl, by decide +kernel, rfl, by decide +kernel, by decide +kernel⟩
def w_law_deep (g : W1) : WS := (wSeq (wIfS (wB (wIsi isList (wVar 0))) (wRet (wTell (wLc [] (wItL (wVar 0)) (wName [] 1) wYes (wCall 1 g (wCons (wVar 1) wNil)) [1]))) wNext)
  (wSeq (wIfS (wB (wIsi isTup (wVar 0))) (wRet (wCB fTupleOf (wCons (wTell (wLc [] (wItT (wVar 0)) (wName [] 1) wYes (wCall 1 g (wCons (wVar 1) wNil)) [1])) wNil))) wNext)
  (wRet (wVar 0))))
theorem st_law_deep {n : Nat} {g : W1} {f : Addr} {fd : FuncData} (F : Fun K "_law_deep" "_law_deep" s_law_deep f fd) (m_isinstance : mg "isinstance" = none) (m_list : mg "list" = none) (m_tuple : mg "tuple" = none) {f_law_deep : Addr} {fd_law_deep : FuncData} (c_law_deep : Cal P w K mg base CX0 (n + 0) f_law_deep fd_law_deep "_law_deep" ["_law_piece"] (spD 1 g K)) : FnOk P w K mg base CX0 (n + 0 + 1) f fd ["_law_piece"] (spD 1 (wBody 1 (w_law_deep g)) K) := by
  refine F.ok sc_law_deep (fun vs H Q E h => spD_len h) (fun cdv A outer s H vs Q E hr h => ?_)
  refine ⟨_, (pss_cons (ps_if (pt_val (pe_callB call_isi (by rfl) m_isinstance (by decide +kernel) (pa_cons (pv 0) (pa_cons (pe_bltn (v := .ty "list") (by rfl) m_list (by decide +kernel) rfl) pa_nil)))) (pss_one (ps_ret (pe_lc (own := [("_law_part", 1)]) (g := gName 1) (by rfl) sc_law_deep.nd (pi_list (pv 0)) (blkOk_by (N := ["_law_piece", "_law_part"]) (sc := defScope s_law_deep) (by decide +kernel)) (fun _ _ _ _ _ => (pg_name (i := 1) sc_law_deep.nd rfl (Or.inl rfl))) (fun _ _ _ _ _ => pts_nil) (fun _ _ _ _ _ => (pe_call c_law_deep.G (hr.mono (by omega)) (by rfl) c_law_deep.g c_law_deep.kp c_law_deep.b .nil pass0 (pa_cons (pv 1) pa_nil)))))) pss_nil)
        (pss_cons (ps_if (pt_val (pe_callB call_isi (by rfl) m_isinstance (by decide +kernel) (pa_cons (pv 0) (pa_cons (pe_bltn (v := .ty "tuple") (by rfl) m_tuple (by decide +kernel) rfl) pa_nil)))) (pss_one (ps_ret (pe_callTy call_tuple_of (by rfl) m_tuple (by decide +kernel) (pa_cons (pe_lc (own := [("_law_part", 1)]) (g := gName 1) (by rfl) sc_law_deep.nd (pi_tup (pv 0)) (blkOk_by (N := ["_law_piece", "_law_part"]) (sc := defScope s_law_deep) (by decide +kernel)) (fun _ _ _ _ _ => (pg_name (i := 1) sc_law_deep.nd rfl (Or.inl rfl))) (fun _ _ _ _ _ => pts_nil) (fun _ _ _ _ _ => (pe_call c_law_deep.G (hr.mono (by omega)) (by rfl) c_law_deep.g c_law_deep.kp c_law_deep.b .nil pass0 (pa_cons (pv 1) pa_nil)))) pa_nil)))) pss_nil)
        (pss_one (ps_ret (pv 0))))), ?_⟩
  refine body_D (m := 1) (W := w_law_deep g) (fun N => ?_) h rfl
  have ok := @ctxP_ok K H N
  exact (fs_seq (fs_if (ft_b (fe_isi kList fe_var)) (fs_ret (fe_o (fo_lc (vs := [1]) ok (fi_list fe_var) fg_name (by decide) ft_yes (fe_callD ok (fa_cons fe_var fa_nil))))) fs_next)
        (fs_seq (fs_if (ft_b (fe_isi kTup fe_var)) (fs_ret (fe_cb (fc_tupleOf ok) (fa_cons (fe_o (fo_lc (vs := [1]) ok (fi_tup fe_var) fg_name (by decide) ft_yes (fe_callD ok (fa_cons fe_var fa_nil)))) fa_nil))) fs_next)
        (fs_ret fe_var)))
end
end WK
namespace WK
open PySem PySem.Spec PyProof.Rows L2 WD
def deepB : Nat → W1
  | 0 => fun _ _ => False
  | n + 1 => wBody 1 (w_law_deep (deepB n))
def f_law_deep : W1 := deepB 14
def sp_law_deep (K : PySem.W.Frag) : Sp := spD 1 f_law_deep K
section
variable {P : Program} {w : World} {K : PySem.W.Frag} {mg : Str → Option Value} {base : Heap}
theorem deep_all {f : Addr} {fd : FuncData} (hf : mg "_law_deep" = some (.ref f)) (F : Fun K "_law_deep" "_law_deep" s_law_deep f fd) (m_isinstance : mg "isinstance" = none) (m_list : mg "list" = none) (m_tuple : mg "tuple" = none) :
    ∀ n, FnOk P w K mg base CX0 n f fd ["_law_piece"] (spD 1 (deepB n) K)
  | 0 => ⟨fun _ _ _ _ h => (by obtain ⟨_, _, _, _, _, _, e, _⟩ := h; exact e.elim), fun _ _ _ _ _ _ _ _ _ _ _ _ _ h => (by obtain ⟨_, _, _, _, _, _, e, _⟩ := h; exact e.elim)⟩
  | n + 1 => st_law_deep F m_isinstance m_list m_tuple (f_law_deep := f) (fd_law_deep := fd) ⟨deep_all hf F m_isinstance m_list m_tuple n, hf, F.kp, F.binds (ps := ["_law_piece"]) fun _ _ _ _ _ _ us hl => match us, hl with | [_], _ => rfl⟩
end
end WK
namespace WK
open PySem PySem.Spec PyProof.Rows L2 WD
section
variable {P : Program} {w : World} {K : PySem.W.Frag} {mg : Str → Option Value} {base : Heap}
abbrev s_fresh : Stmt := topS 5
theorem sc_fresh : FnScope ["thing", "part", "key"] ["thing"] (defScope s_fresh) := ⟨rfl, rfl, rfl, by decide +kernel, rfl, by decide +kernel, by decide +kernel⟩
def w_fresh (g : W1) : WS := (wSeq (wIfS (wB (wIsi isList (wVar 0))) (wRet (wTell (wLc [] (wItL (wVar 0)) (wName [] 1) wYes (wCall 1 g (wCons (wVar 1) wNil)) [1]))) wNext)
  (wSeq (wIfS (wB (wIsi isTup (wVar 0))) (wRet (wCB fTupleOf (wCons (wTell (wLc [] (wItT (wVar 0)) (wName [] 1) wYes (wCall 1 g (wCons (wVar 1) wNil)) [1])) wNil))) wNext)
  (wSeq (wIfS (wB (wIsi isDict (wVar 0))) wNever wNext)
  (wRet (wVar 0)))))
theorem st_fresh {n : Nat} {g : W1} {f : Addr} {fd : FuncData} (F : Fun K "fresh" "fresh" s_fresh f fd) (m_dict : mg "dict" = none) (m_isinstance : mg "isinstance" = none) (m_list : mg "list" = none) (m_tuple : mg "tuple" = none) {f_fresh : Addr} {fd_fresh : FuncData} (c_fresh : Cal P w K mg base CX0 (n + 0) f_fresh fd_fresh "fresh" ["thing"] (spD 1 g K)) : FnOk P w K mg base CX0 (n + 0 + 1) f fd ["thing"] (spD 1 (wBody 2 (w_fresh g)) K) := by
  refine F.ok sc_fresh (fun vs H Q E h => spD_len h) (fun cdv A outer s H vs Q E hr h => ?_)
  refine ⟨_, (pss_cons (ps_if (pt_val (pe_callB call_isi (by rfl) m_isinstance (by decide +kernel) (pa_cons (pv 0) (pa_cons (pe_bltn (v := .ty "list") (by rfl) m_list (by decide +kernel) rfl) pa_nil)))) (pss_one (ps_ret (pe_lc (own := [("part", 1)]) (g := gName 1) (by rfl) sc_fresh.nd (pi_list (pv 0)) (blkOk_by (N := ["thing", "part", "key"]) (sc := defScope s_fresh) (by decide +kernel)) (fun _ _ _ _ _ => (pg_name (i := 1) sc_fresh.nd rfl (Or.inl rfl))) (fun _ _ _ _ _ => pts_nil) (fun _ _ _ _ _ => (pe_call c_fresh.G (hr.mono (by omega)) (by rfl) c_fresh.g c_fresh.kp c_fresh.b .nil pass0 (pa_cons (pv 1) pa_nil)))))) pss_nil)
        (pss_cons (ps_if (pt_val (pe_callB call_isi (by rfl) m_isinstance (by decide +kernel) (pa_cons (pv 0) (pa_cons (pe_bltn (v := .ty "tuple") (by rfl) m_tuple (by decide +kernel) rfl) pa_nil)))) (pss_one (ps_ret (pe_callTy call_tuple_of (by rfl) m_tuple (by decide +kernel) (pa_cons (pe_lc (own := [("part", 1)]) (g := gName 1) (by rfl) sc_fresh.nd (pi_tup (pv 0)) (blkOk_by (N := ["thing", "part", "key"]) (sc := defScope s_fresh) (by decide +kernel)) (fun _ _ _ _ _ => (pg_name (i := 1) sc_fresh.nd rfl (Or.inl rfl))) (fun _ _ _ _ _ => pts_nil) (fun _ _ _ _ _ => (pe_call c_fresh.G (hr.mono (by omega)) (by rfl) c_fresh.g c_fresh.kp c_fresh.b .nil pass0 (pa_cons (pv 1) pa_nil)))) pa_nil)))) pss_nil)
        (pss_cons (ps_if (pt_val (pe_callB call_isi (by rfl) m_isinstance (by decide +kernel) (pa_cons (pv 0) (pa_cons (pe_bltn (v := .ty "dict") (by rfl) m_dict (by decide +kernel) rfl) pa_nil)))) (pss_one ps_never) pss_nil)
        (pss_one (ps_ret (pv 0)))))), ?_⟩
  refine body_D (m := 2) (W := w_fresh g) (fun N => ?_) h rfl
  have ok := @ctxP_ok K H N
  exact (fs_seq (fs_if (ft_b (fe_isi kList fe_var)) (fs_ret (fe_o (fo_lc (vs := [1]) ok (fi_list fe_var) fg_name (by decide) ft_yes (fe_callD ok (fa_cons fe_var fa_nil))))) fs_next)
        (fs_seq (fs_if (ft_b (fe_isi kTup fe_var)) (fs_ret (fe_cb (fc_tupleOf ok) (fa_cons (fe_o (fo_lc (vs := [1]) ok (fi_tup fe_var) fg_name (by decide) ft_yes (fe_callD ok (fa_cons fe_var fa_nil)))) fa_nil))) fs_next)
        (fs_seq (fs_if (ft_b (fe_isi kDict fe_var)) fs_never fs_next)
        (fs_ret fe_var))))
end
end WK
namespace WK
open PySem PySem.Spec PyProof.Rows L2 WD
mutual
/-- without dicts, no list too long -/
def narrow : PyData → Bool
  | .list ds => decide (ds.length ≤ 100000) && narrows ds
  | .tuple ds => decide (ds.length ≤ 100000) && narrows ds
  | .dict _ => false
  | _ => true
def narrows : List PyData → Bool
  | [] => true
  | d :: ds => narrow d && narrows ds
end
theorem narrows_of : ∀ {l : List PyData}, (∀ d ∈ l, narrow d = true) → narrows l = true
  | [], _ => rfl
  | d :: l, h => by
    simp only [narrows, Bool.and_eq_true]
    exact ⟨h d (.head _), narrows_of fun x m => h x (.tail _ m)⟩
theorem narrows_mem : ∀ {l : List PyData}, narrows l = true → ∀ d ∈ l, narrow d = true
  | d :: l, h, x, m => by
    simp only [narrows, Bool.and_eq_true] at h
    rcases List.mem_cons.mp m with rfl | m
    · exact h.1
    · exact narrows_mem h.2 x m
theorem narrow_list {l : List PyData} (h : l.length ≤ 100000) (g : ∀ d ∈ l, narrow d = true) : narrow (.list l) = true := by
  simp only [narrow, Bool.and_eq_true, decide_eq_true_eq]
  exact ⟨h, narrows_of g⟩
theorem narrow_tuple {l : List PyData} (h : l.length ≤ 100000) (g : ∀ d ∈ l, narrow d = true) : narrow (.tuple l) = true := by
  simp only [narrow, Bool.and_eq_true, decide_eq_true_eq]
  exact ⟨h, narrows_of g⟩
theorem depth_mem : ∀ {l : List PyData} {d : PyData}, d ∈ l → d.depth ≤ PyData.depthAll l
  | e :: l, d, m => by
    simp only [PyData.depthAll]
    rcases List.mem_cons.mp m with rfl | m
    · omega
    · have := depth_mem m
      omega
theorem comp_same {g : W1} {sl : List En} {P : List PyData → WD.Env → Prop} (h1 : 1 < sl.length) (h2 : sl[1]? = some .un) : ∀ (ds acc : List PyData), (∀ d ∈ ds, TellsW g [d] d) → acc.length + ds.length ≤ 1000000 → P (acc ++ ds) ⟨sl, 0⟩ →
    wComp (wName [] 1) wYes (wCall 1 g (wCons (wVar 1) wNil)) [1] ds sl 0 acc P
  | [], acc, _, _, p => by
    rw [List.append_nil] at p
    exact p
  | d :: ds, acc, h, b, p => by
    rw [List.length_cons] at b
    have ih := comp_same h1 h2 (P := P) ds (acc ++ [d]) (fun x m => h x (.tail _ m)) (by rw [List.length_append]; simp only [List.length_cons, List.length_nil]; omega) (by rw [List.append_assoc]; exact p)
    refine ⟨rfl, h1, ?_⟩
    have ev : (WD.Env.at ⟨sl.set 1 (.dat d), 0⟩ 1) = .dat d := by
      unfold WD.Env.at
      rw [List.getD_eq_getElem?_getD, List.getElem?_set_self h1]
      rfl
    have ew : (sl.set 1 (.dat d)).set 1 .un = sl := by
      rw [List.set_set]
      have : sl[1] = .un := by rw [List.getElem?_eq_getElem h1] at h2; exact Option.some.inj h2
      rw [← this]
      exact List.set_getElem_self h1
    show (fun k ρ3 => if k = true then wCall 1 g (wCons (wVar 1) wNil) ρ3 (fun z ρ4 => wipeE ρ4.sl [1] = sl ∧ acc.length < 16777216 ∧ wComp (wName [] 1) wYes (wCall 1 g (wCons (wVar 1) wNil)) [1] ds sl ρ4.went (acc ++ [z]) P) else wipeE ρ3.sl [1] = sl ∧ wComp (wName [] 1) wYes (wCall 1 g (wCons (wVar 1) wNil)) [1] ds sl ρ3.went acc P) true ⟨sl.set 1 (.dat d), 0⟩
    show wVar 1 ⟨sl.set 1 (.dat d), 0⟩ _
    unfold wVar
    rw [ev]
    exact ⟨rfl, h d (.head _) _ ⟨ew, by omega, ih⟩⟩
theorem tells_deep : ∀ (n : Nat) (d : PyData), narrow d = true → d.depth < n → TellsW (deepB n) [d] d
  | 0, _, _, h => by omega
  | n + 1, .none, _, _ => fun P p => p
  | n + 1, .bool _, _, _ => fun P p => p
  | n + 1, .int _, _, _ => fun P p => p
  | n + 1, .str _, _, _ => fun P p => p
  | n + 1, .dict _, h, _ => by simp [narrow] at h
  | n + 1, .list ds, h, hd => fun P p => by
    simp only [narrow, Bool.and_eq_true, decide_eq_true_eq] at h
    simp only [PyData.depth] at hd
    have ih : ∀ d ∈ ds, TellsW (deepB n) [d] d := fun d m => tells_deep n d (narrows_mem h.2 d m) (by have := depth_mem m; omega)
    exact ⟨⟨rfl, rfl⟩, comp_same (by show 1 < 2; decide) rfl ds [] ih (by rw [List.length_nil]; omega) p⟩
  | n + 1, .tuple ds, h, hd => fun P p => by
    simp only [narrow, Bool.and_eq_true, decide_eq_true_eq] at h
    simp only [PyData.depth] at hd
    have ih : ∀ d ∈ ds, TellsW (deepB n) [d] d := fun d m => tells_deep n d (narrows_mem h.2 d m) (by have := depth_mem m; omega)
    exact ⟨⟨rfl, rfl⟩, comp_same (by show 1 < 2; decide) rfl ds [] ih (by rw [List.length_nil]; omega) p⟩
/-! ### fresh -/
def freshB : Nat → W1
  | 0 => fun _ _ => False
  | n + 1 => wBody 2 (w_fresh (freshB n))
def f_fresh : W1 := freshB 12
def sp_fresh (K : PySem.W.Frag) : Sp := spD 1 f_fresh K
theorem tells_freshB : ∀ (n : Nat) (d : PyData), narrow d = true → d.depth < n → TellsW (freshB n) [d] d
  | 0, _, _, h => by omega
  | n + 1, .none, _, _ => fun P p => p
  | n + 1, .bool _, _, _ => fun P p => p
  | n + 1, .int _, _, _ => fun P p => p
  | n + 1, .str _, _, _ => fun P p => p
  | n + 1, .dict _, h, _ => by simp [narrow] at h
  | n + 1, .list ds, h, hd => fun P p => by
    simp only [narrow, Bool.and_eq_true, decide_eq_true_eq] at h
    simp only [PyData.depth] at hd
    have ih : ∀ d ∈ ds, TellsW (freshB n) [d] d := fun d m => tells_freshB n d (narrows_mem h.2 d m) (by have := depth_mem m; omega)
    exact ⟨⟨rfl, rfl⟩, comp_same (by show 1 < 3; decide) rfl ds [] ih (by rw [List.length_nil]; omega) p⟩
  | n + 1, .tuple ds, h, hd => fun P p => by
    simp only [narrow, Bool.and_eq_true, decide_eq_true_eq] at h
    simp only [PyData.depth] at hd
    have ih : ∀ d ∈ ds, TellsW (freshB n) [d] d := fun d m => tells_freshB n d (narrows_mem h.2 d m) (by have := depth_mem m; omega)
    exact ⟨⟨rfl, rfl⟩, comp_same (by show 1 < 3; decide) rfl ds [] ih (by rw [List.length_nil]; omega) p⟩
section
variable {P : Program} {w : World} {K : PySem.W.Frag} {mg : Str → Option Value} {base : Heap}
theorem fresh_all {f : Addr} {fd : FuncData} (hf : mg "fresh" = some (.ref f)) (F : Fun K "fresh" "fresh" s_fresh f fd) (m_dict : mg "dict" = none) (m_isinstance : mg "isinstance" = none) (m_list : mg "list" = none) (m_tuple : mg "tuple" = none) :
    ∀ n, FnOk P w K mg base CX0 n f fd ["thing"] (spD 1 (freshB n) K)
  | 0 => ⟨fun _ _ _ _ h => (by obtain ⟨_, _, _, _, _, _, e, _⟩ := h; exact e.elim), fun _ _ _ _ _ _ _ _ _ _ _ _ _ h => (by obtain ⟨_, _, _, _, _, _, e, _⟩ := h; exact e.elim)⟩
  | n + 1 => st_fresh F m_dict m_isinstance m_list m_tuple (f_fresh := f) (fd_fresh := fd) ⟨fresh_all hf F m_dict m_isinstance m_list m_tuple n, hf, F.kp, F.binds (ps := ["thing"]) fun _ _ _ _ _ _ us hl => match us, hl with | [_], _ => rfl⟩
theorem ok_fresh {f : Addr} {fd : FuncData} (hf : mg "fresh" = some (.ref f)) (F : Fun K "fresh" "fresh" s_fresh f fd) (m_dict : mg "dict" = none) (m_isinstance : mg "isinstance" = none) (m_list : mg "list" = none) (m_tuple : mg "tuple" = none) : FnOk P w K mg base CX0 12 f fd ["thing"] (sp_fresh K) := fresh_all hf F m_dict m_isinstance m_list m_tuple 12
theorem ok_law_deep {f : Addr} {fd : FuncData} (hf : mg "_law_deep" = some (.ref f)) (F : Fun K "_law_deep" "_law_deep" s_law_deep f fd) (m_isinstance : mg "isinstance" = none) (m_list : mg "list" = none) (m_tuple : mg "tuple" = none) : FnOk P w K mg base CX0 14 f fd ["_law_piece"] (sp_law_deep K) := deep_all hf F m_isinstance m_list m_tuple 14
end
end WK
namespace WK
open PySem PySem.Spec PyProof.Rows L2 WD
abbrev s_NoPlace_init : Stmt := inClass (topS 9) 0
theorem sc_NoPlace_init : FnScope ["self", "place"] ["self", "place"] (defScope s_NoPlace_init) := ⟨rfl, rfl, rfl, by decide +kernel, rfl, by decide +kernel, by decide +kernel⟩
section
variable {P : Program} {w : World} {K : PySem.W.Frag} {mg : Str → Option Value} {base : Heap}
def sp_NoPlace_init (K : PySem.W.Frag) : Sp := fun vs H Q _ => ∃ (a C : Addr) (v : V) (d : PyData) (N : Addr → Prop), vs = [.ref a, v] ∧ OexC K C ∧ PySem.W.findIn K (.ref C) "place" = some none ∧ H a = some (exo a C none) ∧ Dn K H N v d ∧ (∀ b, N b → H b ≠ none) ∧ narrow d = true ∧ d.depth < 12 ∧
  ∀ H1 u dd N1, Same H H1 → Dn K H1 N1 u d → (∀ b, N1 b → N b ∨ H b = none) → H1 dd = none → dd ≠ a → Q .non (upd (upd H1 dd (exd dd [("place", u)])) a (exo a C (some dd)))
theorem ok_NoPlace_init {f : Addr} {fd : FuncData} (F : Fun K "__init__" "NoPlace.__init__" s_NoPlace_init f fd) {f_fresh : Addr} {fd_fresh : FuncData} (c_fresh : Cal P w K mg base CX0 12 f_fresh fd_fresh "fresh" ["thing"] (sp_fresh K)) : FnOk P w K mg base CX0 13 f fd ["self", "place"] (sp_NoPlace_init K) := by
  refine F.ok sc_NoPlace_init (fun vs H Q E h => ?_) (fun cdv A outer s H vs Q E hr h => ?_)
  · obtain ⟨_, _, _, _, _, rfl, _⟩ := h
    rfl
  · obtain ⟨a, C, v, d, N, rfl, T, hno, ha, hd, hN, hn, hdep, q⟩ := h
    refine ⟨_, (pss_one (ps_ost (pv 0) (pe_call c_fresh.G (hr.mono (by decide)) (by rfl) c_fresh.g c_fresh.kp c_fresh.b .nil pass0 (pa_cons (pv 1) pa_nil)))), ?_⟩
    refine ⟨_, rfl, N, [d], _, rfl, .cons hd .nil, hN, tells_freshB 12 d hn hdep _ rfl, fun u H1 N1 z ez n1 n2 n3 s1 hu => ?_⟩
    subst ez
    exact ⟨_, rfl, a, C, rfl, T, hno, .inl ⟨s1 _ _ ha, fun dd nd ne => q H1 u dd N1 s1 hu n2 nd ne⟩⟩
end
end WK
namespace WK
open PySem PySem.Spec PyProof.Rows L2 WD
section
variable {P : Program} {w : World} {K : PySem.W.Frag} {mg : Str → Option Value} {base : Heap}
/-- no place: refused, with a copy of what was handed in -/
def sp_e_at (K : PySem.W.Frag) : Sp := fun vs H Q E => ∃ (N : Addr → Prop) (dm dp : PyData), Dns K H N vs [dm, dp] ∧ (∀ b, N b → H b ≠ none) ∧ (∃ z, TellsW f_check_module [dm] z) ∧ TellsW f_found [dm, dp] .none ∧ narrow dp = true ∧ dp.depth < 12 ∧
  ∀ C d u N1 H1, PySem.W.nsIn K mainGlobals "NoPlace" = some (some (.ref C)) → Same H H1 → H1 d = some (.xd [("place", u)]) → Dn K H1 N1 u dp → (∀ b, N1 b → N b ∨ H b = none) → E (.ref C) (some d) H1
theorem ok_e_at {f : Addr} {fd : FuncData} (F : Fun K "e_at" "e_at" s_e_at f fd) {f_check_module : Addr} {fd_check_module : FuncData} (c_check_module : Cal P w K mg base CX0 10 f_check_module fd_check_module "check_module" ["thing"] (sp_check_module K)) {f_found : Addr} {fd_found : FuncData} (c_found : Cal P w K mg base CX0 3 f_found fd_found "_found" ["module", "place"] (sp_found K)) {f_copied_e : Addr} {fd_copied_e : FuncData} (c_copied_e : Cal P w K mg base CX0 1 f_copied_e fd_copied_e "copied_e" ["e"] (sp_copied_e K)) {C_NoPlace f_NoPlacei : Addr} {fd_NoPlacei : FuncData} (x_NoPlace : XCal P w K mg base 13 "NoPlace" C_NoPlace f_NoPlacei fd_NoPlacei ["self", "place"] ["place"] (sp_NoPlace_init K)) : FnOk P w K mg base (L2.CX P w) 15 f fd ["module", "place"] (sp_e_at K) := by
  refine F.okX sc_e_at (fun vs H Q E h => ?_) (fun cdv A outer s H vs Q E hr h => ?_)
  · obtain ⟨_, _, _, t, _⟩ := h
    exact t.len
  · obtain ⟨N, dm, dp, t, hN, ⟨z1, w1⟩, w2, hn, hdep, q⟩ := h
    refine ⟨_, (pss_cons (ps_expr (pe_call c_check_module.G (hr.mono (by decide)) (by rfl) c_check_module.g c_check_module.kp c_check_module.b .nil pass0 (pa_cons (pv 0) pa_nil)))
      (pss_cons (ps_set (i := 2) sc_e_at.nd rfl (Or.inl rfl) (pe_call c_found.G (hr.mono (by decide)) (by rfl) c_found.g c_found.kp c_found.b .nil pass0 (pa_cons (pv 0) (pa_cons (pv 1) pa_nil))))
      (pss_cons (ps_if (pt_cmpR op_isN (pv 2) pe_non (nomark _))
        (pss_one (ps_raise rfl (takes_of rfl rfl rfl rfl) (pmk_oex x_NoPlace.T x_NoPlace.iC x_NoPlace.tI x_NoPlace.G (hr.mono (by decide)) x_NoPlace.b .nil pass0 (by rfl) x_NoPlace.g (pa_cons (pv 1) pa_nil))))
        pss_nil)
      (pss_one (ps_ret (pe_call c_copied_e.G (hr.mono (by decide)) (by rfl) c_copied_e.g c_copied_e.kp c_copied_e.b .nil pass0 (pa_cons (pv 2) pa_nil))))))), ?_⟩
    have ok := @ctxP_ok K H N
    have r0 := rep0 (n := 1) t hN
    have hl := t.len
    obtain ⟨vm, vs, rfl⟩ : ∃ a b, vs = a :: b := by cases t; exact ⟨_, _, rfl⟩
    obtain ⟨vp, vs, rfl⟩ : ∃ a b, vs = a :: b := by cases t with | cons _ t => cases t; exact ⟨_, _, rfl⟩
    obtain rfl : vs = [] := by cases vs with | nil => rfl | cons _ _ => cases hl
    refine fe_callD (C := ctxP K H N) (n := 1) (f := WK.f_check_module) ok (fa_cons fe_var fa_nil) _ H _ N _ (fun _ ρ => ρ = env0 [dm, dp] 1) r0 ⟨rfl, ?_⟩ fun v1 H1 N1 ρ1 d1 p1 n1 f1 r1 h1 => ?_
    · exact w1 _ rfl
    subst p1
    refine fe_callD (C := ctxP K H N) (n := 2) (f := WK.f_found) ok (fa_cons fe_var (fa_cons fe_var fa_nil)) _ H1 _ N1 _ (fun z ρ => z = .none ∧ ρ = env0 [dm, dp] 1) r1 ⟨rfl, ?_⟩ fun v2 H2 N2 ρ2 d2 p2 n2 f2 r2 h2 => ?_
    · exact w2 _ ⟨rfl, rfl⟩
    obtain ⟨e2, e3⟩ := p2
    subst e2
    subst e3
    cases h2
    have s1 : Same H H2 := fun b o x => r2.old b o x fun z => z
    obtain ⟨vp', ep, hp⟩ := r2.dat 1 dp rfl
    have ep : vp' = vp := by
      have ep : (some (some vp) : Option (Option V)) = some (some vp') := ep
      exact (Option.some.inj (Option.some.inj ep)).symm
    subst ep
    show tSeq _ _ _ [some vm, some vp', some V.non] H2
    refine ⟨_, rfl, rfl, _, rfl, ?_⟩
    show (if decide (V.non = V.non) = true then _ else _)
    rw [if_pos (by decide)]
    refine ⟨_, rfl, by show 1 ≤ 1000; decide, fun a na => ?_⟩
    have sa : Same H2 (upd H2 a (exo a C_NoPlace none)) := same_upd na
    have hp : Dn K H2 N2 vp' dp := hp
    refine ⟨a, C_NoPlace, vp', dp, N2, rfl, x_NoPlace.T, x_NoPlace.no _ List.mem_cons_self, upd_same, hp.mono (.upd na) (fun _ h => h), fun b n z => r2.has b n (none_back sa z), hn, hdep, fun H3 u dd N3 s3 hu n3 nd ne => ⟨rfl, dd, [("place", u)], upd_same, by rw [upd_ne ne, upd_same], none_back (sa.trans s3) nd, ?_⟩⟩
    have h3a : H3 a = some (exo a C_NoPlace none) := s3 _ _ upd_same
    have off : ∀ b, b ≠ a → b ≠ dd → (upd (del (upd (upd H3 dd (exd dd [("place", u)])) a (exo a C_NoPlace (some dd))) a) dd (HO.xd [("place", u)])) b = H3 b := fun b z1 z2 => by
      rw [upd_ne z2, del_ne z1, upd_ne z1, upd_ne z2]
    have n3a : ¬ N3 a := fun z => by
      rcases n3 a z with z | z
      · exact r2.has a z na
      · rw [upd_same] at z; cases z
    refine q C_NoPlace dd u N3 _ x_NoPlace.a (fun b o e => ?_) upd_same (hu.mono ⟨fun b o n e => ?_, fun b xs e => ?_⟩ fun _ h => h) fun b n => ?_
    · have e2 := s1 b o e
      have e3 := s3 b o (sa b o e2)
      rw [off b (fun z => by rw [z, na] at e2; cases e2) (fun z => by rw [z, nd] at e3; cases e3)]
      exact e3
    · rw [off b (fun z => n3a (z ▸ n)) (fun z => by rw [z, nd] at e; cases e)]
      exact e
    · have go : ∀ o, H3 b = some o → (∀ xo, o ≠ exo a xo none) → (upd (del (upd (upd H3 dd (exd dd [("place", u)])) a (exo a C_NoPlace (some dd))) a) dd (HO.xd [("place", u)])) b = some o := fun o e no => by
        rw [off b (fun z => by rw [z, h3a] at e; exact no _ (Option.some.inj e).symm) (fun z => by rw [z, nd] at e; cases e)]
        exact e
      rcases e with (e | ⟨o, e⟩) | e
      · exact .inl (.inl (go _ e fun _ z => nomatch z))
      · exact .inl (.inr ⟨o, go _ e fun _ z => nomatch z⟩)
      · exact .inr e
    · rcases n3 b n with n | n
      · exact (r2.new b n).1
      · exact .inr (none_back s1 (none_back sa n))
end
end WK
namespace WD
open PySem PySem.Spec PyProof.Rows L2 PySem.Builtin.Str
/-! ### str(x) of any thing, where no text is being made around -/
theorem str_of_none {prog : Program} {w : World} {A : Around} {E : Value → Shared → Prop} {s : Shared} {Q : Value → Shared → Prop} (h : Q (.str "None" s.toks) { s with toks := s.toks + 1 }) : wpAny (model prog w) A (call (.type "str") [.none]) Q E s :=
  callType_new F.called_str (by decide) (F.typeCall_str_1 _) (F.newCall_str_1 _) (fun obj => F.args_object_init_2 obj _) F.entry_str_new
    (meets_str_new (S := fun _ R s => R (.ok (.ret (.str "None" s.toks))) { s with toks := s.toks + 1 }) fun _ _ _ _ s hq =>
      wpAny_strOf_gives rfl (typeIs_none s) F.slot_NoneType_str F.slot_NoneType_repr F.entry_NoneType_repr (F.args_NoneType_repr_1 _) gives_none_repr hq (hsz := by decide)) ⟨typeIs_str _ _ _, h⟩
@[irreducible] def strD : PyData → Str
  | .str x => x
  | d => d.shown
theorem strD_bl (b : Bool) : strD (.bool b) = (PyData.bool b).shown := by unfold strD; rfl
theorem strD_int (i : Int) : strD (.int i) = (PyData.int i).shown := by unfold strD; rfl
theorem strD_non : strD .none = PyData.none.shown := by unfold strD; rfl
theorem strD_str (x : Str) : strD (.str x) = x := by unfold strD; rfl
theorem strD_tup (xs : List PyData) : strD (.tuple xs) = (PyData.tuple xs).shown := by unfold strD; rfl
theorem strD_lst (xs : List PyData) : strD (.list xs) = (PyData.list xs).shown := by unfold strD; rfl
/-- what str(x) asks -/
structure StrOk (d : PyData) : Prop where
  lay : d.canLay0 = true
  nod : noDict d = true
  vis : d.showable = true
  dep : d.depth ≤ 40
  len : d.shown.length ≤ 16777216
def rStrA (K : PySem.W.Frag) : List V → Hp → VK → Prop := fun vs H Q => ∃ (v : V) (d : PyData), vs = [v] ∧ Dp K H v d ∧ StrOk d ∧ Q (.str (strD d)) H
theorem cr_strA {X : Cx} (K : PySem.W.Frag) (hK : X.K = K) {k : Nat} (hr : Room k X.A) (hg : X.A.guards = some []) : CallR X (.type "str") (rStrA K) := by
  subst hK
  intro pins s σ H vs us Q I r h
  obtain ⟨v, d, rfl, hd, ⟨o1, o2, o3, o4, o5⟩, q⟩ := h
  cases hd with
  | lst h t =>
    rw [strD_lst] at q
    exact WX.cr_strD hr hg pins s σ H _ us Q I r ⟨_, _, rfl, .lst h t, o1, o3, o4, o5, q⟩
  | tup h t =>
    rw [strD_tup] at q
    exact WX.cr_strD hr hg pins s σ H _ us Q I r ⟨_, _, rfl, .tup h t, o1, o3, o4, o5, q⟩
  | non =>
    obtain ⟨u, rfl, r1⟩ := vals1 r
    cases r1
    rw [strD_non, PyData.shown_none] at q
    exact str_of_none ⟨.str _, H, I.tok _, ⟨_, rfl⟩, q⟩
  | bl b =>
    obtain ⟨u, rfl, r1⟩ := vals1 r
    cases r1
    refine PySem.P.str_of_bool ⟨.str _, H, I.tok _, ⟨_, rfl⟩, ?_⟩
    have : strD (.bool b) = (if b = true then ("True" : Str) else "False") := by
      rw [strD_bl, PyData.shown_bool]
    rw [← this]
    exact q
  | int i =>
    obtain ⟨u, rfl, t, rfl⟩ := vals1 r
    have hz : i.natAbs.log2 < 1920 := by simpa [PyData.showable] using o3
    refine PySem.P.str_of_int hz ⟨.str _, H, I.tok _, ⟨_, rfl⟩, ?_⟩
    have : strD (.int i) = ((toString i : String) : Str) := by
      rw [strD_int, PyData.shown_int]
    rw [← this]
    exact q
  | str x =>
    obtain ⟨u, rfl, t, rfl⟩ := vals1 r
    rw [strD_str] at q
    exact PySem.P.str_of_str ⟨.str x, H, I, ⟨t, rfl⟩, q⟩
variable {C : Ctx}
def fStr : W1 := fun ds P => match ds with
  | [d] => StrOk d ∧ P (.str (strD d))
  | _ => False
theorem fc_str : FC C (rStrA C.K) fStr := fun σ H ρ N Q P vs ds r h w k => by
  cases h with
  | nil => exact w.elim
  | cons h t =>
    cases t with
    | cons h2 t2 => exact w.elim
    | nil => exact ⟨_, _, rfl, Dn.dp w.1.nod h, w.1, k _ _ _ _ w.2 (fun b h => h) r.fr r (.str _)⟩
/-! ### a def that holds only where no text is being made around -/
structure FnG (P : Program) (w : World) (K : PySem.W.Frag) (mg : Str → Option Value) (base : Heap) (CX : CXT) (k : Nat) (f : Addr) (fd : FuncData) (ps : List Str) (sp : Sp) : Prop where
  len : ∀ (vs : List V) (H : Hp) (Q : VK) (E : XK), sp vs H Q E → vs.length = ps.length
  run : ∀ (A : Around) (outer : List PySem.Env) (s : Shared) (H : Hp) (args : Args) (us : List Value) (vs : List V) (Q : VK) (E : XK), A.guards = some [] → Room k A → Env0 P w K mg base A outer s H → BindsTo s fd args (ps.zip us) → Vals vs us → sp vs H Q E → codeAny (model P w) A (.call (.ref f) args) (CR CX outer P w H s Q E) s
structure CalG (P : Program) (w : World) (K : PySem.W.Frag) (mg : Str → Option Value) (base : Heap) (CX : CXT) (k : Nat) (f : Addr) (fd : FuncData) (x : Str) (ps : List Str) (sp : Sp) : Prop where
  G : FnG P w K mg base CX k f fd ps sp
  g : mg x = some (.ref f)
  kp : PySem.W.keepIn K (.ref f) = true
  b : Binds K fd ps []
theorem okG {P : Program} {w : World} {K : PySem.W.Frag} {mg : Str → Option Value} {base : Heap} {x qual : Str} {st : Stmt} {f : Addr} {fd : FuncData} {N ps : List Str} {k : Nat} {sp : Sp} (F : Fun K x qual st f fd) (S : FnScope N ps (defScope st))
    (hl : ∀ (vs : List V) (H : Hp) (Q : VK) (E : XK), sp vs H Q E → vs.length = ps.length)
    (body : ∀ (cdv : Value) (A : Around) (outer : List PySem.Env) (s : Shared) (H : Hp) (vs : List V) (Q : VK) (E : XK), (A.deeper (envOfC qual (defScope st) s.heap.objs.size f cdv)).guards = some [] → Room k (A.deeper (envOfC qual (defScope st) s.heap.objs.size f cdv)) → sp vs H Q E →
      ∃ t, PSs (cxOf CX0 P w K mg base N qual (defScope st) f cdv A outer s H E).nox (defBody st) t ∧ t { nx := fun _ H' => Q .non H', rt := Q } (start N vs) H) : FnG P w K mg base CX0 (k + 1) f fd ps sp :=
  ⟨hl, fun A outer s H args us vs Q E hg hr e0 hb r h => WX.run_at F S hr e0 hb r (hl _ _ _ _ h) fun cdv hr => body cdv A outer s H vs Q E (WX.deeper_guards.trans hg) hr h⟩
section
variable {X : Cx} {CX : CXT} {k : Nat} {f : Addr} {fd : FuncData} {ps : List Str} {sp : Sp} {dvs : List V} {ds : List Value} {E : XK} {x : Str} {p pos : Pos} {e : Expr} {es : List Expr} {t : TA}
theorem run_fnG {pins : List (Addr × Obj)} {σ : L2.St} {H : Hp} {s : Shared} {Q : VK} {us : List Value} {vs : List V} (F : FnG X.prog X.w X.K X.mg X.base CX k f fd ps sp) (hg2 : X.A.guards = some []) (hr : Room k X.A) (hb : Binds X.K fd ps ds) (hd : Vals dvs ds) (hx : Passes CX X E)
    (I : Inv X pins σ H s) (r : Vals vs us) (h : sp (vs ++ dvs) H Q E) : wpAny (model X.prog X.w) X.A (call (.ref f) us) (EP X pins σ Q) X.xe s := by
  have r2 : Vals (vs ++ dvs) (us ++ ds) := r.append hd
  have hl : (us ++ ds).length = ps.length := by rw [← r2.length]; exact F.len _ _ _ _ h
  refine wpAny_call (codeAny_mono (F.run X.A X.stack s H ⟨us, []⟩ (us ++ ds) (vs ++ dvs) Q E hg2 hr I.env0 (hb s us I.kIn hl) r2 h) fun r s' hq => ?_)
  cases r with
  | error e => exact hx pins σ H s e s' I hq
  | ok fl =>
    cases fl with
    | ret u => exact I.after hq
    | next => exact False.elim hq
    | brk => exact False.elim hq
    | cont => exact False.elim hq
theorem pe_callG (F : FnG X.prog X.w X.K X.mg X.base CX k f fd ps sp) (hg2 : X.A.guards = some []) (hr : Room k X.A) (hg : Gl X x) (hm : X.mg x = some (.ref f)) (hk : PySem.W.keepIn X.K (.ref f) = true) (hb : Binds X.K fd ps ds) (hd : Vals dvs ds) (hx : Passes CX X E)
    (ha : PA X (e :: es) t) (hdb : (x == ("__debug__" : Str)) = false := by decide) (he : starEach (e :: es) X.env = (false, eval e X.env) :: starEach es X.env := by rfl) (hpl : (backTo pos (starEach es X.env)).any (·.1) = false := by rfl) :
    PE X (.Call (.Name x p) (e :: es) [] pos) (tCall sp dvs E t) := by
  refine ⟨fun pins s σ H Q I h => ?_⟩
  refine wpAny_Call_Name_kw (ld_glob I hg hm ?_ hdb)
  refine PySem.W.callWith_K (h₀ := X.base) I.ok.mod.kin hk (thn (ha.run pos pins s σ H _ I h) fun us s1 ⟨vs, H1, I1, r, q⟩ => ⟨I1.kIn, ?_⟩) he hpl
  exact run_fnG F hg2 hr hb hd hx I1 r q
end
end WD
namespace WK
open PySem PySem.Spec PyProof.Rows L2 WD
abbrev s_law_refused : Stmt := topS 85
theorem sc_law_refused : FnScope ["_law_piece", "_law_place", "_law_caught", "_law_e"] ["_law_piece", "_law_place"] (defScope s_law_refused) := ⟨rfl, rfl, rfl, by decide +kernel, rfl, by decide +kernel, by decide +kernel⟩
section
variable {P : Program} {w : World} {K : PySem.W.Frag} {mg : Str → Option Value} {base : Heap}
def f_law_refused : W1 := fun ds P => ∃ dm dp, ds = [dm, dp] ∧ (∃ z, TellsW f_check_module [dm] z) ∧ TellsW f_found [dm, dp] .none ∧ narrow dp = true ∧ dp.depth < 12 ∧ StrOk dp ∧ P (.bool true)
def sp_law_refused (K : PySem.W.Frag) : Sp := spD 2 f_law_refused K
theorem ok_law_refused {f : Addr} {fd : FuncData} (F : Fun K "_law_refused" "_law_refused" s_law_refused f fd) (m_ValueError : mg "ValueError" = none) (m_isinstance : mg "isinstance" = none) (m_str : mg "str" = none) {f_e_at : Addr} {fd_e_at : FuncData} (c_e_at : Cal P w K mg base (L2.CX P w) 15 f_e_at fd_e_at "e_at" ["module", "place"] (sp_e_at K)) {C_LoomError : Addr} (e_LoomError : ECal K mg "LoomError" C_LoomError) {C_NoModule : Addr} (e_NoModule : ECal K mg "NoModule" C_NoModule) {C_NoPlace : Addr} (e_NoPlace : ECal K mg "NoPlace" C_NoPlace) (n_NoPlace_place : PySem.W.findIn K (.ref C_NoPlace) "place" = some none) (u_NoPlace_LoomError : PySem.W.subIn K (.ref C_NoPlace) (.ref C_LoomError) = some true) (u_NoPlace_NoModule : PySem.W.subIn K (.ref C_NoPlace) (.ref C_NoModule) = some false) (u_NoPlace_NoPlace : PySem.W.subIn K (.ref C_NoPlace) (.ref C_NoPlace) = some true) : FnG P w K mg base CX0 16 f fd ["_law_piece", "_law_place"] (sp_law_refused K) := by
  refine okG F sc_law_refused (fun vs H Q E h => spD_len h) (fun cdv A outer s H vs Q E hgd hr h => ?_)
  obtain ⟨N, ds, PP, hl, t, hN, ⟨dm, dp, rfl, w1, w2, hn, hdep, hs, pp⟩, q⟩ := h
  refine ⟨_, (pss_cons (ps_set (i := 2) sc_law_refused.nd rfl (Or.inl rfl) pe_non)
      (pss_cons (WX.ps_try_keep (i := 3) (j := 2) rfl rfl rfl sc_law_refused.nd rfl rfl rfl (Or.inl rfl) (Or.inl rfl) ⟨rfl, by decide, Or.inl e_LoomError.g⟩ rfl (Or.inl rfl) (by decide) (by decide) (fun W pn xe tk _ => 
        (pss_one (ps_expr (pe_callS c_e_at.G (hr.mono (by decide)) (by rfl) c_e_at.g c_e_at.kp c_e_at.b (fun σ => passAt tk σ) (pa_cons (pv 0) (pa_cons (pv 1) pa_nil)))))))
      (pss_cons (ps_if (PW.pt (pw_or (pt_not (pt_val (pe_callB WX.call_isX (by rfl) m_isinstance (by decide +kernel) (pa_cons (pv 2) (pa_cons (pe_glob (v := .ref C_NoPlace) (by rfl) e_NoPlace.g rfl) pa_nil))))) (pw_or (pt_val (pe_callB WX.call_isX (by rfl) m_isinstance (by decide +kernel) (pa_cons (pv 2) (pa_cons (pe_glob (v := .ref C_NoModule) (by rfl) e_NoModule.g rfl) pa_nil)))) (pw_or1 (pt_not (pt_val (pe_callB WX.call_isX (by rfl) m_isinstance (by decide +kernel) (pa_cons (pv 2) (pa_cons (pe_bltn (v := .ty "ValueError") (by rfl) m_ValueError (by decide +kernel) rfl) pa_nil)))))))))
        (pss_one (ps_ret pe_bl))
        pss_nil)
      (pss_one (ps_ret (pe_cmpR op_eq (pe_callTy (WD.cr_strA K rfl hr hgd) (by rfl) m_str (by decide +kernel) (pa_cons (WX.pe_xa (pv 2)) pa_nil)) (pe_callTy (WD.cr_strA K rfl hr hgd) (by rfl) m_str (by decide +kernel) (pa_cons (pv 1) pa_nil)) (nomark _))))))), ?_⟩
  have hlv := t.len
  obtain ⟨vm, vs, rfl⟩ : ∃ a b, vs = a :: b := by cases t; exact ⟨_, _, rfl⟩
  obtain ⟨vp, vs, rfl⟩ : ∃ a b, vs = a :: b := by cases t with | cons _ t => cases t; exact ⟨_, _, rfl⟩
  obtain rfl : vs = [] := by cases vs with | nil => rfl | cons _ _ => cases hlv
  have hvp : Dn K H N vp dp := by cases t with | cons _ t => cases t with | cons h _ => exact h
  refine ⟨vm, rfl, vp, rfl, N, dm, dp, t, hN, w1, w2, hn, hdep, fun C d u N1 H1 hC s1 hd hu n1 => ?_⟩
  have eC : C = C_NoPlace := Value.ref.inj (Option.some.inj (Option.some.inj (hC.symm.trans e_NoPlace.a)))
  subst eC
  have ne : (Value.ref C == Value.ref C_NoModule) = true → false = true := fun z => by
    have e : C = C_NoModule := Value.ref.inj (by simpa using z)
    subst e
    rw [u_NoPlace_NoPlace] at u_NoPlace_NoModule
    cases u_NoPlace_NoModule
  refine ⟨e_LoomError.exm u_NoPlace_LoomError, fun a na => ?_⟩
  have sa : Same H1 (upd H1 a (WX.ExT a (.ref C) (some d))) := same_upd na
  have ha : (upd H1 a (WX.ExT a (.ref C) (some d))) a = some (WX.ExT a (.ref C) (some d)) := upd_same
  have hd2 : (upd H1 a (WX.ExT a (.ref C) (some d))) d = some (.xd [("place", u)]) := sa _ _ hd
  have hu2 := hu.mono (.same sa) fun _ h => h
  have hp2 := hvp.mono (.same (s1.trans sa)) fun _ h => h
  have ss := s1.trans sa
  generalize upd H1 a (WX.ExT a (.ref C) (some d)) = H2 at *
  refine ⟨_, rfl, a, C, some d, _, .ref C, true, rfl, ha, .inr ⟨d, _, rfl, hd2⟩, e_NoPlace.E, .own C, ECal.self, true, rfl, iteF ?_⟩
  refine ⟨_, rfl, a, C, some d, _, .ref C_NoModule, false, rfl, ha, .inr ⟨d, _, rfl, hd2⟩, e_NoPlace.E, .own C_NoModule, e_NoModule.kit u_NoPlace_NoModule ne, false, rfl, iteF ?_⟩
  refine ⟨_, rfl, a, C, some d, _, .type "ValueError", true, rfl, ha, .inr ⟨d, _, rfl, hd2⟩, e_NoPlace.E, .ty _, e_NoPlace.ve, true, rfl, iteF ?_⟩
  refine ⟨_, rfl, a, C, d, _, u, rfl, ha, hd2, rfl, e_NoPlace.E, n_NoPlace_place, u, dp, rfl, Dn.dp hs.nod hu2, hs, vp, rfl, vp, dp, rfl, Dn.dp hs.nod hp2, hs, rfl, ?_⟩
  rw [decide_eq_true rfl]
  exact q _ H2 N (.bool true) pp (fun _ h => h) (fun _ h => .inl h) (fun b n z => hN b n (none_back ss z)) ss (.bl true)
end
end WK
namespace WK
open PySem PySem.Spec PyProof.Rows L2 WD
abbrev s_law_marked : Stmt := topS 82
theorem sc_law_marked : FnScope ["_law_piece", "_law_part"] ["_law_piece"] (defScope s_law_marked) := ⟨rfl, rfl, rfl, by decide +kernel, rfl, by decide +kernel, by decide +kernel⟩
theorem kit_seq {K : PySem.W.Frag} (d : PyData) : PySem.W.kitAny K (.type (tyN d)) [.type "list", .type "tuple"] = some (isList d || isTup d) :=
  kitAny_cons (kit_ty (kList d)) (fun h => kitAny_cons (kit_ty (kTup d)) (fun h2 => by rw [kitAny_nil, h, h2]; rfl) (fun h2 => by rw [h2, Bool.or_true])) (fun h => by rw [h]; rfl)
/-- all but what lies where M says stays -/
def KeepX (M : Addr → Prop) (H H' : Hp) : Prop := (∀ b o, ¬ M b → H b = some o → H' b = some o) ∧ ∀ b, H b ≠ none → H' b ≠ none
theorem KeepX.of {M : Addr → Prop} {H H' : Hp} (s : Same H H') : KeepX M H H' := ⟨fun b o _ e => s b o e, fun b h z => h (none_back s z)⟩
theorem KeepX.trans {M : Addr → Prop} {H H1 H2 : Hp} (a : KeepX M H H1) (b : KeepX M H1 H2) : KeepX M H H2 := ⟨fun x o m e => b.1 x o m (a.1 x o m e), fun x h => b.2 x (a.2 x h)⟩
theorem KeepX.none {H H' : Hp} (k : KeepX (fun _ => False) H H') : Same H H' := fun b o e => k.1 b o (fun z => z) e
/-- what may be marked: a thing without lists; a list of such; a tuple of a word, a name and such a list -/
inductive MarkAt (K : PySem.W.Frag) (H : Hp) (M : Addr → Prop) : Nat → V → PyData → Prop
  | bare {n : Nat} {v : V} {d : PyData} {N : Addr → Prop} (h : Dn K H N v d) (b : noL d = true) (l : d.depth < n) : MarkAt K H M n v d
  | list {n : Nat} {a : Addr} {xs : List V} {ds : List PyData} {N : Addr → Prop} (e : H a = some (.lst xs)) (m : M a) (t : Dns K H N xs ds) (b : noLs ds = true) (l : PyData.depthAll ds + 1 < n) (s : xs.length < 16777216) : MarkAt K H M n (.ref a) (.list ds)
  | call {n : Nat} {p a : Addr} {x y : Str} {xs : List V} {ds : List PyData} {N : Addr → Prop} (h : SqT K H p [.str x, .str y, .ref a]) (e : H a = some (.lst xs)) (m : M a) (t : Dns K H N xs ds) (b : noLs ds = true) (l : PyData.depthAll ds + 2 < n) (s : xs.length < 16777216) : MarkAt K H M n (.ref p) (.tuple [.str x, .str y, .list ds])
def sp_mk (n : Nat) (K : PySem.W.Frag) : Sp := fun vs H Q _ => ∃ (v : V) (d : PyData) (M : Addr → Prop), vs = [v] ∧ MarkAt K H M n v d ∧ ∀ H', KeepX M H H' → Q .non H'
theorem noLs_mem : ∀ {l : List PyData}, noLs l = true → ∀ d ∈ l, noL d = true
  | d :: l, h, x, m => by
    simp only [noLs, Bool.and_eq_true] at h
    rcases List.mem_cons.mp m with rfl | m
    · exact h.1
    · exact noLs_mem h.2 x m
section
variable {P : Program} {w : World} {K : PySem.W.Frag} {mg : Str → Option Value} {base : Heap}
theorem st_law_marked {n : Nat} {f : Addr} {fd : FuncData} (F : Fun K "_law_marked" "_law_marked" s_law_marked f fd) (m_isinstance : mg "isinstance" = none) (m_list : mg "list" = none) (m_tuple : mg "tuple" = none) {f_law_marked : Addr} {fd_law_marked : FuncData} (c_law_marked : Cal P w K mg base CX0 n f_law_marked fd_law_marked "_law_marked" ["_law_piece"] (sp_mk n K)) :
    FnOk P w K mg base CX0 (n + 1) f fd ["_law_piece"] (sp_mk (n + 1) K) := by
  refine F.ok sc_law_marked (fun vs H Q E h => ?_) (fun cdv A outer s H vs Q E hr h => ?_)
  · obtain ⟨_, _, _, rfl, _⟩ := h
    rfl
  obtain ⟨v, d, M, rfl, hm, q⟩ := h
  -- the parts of a tuple or a list without lists
  have last : ∀ {D : Ends} {z : Option V} {H1 : Hp}, D.nx = (fun _ H' => Q .non H') → Same H H1 → ∀ {N : Addr → Prop}, Dn K H1 N v d → isList d = false → (tIfS (tB (tCB (rIsi K) (tCons (tVar 0) (tCons (tC (.ty "list")) tNil)))) (tDrop (tBM K "list" rAppend (tVar 0) (tCons (tC (.int 7)) tNil))) tNext) D [some v, z] H1 := by
    intro D z H1 eD s1 N hd el
    refine ⟨_, rfl, _, _, _, _, isList d, rfl, .ty "list", hd.ty, kit_ty (kList d), isList d, rfl, ?_⟩
    rw [el]
    refine iteF ?_
    show D.nx _ _
    rw [eD]
    exact q _ (.of s1)
  have asks : ∀ {N : Addr → Prop} {p : Addr} {o : HO}, Dn K H N v d → H p = none → TyX K (upd H p o) v (.type (tyN d)) := fun hd np => (hd.mono (.upd np) fun _ h => h).ty
  cases hm with
  | bare hd b l =>
    by_cases et : isTup d = true
    · obtain ⟨ds, rfl⟩ : ∃ ds, d = .tuple ds := by cases d <;> first | exact ⟨_, rfl⟩ | cases et
      cases hd with
      | tup hq t =>
        rename_i a xs
        refine ⟨_, (pss_cons (ps_if (pt_val (pe_callB call_isiT (by rfl) m_isinstance (by decide +kernel) (pa_cons (pv 0) (pa_cons (pe_tup (pa_cons (pe_bltn (v := .ty "list") (by rfl) m_list (by decide +kernel) rfl) (pa_cons (pe_bltn (v := .ty "tuple") (by rfl) m_tuple (by decide +kernel) rfl) pa_nil))) pa_nil))))
        (pss_one (ps_for PassesOwn.never rfl (pi_tup (pv 0)) (pg_name (i := 1) sc_law_marked.nd rfl (Or.inl rfl))
          (pss_one (ps_expr (pe_call c_law_marked.G (hr.mono (by omega)) (by rfl) c_law_marked.g c_law_marked.kp c_law_marked.b .nil pass0 (pa_cons (pv 1) pa_nil))))))
        pss_nil)
      (pss_one (ps_if (pt_val (pe_callB call_isi (by rfl) m_isinstance (by decide +kernel) (pa_cons (pv 0) (pa_cons (pe_bltn (v := .ty "list") (by rfl) m_list (by decide +kernel) rfl) pa_nil))))
        (pss_one (ps_expr (pe_bm PySem.F.plainAttrs_list PySem.F.slot_list_append PySem.F.type_list_append mt_append (pv 0) (pa_cons pe_int pa_nil))))
        pss_nil))), ?_⟩
        refine ⟨_, rfl, by show 2 ≤ sizeLine; decide, fun p np => ⟨.ref a, p, _, _, [.type "list", .type "tuple"], true, rfl, upd_same, .cons (.ty _) (.cons (.ty _) .nil), asks (.tup hq t) np, kit_seq _, true, rfl, iteT ?_⟩⟩
        have s0 := same_upd (o := .tup [.ty "list", .ty "tuple"]) np
        generalize upd H p (.tup [.ty "list", .ty "tuple"]) = H0 at *
        refine ⟨_, rfl, a, rfl, ⟨_, sqT_same s0 hq⟩, for_tup (xs := xs) (fun i σ H' => Same H H' ∧ ∃ z, σ = [some (.ref a), z]) ⟨s0, none, rfl⟩ (fun i σ H' _ hP => sqT_same hP.1 hq) (fun i x σ H' hx hP => ?_) (fun σ H' hP => ?_)⟩
        · obtain ⟨s1, z, rfl⟩ := hP
          obtain ⟨dx, hx1, hx2⟩ := t.at' hx
          have mx := List.mem_of_getElem? hx1
          have bx := noLs_mem (by simpa only [noL] using b) dx mx
          have lx : dx.depth < n := by
            have := depth_mem mx
            simp only [PyData.depth] at l
            omega
          exact ⟨x, rfl, x, dx, fun _ => False, rfl, .bare (hx2.mono (.same s1) fun _ h => h) bx lx, fun H2 k => ⟨s1.trans k.none, some x, rfl⟩⟩
        · obtain ⟨s1, z, rfl⟩ := hP
          exact last rfl s1 ((Dn.tup hq t).mono (.same s1) fun _ h => h) rfl
    · have el : isList d = false := by cases d <;> first | rfl | (simp [noL] at b; done)
      have et : isTup d = false := Bool.eq_false_iff.mpr et
      refine ⟨_, (pss_cons (ps_if (pt_val (pe_callB call_isiT (by rfl) m_isinstance (by decide +kernel) (pa_cons (pv 0) (pa_cons (pe_tup (pa_cons (pe_bltn (v := .ty "list") (by rfl) m_list (by decide +kernel) rfl) (pa_cons (pe_bltn (v := .ty "tuple") (by rfl) m_tuple (by decide +kernel) rfl) pa_nil))) pa_nil))))
        (pss_one (ps_for PassesOwn.never rfl (pi_tup (pv 0)) (pg_name (i := 1) sc_law_marked.nd rfl (Or.inl rfl))
          (pss_one (ps_expr (pe_call c_law_marked.G (hr.mono (by omega)) (by rfl) c_law_marked.g c_law_marked.kp c_law_marked.b .nil pass0 (pa_cons (pv 1) pa_nil))))))
        pss_nil)
      (pss_one (ps_if (pt_val (pe_callB call_isi (by rfl) m_isinstance (by decide +kernel) (pa_cons (pv 0) (pa_cons (pe_bltn (v := .ty "list") (by rfl) m_list (by decide +kernel) rfl) pa_nil))))
        (pss_one (ps_expr (pe_bm PySem.F.plainAttrs_list PySem.F.slot_list_append PySem.F.type_list_append mt_append (pv 0) (pa_cons pe_int pa_nil))))
        pss_nil))), ?_⟩
      refine ⟨_, rfl, by show 2 ≤ sizeLine; decide, fun p np => ⟨v, p, _, _, [.type "list", .type "tuple"], false, rfl, upd_same, .cons (.ty _) (.cons (.ty _) .nil), asks hd np, by rw [kit_seq, el, et]; rfl, false, rfl, iteF ?_⟩⟩
      exact last rfl (same_upd np) (hd.mono (.upd np) fun _ h => h) el
  | list e m t b l sz =>
    rename_i a xs ds N
    have hd0 : TyX K H (.ref a) (.type (tyN (.list ds))) := .base (.lst e)
    refine ⟨_, (pss_cons (ps_if (pt_val (pe_callB call_isiT (by rfl) m_isinstance (by decide +kernel) (pa_cons (pv 0) (pa_cons (pe_tup (pa_cons (pe_bltn (v := .ty "list") (by rfl) m_list (by decide +kernel) rfl) (pa_cons (pe_bltn (v := .ty "tuple") (by rfl) m_tuple (by decide +kernel) rfl) pa_nil))) pa_nil))))
        (pss_one (ps_for PassesOwn.never rfl (pi_list (pv 0)) (pg_name (i := 1) sc_law_marked.nd rfl (Or.inl rfl))
          (pss_one (ps_expr (pe_call c_law_marked.G (hr.mono (by omega)) (by rfl) c_law_marked.g c_law_marked.kp c_law_marked.b .nil pass0 (pa_cons (pv 1) pa_nil))))))
        pss_nil)
      (pss_one (ps_if (pt_val (pe_callB call_isi (by rfl) m_isinstance (by decide +kernel) (pa_cons (pv 0) (pa_cons (pe_bltn (v := .ty "list") (by rfl) m_list (by decide +kernel) rfl) pa_nil))))
        (pss_one (ps_expr (pe_bm PySem.F.plainAttrs_list PySem.F.slot_list_append PySem.F.type_list_append mt_append (pv 0) (pa_cons pe_int pa_nil))))
        pss_nil))), ?_⟩
    refine ⟨_, rfl, by show 2 ≤ sizeLine; decide, fun p np => ⟨.ref a, p, _, .type "list", [.type "list", .type "tuple"], true, rfl, upd_same, .cons (.ty _) (.cons (.ty _) .nil), .base (.lst (same_upd np _ _ e)), kit_seq (.list ds), true, rfl, iteT ?_⟩⟩
    have s0 := same_upd (o := .tup [.ty "list", .ty "tuple"]) np
    generalize upd H p (.tup [.ty "list", .ty "tuple"]) = H0 at *
    refine ⟨_, rfl, a, rfl, ⟨_, SqL.of (s0 _ _ e)⟩, for_list (xs := xs) (fun i σ H' => Same H H' ∧ ∃ z, σ = [some (.ref a), z]) ⟨s0, none, rfl⟩ (fun i σ H' _ hP => SqL.of (hP.1 _ _ e)) (fun i x σ H' hx hP => ?_) (fun σ H' hP => ?_)⟩
    · obtain ⟨s1, z, rfl⟩ := hP
      obtain ⟨dx, hx1, hx2⟩ := t.at' hx
      have mx := List.mem_of_getElem? hx1
      have lx : dx.depth < n := by
        have := depth_mem mx
        omega
      exact ⟨x, rfl, x, dx, fun _ => False, rfl, .bare (hx2.mono (.same s1) fun _ h => h) (noLs_mem b dx mx) lx, fun H2 k => ⟨s1.trans k.none, some x, rfl⟩⟩
    · obtain ⟨s1, z, rfl⟩ := hP
      refine ⟨_, rfl, _, _, .type "list", .type "list", true, rfl, .ty "list", .base (.lst (s1 _ _ e)), kit_ty (by decide +kernel), true, rfl, iteT ?_⟩
      refine ⟨_, rfl, .inl ⟨rfl, xs, SqL.of (s1 _ _ e)⟩, a, xs, _, rfl, rfl, s1 _ _ e, by rw [WD.szl]; exact sz, ?_⟩
      refine q _ ⟨fun b o mb eb => ?_, fun b hb => ?_⟩
      · rw [upd_ne (fun z => mb (by rw [z]; exact m))]
        exact s1 _ _ eb
      · by_cases z : b = a
        · rw [z, upd_same]; exact fun z => nomatch z
        · rw [upd_ne z]; exact fun y => hb (none_back s1 y)
  | call hq e m t b l sz =>
    rename_i p0 a x y xs ds N
    refine ⟨_, (pss_cons (ps_if (pt_val (pe_callB call_isiT (by rfl) m_isinstance (by decide +kernel) (pa_cons (pv 0) (pa_cons (pe_tup (pa_cons (pe_bltn (v := .ty "list") (by rfl) m_list (by decide +kernel) rfl) (pa_cons (pe_bltn (v := .ty "tuple") (by rfl) m_tuple (by decide +kernel) rfl) pa_nil))) pa_nil))))
        (pss_one (ps_for PassesOwn.never rfl (pi_tup (pv 0)) (pg_name (i := 1) sc_law_marked.nd rfl (Or.inl rfl))
          (pss_one (ps_expr (pe_call c_law_marked.G (hr.mono (by omega)) (by rfl) c_law_marked.g c_law_marked.kp c_law_marked.b .nil pass0 (pa_cons (pv 1) pa_nil))))))
        pss_nil)
      (pss_one (ps_if (pt_val (pe_callB call_isi (by rfl) m_isinstance (by decide +kernel) (pa_cons (pv 0) (pa_cons (pe_bltn (v := .ty "list") (by rfl) m_list (by decide +kernel) rfl) pa_nil))))
        (pss_one (ps_expr (pe_bm PySem.F.plainAttrs_list PySem.F.slot_list_append PySem.F.type_list_append mt_append (pv 0) (pa_cons pe_int pa_nil))))
        pss_nil))), ?_⟩
    have tyT : ∀ {H' : Hp}, SqT K H' p0 [.str x, .str y, .ref a] → TyX K H' (.ref p0) (.type "tuple") := fun h => by
      rcases h with (h | ⟨o, h⟩) | ⟨o, its, n, h, c, _⟩
      · exact .base (.tup h)
      · exact .fTuple h
      · exact .kTuple h c
    have stay : ∀ {H' : Hp}, KeepX (fun b => b = a) H H' → SqT K H' p0 [.str x, .str y, .ref a] := fun k => by
      have go : ∀ o, H p0 = some o → (∀ ys, o ≠ .lst ys) → ∀ {H' : Hp}, KeepX (fun b => b = a) H H' → H' p0 = some o := fun o eo no H' k => k.1 p0 o (fun z => by rw [z, e] at eo; exact no _ (Option.some.inj eo).symm) eo
      rcases hq with (h | ⟨o, h⟩) | h
      · exact .inl (.inl (go _ h (fun _ z => nomatch z) k))
      · exact .inl (.inr ⟨o, go _ h (fun _ z => nomatch z) k⟩)
      · exact .inr h
    have kit2 : PySem.W.kitAny K (.type "tuple") [.type "list", .type "tuple"] = some true := kit_seq (.tuple [])
    refine ⟨_, rfl, by show 2 ≤ sizeLine; decide, fun p np => ⟨.ref p0, p, _, .type "tuple", [.type "list", .type "tuple"], true, rfl, upd_same, .cons (.ty _) (.cons (.ty _) .nil), tyT (sqT_same (same_upd np) hq), kit2, true, rfl, iteT ?_⟩⟩
    have s0 := same_upd (o := .tup [.ty "list", .ty "tuple"]) np
    generalize upd H p (.tup [.ty "list", .ty "tuple"]) = H0 at *
    refine ⟨_, rfl, p0, rfl, ⟨_, sqT_same s0 hq⟩, for_tup (xs := [.str x, .str y, .ref a]) (fun i σ H' => (i ≤ 2 → Same H H') ∧ KeepX (fun b => b = a) H H' ∧ ∃ z, σ = [some (.ref p0), z]) ⟨fun _ => s0, .of s0, none, rfl⟩ (fun i σ H' _ hP => stay hP.2.1) (fun i z σ H' hx hP => ?_) (fun σ H' hP => ?_)⟩
    · obtain ⟨s1, k1, z, rfl⟩ := hP
      match i, hx with
      | 0, hx =>
        cases hx
        exact ⟨.str x, rfl, .str x, .str x, fun _ => False, rfl, .bare (N := fun _ => True) (.str x) rfl (by show 0 < n; omega), fun H2 k => ⟨fun _ => (s1 (by decide)).trans k.none, k1.trans (.of k.none), some (.str x), rfl⟩⟩
      | 1, hx =>
        cases hx
        exact ⟨.str y, rfl, .str y, .str y, fun _ => False, rfl, .bare (N := fun _ => True) (.str y) rfl (by show 0 < n; omega), fun H2 k => ⟨fun _ => (s1 (by decide)).trans k.none, k1.trans (.of k.none), some (.str y), rfl⟩⟩
      | 2, hx =>
        cases hx
        have s2 := s1 (by decide)
        exact ⟨.ref a, rfl, .ref a, .list ds, fun b => b = a, rfl, .list (N := N) (s2 _ _ e) rfl (t.mono (.same s2) fun _ h => h) b (by omega) sz, fun H2 k => ⟨fun h => absurd h (by decide), k1.trans k, some (.ref a), rfl⟩⟩
      | i + 3, hx => simp at hx
    · obtain ⟨_, k1, z, rfl⟩ := hP
      refine ⟨_, rfl, _, _, .type "tuple", .type "list", false, rfl, .ty "list", tyT (stay k1), kit_ty (by decide +kernel), false, rfl, iteF ?_⟩
      exact q _ ⟨fun b o mb eb => k1.1 b o (fun z => mb (by rw [z]; exact m)) eb, k1.2⟩
theorem mark_none {K : PySem.W.Frag} {H : Hp} {M : Addr → Prop} {v : V} {d : PyData} (h : MarkAt K H M 0 v d) : False := by
  cases h <;> omega
theorem marked_all {f : Addr} {fd : FuncData} (hf : mg "_law_marked" = some (.ref f)) (F : Fun K "_law_marked" "_law_marked" s_law_marked f fd) (m_isinstance : mg "isinstance" = none) (m_list : mg "list" = none) (m_tuple : mg "tuple" = none) :
    ∀ n, FnOk P w K mg base CX0 n f fd ["_law_piece"] (sp_mk n K)
  | 0 => ⟨fun _ _ _ _ h => (by obtain ⟨_, _, _, rfl, _⟩ := h; rfl), fun _ _ _ _ _ _ _ _ _ _ _ _ _ h => (by obtain ⟨_, _, _, _, m, _⟩ := h; exact (mark_none m).elim)⟩
  | n + 1 => st_law_marked F m_isinstance m_list m_tuple (f_law_marked := f) (fd_law_marked := fd) ⟨marked_all hf F m_isinstance m_list m_tuple n, hf, F.kp, F.binds (ps := ["_law_piece"]) fun _ _ _ _ _ _ us hl => match us, hl with | [_], _ => rfl⟩
def sp_law_marked (K : PySem.W.Frag) : Sp := sp_mk 16 K
theorem ok_law_marked {f : Addr} {fd : FuncData} (hf : mg "_law_marked" = some (.ref f)) (F : Fun K "_law_marked" "_law_marked" s_law_marked f fd) (m_isinstance : mg "isinstance" = none) (m_list : mg "list" = none) (m_tuple : mg "tuple" = none) : FnOk P w K mg base CX0 16 f fd ["_law_piece"] (sp_law_marked K) := marked_all hf F m_isinstance m_list m_tuple 16
end
end WK
namespace WK
open PySem PySem.Spec PyProof.Rows L2 WD
section
variable {P : Program} {w : World} {K : PySem.W.Frag} {mg : Str → Option Value} {base : Heap}
abbrev s_law_there : Stmt := topS 87
theorem sc_law_there : FnScope ["_law_spots", "_law_place", "_law_k", "_law_path", "_law_e"] ["_law_spots", "_law_place"] (defScope s_law_there) := ⟨rfl, rfl, rfl, by decide +kernel, rfl, by decide +kernel, by decide +kernel⟩
def w_law_there : WS := (wSeq (wFor (wItL (wVar 0)) (wgTup 3 (wgCons (wName [] 2) (wgCons (wName [] 3) (wgCons (wName [] 4) wgNil)))) (wIfS (wB (wOp fEq (wCB fStr (wCons (wTup (wCons (wVar 2) (wCons (wVar 3) wNil))) wNil)) (wCB fStr (wCons (wVar 1) wNil)))) (wRet (wLst (wCons (wVar 4) wNil))) wNext))
  (wRet (wLst wNil)))
def f_law_there : W1 := wBody 3 w_law_there
def sp_law_there (K : PySem.W.Frag) : Sp := spD 2 f_law_there K
theorem ok_law_there {f : Addr} {fd : FuncData} (F : Fun K "_law_there" "_law_there" s_law_there f fd) (m_str : mg "str" = none) : FnG P w K mg base CX0 1 f fd ["_law_spots", "_law_place"] (sp_law_there K) := by
  refine okG F sc_law_there (fun vs H Q E h => spD_len h) (fun cdv A outer s H vs Q E hgd hr h => ?_)
  refine ⟨_, (pss_cons (ps_for PassesOwn.never rfl (pi_list (pv 0)) (pg_tup (by rfl) (pgs_cons (pg_name (i := 2) sc_law_there.nd rfl (Or.inl rfl)) (pgs_cons (pg_name (i := 3) sc_law_there.nd rfl (Or.inl rfl)) (pgs_cons (pg_name (i := 4) sc_law_there.nd rfl (Or.inl rfl)) pgs_nil)))) (pss_one (ps_if (pt_cmpR op_eq (pe_callTy (cr_strA K rfl hr hgd) (by rfl) m_str (by decide +kernel) (pa_cons (pe_tup (pa_cons (pv 2) (pa_cons (pv 3) pa_nil))) pa_nil)) (pe_callTy (cr_strA K rfl hr hgd) (by rfl) m_str (by decide +kernel) (pa_cons (pv 1) pa_nil)) (nomark _)) (pss_one (ps_ret (pe_lst (pa_cons (pv 4) pa_nil)))) pss_nil)))
        (pss_one (ps_ret (pe_lst pa_nil)))), ?_⟩
  refine body_D (m := 3) (W := w_law_there) (fun N => ?_) h rfl
  have ok := @ctxP_ok K H N
  exact (fs_seq (fs_for (fi_list fe_var) (fg_tup (fg_cons fg_name (fg_cons fg_name (fg_cons fg_name fg_nil)))) (fs_if (ft_test (fe_op fr_eq (fe_cb fc_str (fa_cons (fe_tup ok (fa_cons fe_var (fa_cons fe_var fa_nil))) fa_nil)) (fe_cb fc_str (fa_cons fe_var fa_nil)))) (fs_ret (fe_lst ok (fa_cons fe_var fa_nil))) fs_next))
        (fs_ret (fe_lst ok fa_nil)))
end
end WK
namespace WK
open PySem PySem.Spec PyProof.Rows L2 WD
/-! ### the texts of places -/
abbrev cps (x : Str) : List Nat := x.cps.toList
theorem cps_inj {x y : Str} (h : cps x = cps y) : x = y := TL.ext_tl h
/-- the signs of a number's text -/
def Dg (i : Int) : List Nat := cps (Str.ofString (toString i))
theorem ofString_inj {s t : String} (h : Str.ofString s = Str.ofString t) : s = t := by
  have e : cps (Str.ofString s) = cps (Str.ofString t) := by rw [h]
  unfold cps at e
  rw [signs_ofString, signs_ofString] at e
  have : s.toList = t.toList := by
    have inj : ∀ a b : Char, a.toNat = b.toNat → a = b := fun a b h => Char.ext (UInt32.toNat_inj.mp h)
    clear h
    generalize s.toList = l at *
    generalize t.toList = m at *
    induction l generalizing m with
    | nil => cases m with | nil => rfl | cons _ _ => cases e
    | cons a l ih =>
      cases m with
      | nil => cases e
      | cons b m =>
        rw [List.map_cons, List.map_cons] at e
        injection e with e1 e2
        rw [inj a b e1, ih m e2]
  exact String.toList_inj.mp this
theorem Dg_inj {i j : Int} (h : Dg i = Dg j) : i = j := by
  have := ofString_inj (cps_inj h)
  rw [Int.toString_eq_repr, Int.toString_eq_repr] at this
  exact Int.repr_injective this
def okD (c : Nat) : Prop := c = 45 ∨ (48 ≤ c ∧ c ≤ 57)
theorem Dg_ok {i : Int} : ∀ c ∈ Dg i, okD c := fun c hc => by
  refine Classical.byContradiction fun h => int_text_free' c ?_ i hc
  unfold okD at h
  omega
theorem span_eq {ok : Nat → Prop} {c d : Nat} {t u : List Nat} (hc : ¬ ok c) (hd : ¬ ok d) : ∀ {p q : List Nat}, (∀ a ∈ p, ok a) → (∀ a ∈ q, ok a) → p ++ c :: t = q ++ d :: u → p = q ∧ c = d ∧ t = u
  | [], [], _, _, h => by
    injection h with h1 h2
    exact ⟨rfl, h1, h2⟩
  | [], b :: q, _, hq, h => by
    injection h with h1 h2
    exact absurd (h1 ▸ hq b (.head _)) hc
  | a :: p, [], hp, _, h => by
    injection h with h1 h2
    exact absurd (h1 ▸ hp a (.head _)) hd
  | a :: p, b :: q, hp, hq, h => by
    injection h with h1 h2
    obtain ⟨e, e2⟩ := span_eq hc hd (fun x m => hp x (.tail _ m)) (fun x m => hq x (.tail _ m)) h2
    exact ⟨by rw [h1, e], e2⟩
theorem no44 : ¬ okD 44 := by unfold okD; omega
theorem no41 : ¬ okD 41 := by unfold okD; omega
/-- the numbers of a path behind the first -/
def Jx : List Int → List Nat
  | [] => []
  | [x] => Dg x ++ [41]
  | x :: y :: r => Dg x ++ 44 :: 32 :: Jx (y :: r)
/-- a path behind its open bracket -/
def Ix : List Int → List Nat
  | [] => [41]
  | [x] => Dg x ++ [44, 41]
  | x :: y :: r => Dg x ++ 44 :: 32 :: Jx (y :: r)
theorem Jx_inj : ∀ {x y : Int} {r r2 : List Int} {s s2 : List Nat}, Jx (x :: r) ++ s = Jx (y :: r2) ++ s2 → x :: r = y :: r2 ∧ s = s2
  | x, y, [], [], s, s2, h => by
    have h : Dg x ++ 41 :: s = Dg y ++ 41 :: s2 := by simpa [Jx] using h
    obtain ⟨e1, _, e3⟩ := span_eq no41 no41 Dg_ok Dg_ok h
    exact ⟨by rw [Dg_inj e1], e3⟩
  | x, y, [], b :: r2, s, s2, h => by
    have h : Dg x ++ 41 :: s = Dg y ++ 44 :: (32 :: (Jx (b :: r2) ++ s2)) := by simpa [Jx] using h
    obtain ⟨_, e2, _⟩ := span_eq no41 no44 Dg_ok Dg_ok h
    cases e2
  | x, y, a :: r, [], s, s2, h => by
    have h : Dg x ++ 44 :: (32 :: (Jx (a :: r) ++ s)) = Dg y ++ 41 :: s2 := by simpa [Jx] using h
    obtain ⟨_, e2, _⟩ := span_eq no44 no41 Dg_ok Dg_ok h
    cases e2
  | x, y, a :: r, b :: r2, s, s2, h => by
    have h : Dg x ++ 44 :: (32 :: (Jx (a :: r) ++ s)) = Dg y ++ 44 :: (32 :: (Jx (b :: r2) ++ s2)) := by simpa [Jx] using h
    obtain ⟨e1, _, e3⟩ := span_eq no44 no44 Dg_ok Dg_ok h
    injection e3 with _ e3
    obtain ⟨e4, e5⟩ := Jx_inj e3
    exact ⟨by rw [Dg_inj e1, e4], e5⟩
theorem Ix_inj : ∀ {r r2 : List Int} {s s2 : List Nat}, Ix r ++ s = Ix r2 ++ s2 → r = r2 ∧ s = s2 := by
  have p0 : ∀ {x : Int} {t s u : List Nat} {c : Nat}, ¬ okD c → 41 :: s = Dg x ++ c :: t → c = 41 := fun hc h => (span_eq (ok := okD) (p := []) no41 hc (fun _ m => by cases m) Dg_ok h).2.1.symm
  intro r r2 s s2 h
  match r, r2, h with
  | [], [], h =>
    have h : 41 :: s = 41 :: s2 := h
    injection h with _ h
    exact ⟨rfl, h⟩
  | [], [y], h => exact absurd (p0 (u := s) no44 (show 41 :: s = Dg y ++ 44 :: (41 :: s2) by simpa [Ix] using h)) (by decide)
  | [], y :: b :: r2, h => exact absurd (p0 (u := s) no44 (show 41 :: s = Dg y ++ 44 :: (32 :: (Jx (b :: r2) ++ s2)) by simpa [Ix] using h)) (by decide)
  | [x], [], h => exact absurd (p0 (u := s) no44 (show 41 :: s2 = Dg x ++ 44 :: (41 :: s) by simpa [Ix] using h.symm)) (by decide)
  | x :: a :: r, [], h => exact absurd (p0 (u := s) no44 (show 41 :: s2 = Dg x ++ 44 :: (32 :: (Jx (a :: r) ++ s)) by simpa [Ix] using h.symm)) (by decide)
  | [x], [y], h =>
    obtain ⟨e1, _, e3⟩ := span_eq no44 no44 Dg_ok Dg_ok (show Dg x ++ 44 :: (41 :: s) = Dg y ++ 44 :: (41 :: s2) by simpa [Ix] using h)
    injection e3 with _ e3
    exact ⟨by rw [Dg_inj e1], e3⟩
  | [x], y :: b :: r2, h =>
    obtain ⟨e1, _, e3⟩ := span_eq no44 no44 Dg_ok Dg_ok (show Dg x ++ 44 :: (41 :: s) = Dg y ++ 44 :: (32 :: (Jx (b :: r2) ++ s2)) by simpa [Ix] using h)
    injection e3 with e3 _
    cases e3
  | x :: a :: r, [y], h =>
    obtain ⟨e1, _, e3⟩ := span_eq no44 no44 Dg_ok Dg_ok (show Dg x ++ 44 :: (32 :: (Jx (a :: r) ++ s)) = Dg y ++ 44 :: (41 :: s2) by simpa [Ix] using h)
    injection e3 with e3 _
    cases e3
  | x :: a :: r, y :: b :: r2, h =>
    obtain ⟨e1, _, e3⟩ := span_eq no44 no44 Dg_ok Dg_ok (show Dg x ++ 44 :: (32 :: (Jx (a :: r) ++ s)) = Dg y ++ 44 :: (32 :: (Jx (b :: r2) ++ s2)) by simpa [Ix] using h)
    injection e3 with _ e3
    obtain ⟨e4, e5⟩ := Jx_inj e3
    exact ⟨by rw [Dg_inj e1, e4], e5⟩
/-- the signs of a thing's text -/
abbrev cS (d : PyData) : List Nat := cps d.shown
theorem cS_int (i : Int) : cS (.int i) = Dg i := by
  unfold cS Dg
  rw [PyData.shown_int]
theorem comma : cps (", " : Str) = [44, 32] := by decide +kernel
theorem join_ints : ∀ (x : Int) (r : List Int), cps (Str.join ", " ((x :: r).map fun n : Int => ((toString n : String) : Str))) ++ [41] = Jx (x :: r)
  | x, [] => rfl
  | x, y :: r => by
    rw [List.map_cons, List.map_cons, join_cons_cons]
    have ih := join_ints y r
    rw [List.map_cons] at ih
    unfold cps
    rw [cps_toList_append, cps_toList_append, List.append_assoc, List.append_assoc]
    unfold cps at ih
    rw [ih]
    have := comma
    unfold cps at this
    rw [this]
    rfl
theorem cS_ints (r : List Int) : cS (.tuple (r.map .int)) = 40 :: Ix r := by
  unfold cS cps
  rw [PyData.shown_tuple, PyData.shownAll_ints, cps_toList_append, cps_toList_append]
  have e40 : ("(" : Str).cps.toList = [40] := by decide +kernel
  rw [e40, List.length_map]
  match r with
  | [] => decide +kernel
  | [x] =>
    have e : ((if ([x] : List Int).length == 1 then ",)" else ")" : String) : Str).cps.toList = [44, 41] := by
      rw [show (([x] : List Int).length == 1) = true from rfl]
      decide +kernel
    rw [e]
    rfl
  | x :: y :: r =>
    have e : ((if (x :: y :: r).length == 1 then ",)" else ")" : String) : Str).cps.toList = [41] := by
      rw [show ((x :: y :: r).length == 1) = false by simp]
      decide +kernel
    have := join_ints x (y :: r)
    unfold cps at this
    rw [e, List.append_assoc, this]
    rfl
end WK
namespace WK
open PySem PySem.Spec PyProof.Rows L2 WD
theorem open_t : cps ("(" : Str) = [40] := by decide +kernel
theorem close_t : cps (")" : Str) = [41] := by decide +kernel
theorem close_1 : cps (",)" : Str) = [44, 41] := by decide +kernel
theorem open_l : cps ("[" : Str) = [91] := by decide +kernel
theorem cps_app (a b : Str) : cps (a ++ b) = cps a ++ cps b := cps_toList_append a b
theorem cS_two (a b : PyData) : cS (.tuple [a, b]) = 40 :: (cS a ++ 44 :: 32 :: (cS b ++ [41])) := by
  unfold cS
  rw [PyData.shown_tuple, PyData.shownAll_cons, PyData.shownAll_cons, PyData.shownAll_nil, join_cons_cons, join_one, show (([a, b] : List PyData).length == 1) = false from rfl]
  show cps (("(" : Str) ++ (a.shown ++ (", " : Str) ++ b.shown) ++ (")" : Str)) = _
  rw [cps_app, cps_app, cps_app, cps_app, open_t, close_t, comma]
  simp
theorem cS_one (a : PyData) : cS (.tuple [a]) = 40 :: (cS a ++ [44, 41]) := by
  unfold cS
  rw [PyData.shown_tuple, PyData.shownAll_cons, PyData.shownAll_nil, join_one, show (([a] : List PyData).length == 1) = true from rfl]
  show cps (("(" : Str) ++ a.shown ++ (",)" : Str)) = _
  rw [cps_app, cps_app, open_t, close_1]
  simp
theorem cS_three (a b c : PyData) : cS (.tuple [a, b, c]) = 40 :: (cS a ++ 44 :: 32 :: (cS b ++ 44 :: 32 :: (cS c ++ [41]))) := by
  unfold cS
  rw [PyData.shown_tuple, PyData.shownAll_cons, PyData.shownAll_cons, PyData.shownAll_cons, PyData.shownAll_nil, join_cons_cons, join_cons_cons, join_one, show (([a, b, c] : List PyData).length == 1) = false from rfl]
  show cps (("(" : Str) ++ (a.shown ++ (", " : Str) ++ (b.shown ++ (", " : Str) ++ c.shown)) ++ (")" : Str)) = _
  rw [cps_app, cps_app, cps_app, cps_app, cps_app, cps_app, open_t, close_t, comma]
  simp
theorem cS_list (xs : List PyData) : ∃ t, cS (.list xs) = 91 :: t := by
  unfold cS
  rw [PyData.shown_list, cps_app, cps_app, open_l]
  exact ⟨_, rfl⟩
theorem cS_bool (b : Bool) : ∃ c t, cS (.bool b) = c :: t ∧ (c = 84 ∨ c = 70) := by
  unfold cS
  rw [PyData.shown_bool]
  cases b
  · exact ⟨70, [97, 108, 115, 101], by decide +kernel, .inr rfl⟩
  · exact ⟨84, [114, 117, 101], by decide +kernel, .inl rfl⟩
theorem cS_bools (b : Bool) (bs : List Bool) : ∃ c t, cS (.tuple ((b :: bs).map .bool)) = 40 :: c :: t ∧ (c = 84 ∨ c = 70) := by
  obtain ⟨c, t, e, h⟩ := cS_bool b
  have e : cps (PyData.bool b).shown = c :: t := e
  unfold cS
  rw [PyData.shown_tuple, List.map_cons, PyData.shownAll_cons]
  cases bs with
  | nil =>
    rw [List.map_nil, PyData.shownAll_nil, join_one, cps_app, cps_app, open_t, e]
    exact ⟨c, _, rfl, h⟩
  | cons b2 bs =>
    rw [List.map_cons, PyData.shownAll_cons, join_cons_cons, cps_app, cps_app, cps_app, cps_app, open_t, e]
    exact ⟨c, _, rfl, h⟩
abbrev spotD (k : Int) (r : List Int) : PyData := .tuple [.int k, .tuple (r.map .int)]
theorem cS_spot (k : Int) (r : List Int) : cS (spotD k r) = 40 :: (Dg k ++ 44 :: 32 :: 40 :: (Ix r ++ [41])) := by
  rw [cS_two, cS_int, cS_ints]
  rfl
theorem spot_inj {k j : Int} {r q : List Int} (h : strD (spotD k r) = strD (spotD j q)) : k = j ∧ r = q := by
  rw [strD_tup, strD_tup] at h
  have h : cS (spotD k r) = cS (spotD j q) := congrArg cps h
  rw [cS_spot, cS_spot] at h
  injection h with _ h
  obtain ⟨e1, _, e3⟩ := span_eq no44 no44 Dg_ok Dg_ok h
  injection e3 with _ e3
  injection e3 with _ e3
  exact ⟨Dg_inj e1, (Ix_inj e3).1⟩
/-- places that are none by their form -/
inductive OddP : PyData → Prop
  | lst (k : Int) (xs : List PyData) : OddP (.tuple [.int k, .list xs])
  | all (xs : List PyData) : OddP (.list xs)
  | bool (b : Bool) (p : PyData) : OddP (.tuple [.bool b, p])
  | bools (k : Int) (b : Bool) (bs : List Bool) : OddP (.tuple [.int k, .tuple ((b :: bs).map .bool)])
  | one (k : Int) : OddP (.tuple [.int k])
  | three (k : Int) (r : List Int) (j : Int) : OddP (.tuple [.int k, .tuple (r.map .int), .int j])
  | text : OddP (.str "aa")
  | non : OddP .none
  | int (k : Int) : OddP (.int k)
  | nil : OddP (.tuple [])
theorem no84 {c : Nat} (h : c = 84 ∨ c = 70) : ¬ okD c := by unfold okD; omega
theorem no91 : ¬ okD 91 := by unfold okD; omega
theorem no40 : ¬ okD 40 := by unfold okD; omega
theorem odd_unlike {p : PyData} (h : OddP p) {k : Int} {r : List Int} : strD (spotD k r) ≠ strD p := fun e => by
  have e : cS (spotD k r) = cps (strD p) := (congrArg cps (strD_tup _)).symm.trans (congrArg cps e)
  cases h with
  | lst j xs =>
    have e : cS (spotD k r) = cS (.tuple [.int j, .list xs]) := e.trans (congrArg cps (strD_tup _))
    rw [cS_spot] at e
    obtain ⟨t, et⟩ := cS_list xs
    rw [cS_two, cS_int, et] at e
    injection e with _ e
    obtain ⟨_, _, e⟩ := span_eq no44 no44 Dg_ok Dg_ok e
    injection e with _ e
    injection e with e _
    cases e
  | all xs =>
    have e : cS (spotD k r) = cS (.list xs) := e.trans (congrArg cps (strD_lst _))
    rw [cS_spot] at e
    obtain ⟨t, et⟩ := cS_list xs
    rw [et] at e
    injection e with e _
    cases e
  | bool b p =>
    have e : cS (spotD k r) = cS (.tuple [.bool b, p]) := e.trans (congrArg cps (strD_tup _))
    rw [cS_spot] at e
    obtain ⟨c, t, et, hc⟩ := cS_bool b
    rw [cS_two, et] at e
    injection e with _ e
    have := (span_eq (ok := okD) (q := []) no44 (no84 hc) Dg_ok (fun _ m => by cases m) e).2.1
    omega
  | bools j b bs =>
    have e : cS (spotD k r) = cS (.tuple [.int j, .tuple ((b :: bs).map .bool)]) := e.trans (congrArg cps (strD_tup _))
    rw [cS_spot] at e
    obtain ⟨c, t, et, hc⟩ := cS_bools b bs
    rw [cS_two, cS_int, et] at e
    injection e with _ e
    obtain ⟨_, _, e⟩ := span_eq no44 no44 Dg_ok Dg_ok e
    injection e with _ e
    injection e with _ e
    have bad : ∀ {p : List Nat} {d : Nat} {u v : List Nat}, ¬ okD d → (d = 44 ∨ d = 41) → (∀ a ∈ p, okD a) → p ++ d :: u = c :: v → False := fun hd hdd hp e => by
      have := (span_eq (ok := okD) (q := []) hd (no84 hc) hp (fun _ m => by cases m) e).2.1
      omega
    clear et
    cases r with
    | nil =>
      have := (List.cons.inj e).1
      omega
    | cons x r =>
      cases r with
      | nil => exact bad (p := Dg x) (u := 41 :: [41]) no44 (.inl rfl) Dg_ok (by simpa [Ix] using e)
      | cons y r => exact bad (p := Dg x) (u := 32 :: (Jx (y :: r) ++ [41])) no44 (.inl rfl) Dg_ok (by simpa [Ix] using e)
  | one j =>
    have e : cS (spotD k r) = cS (.tuple [.int j]) := e.trans (congrArg cps (strD_tup _))
    rw [cS_spot] at e
    rw [cS_one, cS_int] at e
    injection e with _ e
    obtain ⟨_, _, e⟩ := span_eq no44 no44 Dg_ok Dg_ok e
    injection e with e _
    cases e
  | three j q i =>
    have e : cS (spotD k r) = cS (.tuple [.int j, .tuple (q.map .int), .int i]) := e.trans (congrArg cps (strD_tup _))
    rw [cS_spot] at e
    rw [cS_three, cS_int, cS_ints] at e
    injection e with _ e
    obtain ⟨_, _, e⟩ := span_eq no44 no44 Dg_ok Dg_ok e
    injection e with _ e
    injection e with _ e
    obtain ⟨_, e⟩ := Ix_inj e
    injection e with e _
    cases e
  | text =>
    rw [cS_spot, show strD (.str "aa") = ("aa" : Str) from strD_str _, show cps ("aa" : Str) = [97, 97] by decide +kernel] at e
    exact absurd (List.cons.inj e).1 (by decide)
  | non =>
    rw [cS_spot, strD_non, PyData.shown_none, show cps ("None" : Str) = [78, 111, 110, 101] by decide +kernel] at e
    exact absurd (List.cons.inj e).1 (by decide)
  | int j =>
    have e : cS (spotD k r) = cS (.int j) := e.trans (congrArg cps (strD_int _))
    rw [cS_spot] at e
    rw [cS_int] at e
    exact no40 (Dg_ok (i := j) 40 (by rw [← e]; exact .head _))
  | nil =>
    have e : cS (spotD k r) = cS (.tuple []) := e.trans (congrArg cps (strD_tup _))
    rw [cS_spot] at e
    have e2 : cS (.tuple []) = [40, 41] := cS_ints []
    rw [e2] at e
    injection e with _ e
    have := (span_eq (ok := okD) (q := []) no44 no41 Dg_ok (fun _ m => by cases m) e).2.1
    cases this
end WK
namespace WK
open PySem PySem.Spec PyProof.Rows L2 WD
/-- its text is short -/
def TxtOk (W : Nat) (d : PyData) : Prop := d.leavesShort 13 = true ∧ d.showable = true ∧ d.weight ≤ W
theorem TxtOk.mono {W W2 : Nat} {d : PyData} (h : TxtOk W d) (l : W ≤ W2) : TxtOk W2 d := ⟨h.1, h.2.1, Nat.le_trans h.2.2 l⟩
theorem log2_small {n : Nat} (h : n ≤ 999999999999) (h0 : n ≠ 0) : n.log2 < 40 := (Nat.log2_lt h0).mpr (Nat.lt_of_le_of_lt h (by decide))
theorem txt_int {i : Int} (h1 : -999999999999 ≤ i) (h2 : i ≤ 999999999999) : TxtOk 40 (.int i) := by
  refine ⟨?_, ?_, ?_⟩
  · simp only [PyData.leavesShort, decide_eq_true_eq]
    exact PyData.shown_int_le2 h1 h2
  · simp only [PyData.showable, decide_eq_true_eq]
    by_cases h0 : i.natAbs = 0
    · rw [h0]; decide
    · exact Nat.lt_trans (log2_small (by omega) h0) (by decide)
  · simp only [PyData.weight]
    by_cases h0 : i = 0
    · rw [if_pos (by simp [h0])]; omega
    · rw [if_neg (by simp [h0])]
      have := log2_small (n := i.natAbs) (by omega) (by omega)
      omega
theorem txt_str {n : Nat} {x : Str} (h : ∀ c ∈ x.cps.toList, c < 55296) (l : x.length ≤ n) : TxtOk n (.str x) := by
  refine ⟨?_, by simp [PyData.showable], by simp only [PyData.weight]; exact l⟩
  simp only [PyData.leavesShort, List.all_eq_true, decide_eq_true_eq]
  intro c hc
  exact Nat.lt_trans (h c hc) (by decide)
theorem txt_bool {n : Nat} (b : Bool) : TxtOk n (.bool b) := ⟨by simp [PyData.leavesShort], by simp [PyData.showable], by simp [PyData.weight]⟩
theorem txt_none {n : Nat} : TxtOk n .none := ⟨by simp [PyData.leavesShort], by simp [PyData.showable], by simp [PyData.weight]⟩
/-- a sequence of things whose texts are short -/
def TxtAll (W : Nat) (l : List PyData) : Prop := PyData.leavesShortAll 13 l = true ∧ PyData.showableAll l = true ∧ PyData.weightAll l ≤ W
theorem txt_nil : TxtAll 0 [] := ⟨rfl, rfl, by simp [PyData.weightAll]⟩
theorem txt_cons {a b : Nat} {d : PyData} {l : List PyData} (h : TxtOk a d) (t : TxtAll b l) : TxtAll (a + 1 + b) (d :: l) := by
  obtain ⟨h1, h2, h3⟩ := h
  obtain ⟨t1, t2, t3⟩ := t
  refine ⟨by simp [PyData.leavesShortAll, h1, t1], by simp [PyData.showableAll, h2, t2], ?_⟩
  simp only [PyData.weightAll]
  omega
theorem txt_tuple {W : Nat} {l : List PyData} (h : TxtAll W l) : TxtOk W (.tuple l) := ⟨by simpa only [PyData.leavesShort] using h.1, by simpa only [PyData.showable] using h.2.1, by simpa only [PyData.weight] using h.2.2⟩
theorem txt_list {W : Nat} {l : List PyData} (h : TxtAll W l) : TxtOk W (.list l) := ⟨by simpa only [PyData.leavesShort] using h.1, by simpa only [PyData.showable] using h.2.1, by simpa only [PyData.weight] using h.2.2⟩
theorem txt_of {w : Nat} : ∀ {l : List PyData}, (∀ d ∈ l, TxtOk w d) → TxtAll (l.length * (w + 1)) l
  | [], _ => txt_nil.1 |> fun _ => ⟨rfl, rfl, by simp [PyData.weightAll]⟩
  | d :: l, h => by
    have t := txt_cons (h d (.head _)) (txt_of fun x m => h x (.tail _ m))
    rw [List.length_cons, Nat.add_mul, Nat.one_mul, Nat.add_comm]
    exact t
theorem strOk_d {n W : Nat} {d : PyData} (f : FineD n d) (h : TxtOk W d) (hn : n ≤ 40) (hW : W ≤ 1000000) : StrOk d := by
  have := PyData.shown_le 13 (by decide) d h.1
  have h3 := h.2.2
  exact ⟨f.2.1, f.1, h.2.1, Nat.le_trans f.2.2 hn, by omega⟩
theorem ok_name {x : Str} (h : NameS x) : ∀ c ∈ x.cps.toList, c < 55296 := ok_of (by decide +kernel) h.2.2
theorem ok_signs {x : Str} (h : SignsS x) : ∀ c ∈ x.cps.toList, c < 55296 := ok_of (by decide +kernel) h.2
def smallT (x : Str) : Bool := x.cps.toList.all fun c => decide (c < 55296)
theorem txt_lit {n : Nat} {x : Str} (h : smallT x = true) (l : x.length ≤ n) : TxtOk n (.str x) := txt_str (fun c hc => of_decide_eq_true (List.all_eq_true.mp h c hc)) l
theorem two_lit {x : Str} (h : x ∈ twoW) : TxtOk 8 (.str x) := by
  unfold twoW at h
  simp only [List.mem_cons, List.not_mem_nil, or_false] at h
  rcases h with rfl | rfl | rfl | rfl | rfl | rfl | rfl <;> exact txt_lit (by decide +kernel) (by decide +kernel)
theorem t_num : TxtOk 8 (.str "num") := txt_lit (by decide +kernel) (by decide +kernel)
theorem t_truth : TxtOk 8 (.str "truth") := txt_lit (by decide +kernel) (by decide +kernel)
theorem t_flow : TxtOk 8 (.str "flow") := txt_lit (by decide +kernel) (by decide +kernel)
theorem t_beats : TxtOk 8 (.str "beats") := txt_lit (by decide +kernel) (by decide +kernel)
theorem t_not : TxtOk 8 (.str "not") := txt_lit (by decide +kernel) (by decide +kernel)
theorem t_pick : TxtOk 8 (.str "pick") := txt_lit (by decide +kernel) (by decide +kernel)
theorem t_then : TxtOk 8 (.str "then") := txt_lit (by decide +kernel) (by decide +kernel)
theorem t_when : TxtOk 8 (.str "when") := txt_lit (by decide +kernel) (by decide +kernel)
theorem t_merge : TxtOk 8 (.str "merge") := txt_lit (by decide +kernel) (by decide +kernel)
theorem t_call : TxtOk 8 (.str "call") := txt_lit (by decide +kernel) (by decide +kernel)
theorem txt_atom {e : PyData} (h : Atom e) : TxtOk 60 e := by
  cases h with
  | num h1 h2 => exact (txt_tuple (txt_cons t_num (txt_cons (txt_int (by omega) (by omega)) txt_nil))).mono (by decide)
  | truth b => exact (txt_tuple (txt_cons t_truth (txt_cons (txt_bool (n := 0) b) txt_nil))).mono (by decide)
theorem exq_txt {ks : List Str} : ∀ (d : Nat) (e : PyData) (m : Bool) (s : Nat), Exq ks m d e s → TxtOk (200 * s) e
  | 0, e, m, s, h => by
    obtain ⟨d2, q⟩ := h.pos
    omega
  | d + 1, e, m, s, h => by
    have ih := exq_txt (ks := ks) d
    cases h with
    | atom h => exact (txt_atom h).mono (by decide)
    | flow hk hn => exact (txt_tuple (txt_cons t_flow (txt_cons (txt_str (ok_name hn) hn.2.1) txt_nil))).mono (by decide)
    | beats h1 h2 h3 => exact (txt_tuple (txt_cons t_beats (txt_cons (txt_str (ok_signs h1) h1.1) (txt_cons (txt_str (ok_signs h2) h2.1) txt_nil)))).mono (by decide)
    | two hx ha hb => exact (txt_tuple (txt_cons (two_lit hx) (txt_cons (ih _ _ _ ha) (txt_cons (ih _ _ _ hb) txt_nil)))).mono (by omega)
    | not ha => exact (txt_tuple (txt_cons t_not (txt_cons (ih _ _ _ ha) txt_nil))).mono (by omega)
    | pick ha hb hc => exact (txt_tuple (txt_cons t_pick (txt_cons (ih _ _ _ ha) (txt_cons (ih _ _ _ hb) (txt_cons (ih _ _ _ hc) txt_nil))))).mono (by omega)
    | thn hk ha => exact (txt_tuple (txt_cons t_then (txt_cons (txt_atom hk) (txt_cons (ih _ _ _ ha) txt_nil)))).mono (by omega)
    | whn ha hk hn => exact (txt_tuple (txt_cons t_when (txt_cons (ih _ _ _ ha) (txt_cons (txt_str (ok_name hn) hn.2.1) (txt_cons (txt_bool (n := 0) _) txt_nil))))).mono (by omega)
    | merge hk hn ha hb => exact (txt_tuple (txt_cons t_merge (txt_cons (txt_str (ok_name hn) hn.2.1) (txt_cons (ih _ _ _ ha) (txt_cons (ih _ _ _ hb) txt_nil))))).mono (by omega)
    | @call _ n f ps hn hl h =>
      have go : ∀ (l : List PyData) (n : Nat), LevQ ks false d l n → TxtAll (200 * n + l.length) l := by
        intro l
        induction l with
        | nil => intro n _; exact ⟨rfl, rfl, by simp [PyData.weightAll]⟩
        | cons x l ih2 =>
          intro n h
          obtain ⟨s, n', rfl, he, ht⟩ := h.uncons
          obtain ⟨a, b, c⟩ := txt_cons (ih _ _ _ he) (ih2 n' ht)
          exact ⟨a, b, by rw [List.length_cons]; omega⟩
      exact (txt_tuple (txt_cons t_call (txt_cons (txt_str (ok_name hn) hn.2.1) (txt_cons (txt_list (go ps n h)) txt_nil)))).mono (by omega)
theorem exq_strOk {ks : List Str} {d : Nat} {e : PyData} {m : Bool} {s : Nat} (h : Exq ks m d e s) (hd : d ≤ 9) (hs : s ≤ 1000) : StrOk e := strOk_d (fine_exq h) (exq_txt d e m s h) (by omega) (by omega)
/-- a small number -/
def SmI (i : Int) : Prop := -1000000 ≤ i ∧ i ≤ 1000000
theorem txt_sm {i : Int} (h : SmI i) : TxtOk 40 (.int i) := txt_int (by unfold SmI at h; omega) (by unfold SmI at h; omega)
theorem txt_ints {r : List Int} (h : ∀ i ∈ r, SmI i) (l : r.length ≤ 100) : TxtOk 4100 (.tuple (r.map .int)) := by
  have t := txt_of (w := 40) (l := r.map .int) fun d hd => by
    obtain ⟨i, hi, rfl⟩ := List.mem_map.mp hd
    exact txt_sm (h i hi)
  rw [List.length_map] at t
  exact (txt_tuple t).mono (by omega)
theorem spot_strOk {k : Int} {r : List Int} (hk : SmI k) (h : ∀ i ∈ r, SmI i) (l : r.length ≤ 100) : StrOk (spotD k r) := by
  refine strOk_d (n := 2) (W := 5000) ?_ ?_ (by decide) (by decide)
  · refine fine_tuple fun d hd => ?_
    rcases List.mem_cons.mp hd with rfl | hd
    · exact fine_int k
    · rcases List.mem_cons.mp hd with rfl | hd
      · exact fine_ints (n := 0) r
      · cases hd
  · exact (txt_tuple (txt_cons (txt_sm hk) (txt_cons (txt_ints h l) txt_nil))).mono (by decide)
end WK
namespace WK
open PySem PySem.Spec PyProof.Rows L2 WD
theorem LevQ.at {ks : List Str} {d : Nat} : ∀ {l : List PyData} {N : Nat} {j : Nat} (hj : j < l.length), LevQ ks false d l N → ∃ s, s ≤ N ∧ Exq ks false d l[j] s
  | x :: l, N, j, hj, h => by
    obtain ⟨s, n, rfl, he, ht⟩ := h.uncons
    cases j with
    | zero => exact ⟨s, by omega, he⟩
    | succ j =>
      obtain ⟨s2, u1, u2⟩ := ht.at (j := j) (by rw [List.length_cons] at hj; omega)
      exact ⟨s2, by omega, u2⟩
theorem atP_nil {e : PyData} : atP e [] = some e := by unfold atP; rfl
theorem atP_cons {e d : PyData} {ps : List PyData} {j : Nat} {r : List Int} (h : partsD e = some ps) (hj : j < ps.length) : atP e ((j : Int) :: r) = atP ps[j] r := by
  rw [atP]
  rw [h]
  show (if 0 ≤ (j : Int) ∧ (j : Int) < (ps.length : Int) then (match ps[(j : Int).toNat]? with | some d => atP d r | none => none) else none) = _
  rw [if_pos (by omega), Int.toNat_natCast, List.getElem?_eq_getElem hj]
theorem walkB_eq {n : Nat} {k e : PyData} {p ps L : List PyData} (h1 : partsD e = some ps) (hw : walkB (n + 1) [k, .tuple p, e] = some L) : ∃ L2, walkL (walkB n) k p ps 0 = some L2 ∧ L = triD (k, p, e) :: L2 := by
  unfold walkB at hw
  have hw : (match partsD e with | some ps => if p.length < 16777216 then (walkL (walkB n) k p ps 0).map (.tuple [k, .tuple p, e] :: ·) else none | none => none) = some L := hw
  rw [h1] at hw
  have hw : (if p.length < 16777216 then (walkL (walkB n) k p ps 0).map (.tuple [k, .tuple p, e] :: ·) else none) = some L := hw
  split at hw
  · obtain ⟨L2, g1, rfl⟩ := Option.map_eq_some_iff.mp hw
    exact ⟨L2, g1, rfl⟩
  · cases hw
/-- an entry: a place of e and what stands there -/
def EntryOf (ks : List Str) (k : Int) (p : List Int) (e : PyData) (s d : Nat) (z : PyData) : Prop := ∃ (r : List Int) (e2 : PyData) (m2 : Bool) (d2 s2 : Nat), z = triD (.int k, (p ++ r).map .int, e2) ∧ atP e r = some e2 ∧ Exq ks m2 d2 e2 s2 ∧ d2 ≤ d ∧ s2 ≤ s ∧ r.length ≤ d ∧ ∀ i ∈ r, 0 ≤ i ∧ i ≤ 1000
theorem walk_in {ks : List Str} : ∀ (d n : Nat) (m : Bool) (e : PyData) (s : Nat) (k : Int) (p : List Int) (L : List PyData), Exq ks m d e s → s ≤ 1000 → walkB n [.int k, .tuple (p.map .int), e] = some L → ∀ z ∈ L, EntryOf ks k p e s d z
  | 0, n, m, e, s, k, p, L, h, _, _ => by
    obtain ⟨d2, e⟩ := h.pos
    omega
  | d + 1, n, m, e, s, k, p, L, h, hs, hw => by
    cases n with
    | zero => cases hw
    | succ n =>
      obtain ⟨ps, M, h1, h2, rfl⟩ := parts_ok h
      obtain ⟨L2, g1, rfl⟩ := walkB_eq h1 hw
      have hln := h2.len_le
      have go : ∀ (l : List PyData) (i M2 : Nat) (L3 : List PyData), ps.drop i = l → LevQ ks false d l M2 → M2 ≤ M → walkL (walkB n) (.int k) (p.map .int) l i = some L3 → ∀ z ∈ L3, EntryOf ks k p e (M + 1) (d + 1) z := by
        intro l
        induction l with
        | nil => intro i M2 L3 _ _ _ hL; cases hL; intro z hz; cases hz
        | cons x l ih =>
          intro i M2 L3 hd hq hM hL
          obtain ⟨s2, n', rfl, he, ht⟩ := hq.uncons
          obtain ⟨A, B, a1, b1, rfl⟩ := walkL_cons hL
          have hi : i < ps.length := by
            have := congrArg List.length hd
            rw [List.length_drop, List.length_cons] at this
            omega
          have hx : ps[i] = x := by
            have := congrArg (fun z : List PyData => z[0]?) hd
            simp only [List.getElem?_drop, Nat.add_zero, List.getElem?_cons_zero] at this
            rw [List.getElem?_eq_getElem hi] at this
            exact Option.some.inj this
          intro z hz
          rcases List.mem_append.mp hz with hz | hz
          · have a1 : walkB n [.int k, .tuple ((p ++ [(i : Int)]).map .int), x] = some A := by rw [List.map_append]; exact a1
            obtain ⟨r, e2, m2, d2, s3, q1, q2, q3, q4, q5, q6, q7⟩ := walk_in d n false x s2 k (p ++ [(i : Int)]) A he (by omega) a1 z hz
            refine ⟨(i : Int) :: r, e2, m2, d2, s3, by rw [q1, List.append_assoc]; rfl, ?_, q3, by omega, by omega, by rw [List.length_cons]; omega, fun j hj => ?_⟩
            · rw [atP_cons (d := x) h1 hi, hx]
              exact q2
            · rcases List.mem_cons.mp hj with rfl | hj
              · omega
              · exact q7 j hj
          · exact ih (i + 1) n' B (by have := congrArg (List.drop 1) hd; simpa [List.drop_drop, Nat.add_comm] using this) ht (by omega) b1 z hz
      intro z hz
      rcases List.mem_cons.mp hz with rfl | hz
      · exact ⟨[], e, m, d + 1, M + 1, by rw [List.append_nil], atP_nil, h, Nat.le_refl _, Nat.le_refl _, Nat.zero_le _, fun _ h => by cases h⟩
      · exact go ps 0 M L2 rfl h2 (Nat.le_refl _) g1 z hz
theorem walk_has {ks : List Str} : ∀ (r : List Int) (d n : Nat) (m : Bool) (e e2 : PyData) (s : Nat) (k : Int) (p : List Int) (L : List PyData), Exq ks m d e s → walkB n [.int k, .tuple (p.map .int), e] = some L → atP e r = some e2 → triD (.int k, (p ++ r).map .int, e2) ∈ L
  | r, d, 0, m, e, e2, s, k, p, L, h, hw, ha => by cases hw
  | [], d, n + 1, m, e, e2, s, k, p, L, h, hw, ha => by
    obtain ⟨d, rfl⟩ := h.pos
    obtain ⟨ps, M, h1, h2, rfl⟩ := parts_ok h
    obtain ⟨L2, g1, rfl⟩ := walkB_eq h1 hw
    rw [atP_nil] at ha
    cases ha
    rw [List.append_nil]
    exact .head _
  | i :: r, d, n + 1, m, e, e2, s, k, p, L, h, hw, ha => by
    obtain ⟨d, rfl⟩ := h.pos
    obtain ⟨ps, M, h1, h2, rfl⟩ := parts_ok h
    obtain ⟨L2, g1, rfl⟩ := walkB_eq h1 hw
    rw [atP, h1] at ha
    have ha : (if 0 ≤ i ∧ i < (ps.length : Int) then (match ps[i.toNat]? with | some d => atP d r | none => none) else none) = some e2 := ha
    split at ha
    · rename_i hi
      have hj : i.toNat < ps.length := by omega
      rw [List.getElem?_eq_getElem hj] at ha
      have ha : atP ps[i.toNat] r = some e2 := ha
      have ei : i = ((i.toNat : Nat) : Int) := by omega
      obtain ⟨s2, _, he⟩ := h2.at hj
      have go : ∀ (l : List PyData) (i0 : Nat) (L3 : List PyData), ps.drop i0 = l → i0 ≤ i.toNat → walkL (walkB n) (.int k) (p.map .int) l i0 = some L3 → triD (.int k, (p ++ i :: r).map .int, e2) ∈ L3 := by
        intro l
        induction l with
        | nil =>
          intro i0 L3 hd hle _
          have := congrArg List.length hd
          rw [List.length_drop, List.length_nil] at this
          omega
        | cons x l ih =>
          intro i0 L3 hd hle hL
          obtain ⟨A, B, a1, b1, rfl⟩ := walkL_cons hL
          have hi0 : i0 < ps.length := by omega
          have hx : ps[i0] = x := by
            have := congrArg (fun z : List PyData => z[0]?) hd
            simp only [List.getElem?_drop, Nat.add_zero, List.getElem?_cons_zero] at this
            rw [List.getElem?_eq_getElem hi0] at this
            exact Option.some.inj this
          by_cases e0 : i0 = i.toNat
          · subst e0
            have a1 : walkB n [.int k, .tuple ((p ++ [i]).map .int), x] = some A := by rw [List.map_append, ei]; exact a1
            rw [hx] at ha he
            have := walk_has r d n false x e2 s2 k (p ++ [i]) A he a1 ha
            rw [List.append_assoc] at this
            exact List.mem_append.mpr (.inl this)
          · exact List.mem_append.mpr (.inr (ih (i0 + 1) B (by have := congrArg (List.drop 1) hd; simpa [List.drop_drop, Nat.add_comm] using this) (by omega) b1))
      exact .tail _ (go ps 0 L2 rfl (Nat.zero_le _) g1)
    · cases ha
end WK
namespace WK
open PySem PySem.Spec PyProof.Rows L2 WD
/-- an entry of all rows -/
def SpotOf (M : Mod) (z : PyData) : Prop := ∃ (k : Int) (r : List Int) (e : PyData) (m : Bool) (d s : Nat), z = triD (.int k, r.map .int, e) ∧ atR M.rs k r = some e ∧ Exq (M.ins ++ M.tgs) m d e s ∧ d ≤ 8 ∧ s ≤ 200 ∧ 0 ≤ k ∧ k < 60 ∧ r.length ≤ 8 ∧ ∀ i ∈ r, 0 ≤ i ∧ i ≤ 1000
theorem drop_at {α : Type} {L l : List α} {x : α} {i : Nat} (h : L.drop i = x :: l) : ∃ hi : i < L.length, L[i] = x ∧ L.drop (i + 1) = l := by
  have hl := congrArg List.length h
  rw [List.length_drop, List.length_cons] at hl
  have hi : i < L.length := by omega
  refine ⟨hi, ?_, ?_⟩
  · have := congrArg (fun z : List α => z[0]?) h
    simp only [List.getElem?_drop, Nat.add_zero, List.getElem?_cons_zero] at this
    rw [List.getElem?_eq_getElem hi] at this
    exact Option.some.inj this
  · have := congrArg (List.drop 1) h
    simpa [List.drop_drop, Nat.add_comm] using this
theorem atR_nat {l : List (List PyData × PyData)} {j : Nat} (hj : j < l.length) (r : List Int) : atR l (j : Int) r = atP l[j].2 r := by
  unfold atR
  rw [if_pos (by omega), Int.toNat_natCast, List.getElem?_eq_getElem hj]
theorem spots_in {M : Mod} {N : Nat} (h : ModOk M N) {L : List PyData} (hL : walkR M.rs 0 = some L) : ∀ z ∈ L, SpotOf M z := by
  have few := h.few
  have h60 : M.rs.length ≤ 60 := by unfold Mod.rs; rw [List.length_map]; exact h.rowL
  have go : ∀ (l : List (List PyData × PyData)) (i N2 : Nat) (L : List PyData), M.rs.drop i = l → RowsQ (M.ins ++ M.tgs) 8 l N2 → N2 ≤ 200 → walkR l i = some L → ∀ z ∈ L, SpotOf M z := by
    intro l
    induction l with
    | nil => intro i N2 L _ _ _ hL; cases hL; intro z hz; cases hz
    | cons x l ih =>
      intro i N2 L hd hq hN hL
      obtain ⟨hi, hx, hd2⟩ := drop_at hd
      cases hq with
      | cons he _ t =>
        unfold walkR at hL
        split at hL
        · rename_i A B h1 h2
          cases hL
          intro z hz
          rcases List.mem_append.mp hz with hz | hz
          · obtain ⟨r, e2, m2, d2, s3, q1, q2, q3, q4, q5, q6, q7⟩ := walk_in 8 12 true _ _ (i : Int) [] A he (by omega) h1 z hz
            refine ⟨(i : Int), r, e2, m2, d2, s3, by rw [q1]; rfl, ?_, q3, q4, by omega, by omega, by omega, q6, q7⟩
            rw [atR_nat hi, hx]
            exact q2
          · exact ih (i + 1) _ B hd2 t (by omega) h2 z hz
        · cases hL
  exact go M.rs 0 N L rfl h.ex few hL
theorem spots_has {M : Mod} {N : Nat} (h : ModOk M N) {L : List PyData} (hL : walkR M.rs 0 = some L) {k : Int} {r : List Int} {e : PyData} (ha : atR M.rs k r = some e) : triD (.int k, r.map .int, e) ∈ L := by
  have hk : 0 ≤ k ∧ k < (M.rs.length : Int) := by
    refine Classical.byContradiction fun z => ?_
    unfold atR at ha
    rw [if_neg z] at ha
    cases ha
  obtain ⟨j, rfl⟩ : ∃ j : Nat, k = (j : Int) := ⟨k.toNat, by omega⟩
  have hj : j < M.rs.length := by omega
  rw [atR_nat hj] at ha
  have go : ∀ (l : List (List PyData × PyData)) (i N2 : Nat) (L : List PyData), M.rs.drop i = l → RowsQ (M.ins ++ M.tgs) 8 l N2 → i ≤ j → walkR l i = some L → triD (.int (j : Int), r.map .int, e) ∈ L := by
    intro l
    induction l with
    | nil =>
      intro i N2 L hd _ hle _
      have := congrArg List.length hd
      rw [List.length_drop, List.length_nil] at this
      omega
    | cons x l ih =>
      intro i N2 L hd hq hle hL
      obtain ⟨hi, hx, hd2⟩ := drop_at hd
      cases hq with
      | cons he _ t =>
        unfold walkR at hL
        split at hL
        · rename_i A B h1 h2
          cases hL
          by_cases e0 : i = j
          · subst e0
            rw [hx] at ha
            exact List.mem_append.mpr (.inl (walk_has r 8 12 true _ e _ (i : Int) [] A he h1 ha))
          · exact List.mem_append.mpr (.inr (ih (i + 1) _ B hd2 t (by omega) h2))
        · cases hL
  exact go M.rs 0 N L rfl h.ex (Nat.zero_le _) hL
theorem spots_some {M : Mod} {N : Nat} (h : ModOk M N) {L : List PyData} (hL : walkR M.rs 0 = some L) (h0 : M.rs ≠ []) : L ≠ [] := by
  have h1 : 0 < M.rs.length := List.length_pos_iff.mpr h0
  have : atR M.rs (0 : Int) [] = some M.rs[0].2 := by
    have := atR_nat h1 []
    rw [atP_nil] at this
    exact this
  have := spots_has h hL this
  intro e
  rw [e] at this
  cases this
/-! ### the law's _law_there -/
theorem tri_inj {a b e f : PyData} {p q : List PyData} (h : PyData.tuple [a, .tuple p, e] = .tuple [b, .tuple q, f]) : a = b ∧ p = q ∧ e = f := by
  simp only [PyData.tuple.injEq, List.cons.injEq, and_true] at h
  exact h
theorem there_loop {L0 p : PyData} {P : Fl → Prop} {res : Option PyData} (hp : StrOk p) (q0 : res = none → ∀ a b c, P (.nx ⟨[.dat L0, .dat p, a, b, c], 0⟩)) (q1 : ∀ e ρ, res = some e → P (.rt (.list [e]) ρ)) : ∀ (L : List PyData) (a b c : En),
    (∀ z ∈ L, ∃ k r e, z = triD (.int k, r.map .int, e) ∧ StrOk (spotD k r) ∧ (strD (spotD k r) = strD p → res = some e)) → (res ≠ none → ∃ k r e, triD (.int k, r.map .int, e) ∈ L ∧ strD (spotD k r) = strD p) →
    wLoop (wgTup 3 (wgCons (wName [] 2) (wgCons (wName [] 3) (wgCons (wName [] 4) wgNil)))) (wIfS (wB (wOp fEq (wCB fStr (wCons (wTup (wCons (wVar 2) (wCons (wVar 3) wNil))) wNil)) (wCB fStr (wCons (wVar 1) wNil)))) (wRet (wLst (wCons (wVar 4) wNil))) wNext) L ⟨[.dat L0, .dat p, a, b, c], 0⟩ P
  | [], a, b, c, h, g => q0 (Classical.byContradiction fun z => by
      obtain ⟨_, _, _, m, _⟩ := g z
      cases m) a b c
  | z :: L, a, b, c, h, g => by
    obtain ⟨k, r, e, rfl, hs, he⟩ := h z (.head _)
    refine ⟨rfl, rfl, by show 2 < 5; decide, rfl, by show 3 < 5; decide, rfl, by show 4 < 5; decide, rfl, ?_⟩
    refine ⟨by show 2 ≤ 16777216; decide, hs, hp, _, rfl, ?_⟩
    by_cases hq : strD (spotD k r) = strD p
    · show (if decide (strD (spotD k r) = strD p) = true then _ else _)
      rw [decide_eq_true hq, if_pos rfl]
      exact ⟨by show 1 ≤ 16777216; decide, q1 e _ (he hq)⟩
    · show (if decide (strD (spotD k r) = strD p) = true then _ else _)
      rw [decide_eq_false hq, if_neg (by decide)]
      refine there_loop hp q0 q1 L _ _ _ (fun z m => h z (.tail _ m)) fun hr => ?_
      obtain ⟨k2, r2, e2, m, e3⟩ := g hr
      rcases List.mem_cons.mp m with m | m
      · have m : PyData.int k2 = .int k ∧ r2.map PyData.int = r.map PyData.int ∧ e2 = e := tri_inj m
        obtain ⟨m1, m2, _⟩ := m
        refine absurd ?_ hq
        have e4 : spotD k r = spotD k2 r2 := by
          show PyData.tuple [.int k, .tuple (r.map .int)] = .tuple [.int k2, .tuple (r2.map .int)]
          rw [m1, m2]
        rw [e4]
        exact e3
      · exact ⟨k2, r2, e2, m, e3⟩
theorem spot_str {M : Mod} {z : PyData} (h : SpotOf M z) : ∃ k r e, z = triD (.int k, r.map .int, e) ∧ StrOk (spotD k r) ∧ atR M.rs k r = some e := by
  obtain ⟨k, r, e, m, d, s, q1, q2, q3, q4, q5, q6, q7, q8, q9⟩ := h
  exact ⟨k, r, e, q1, spot_strOk (by unfold SmI; omega) (fun i hi => by have := q9 i hi; unfold SmI; omega) (by omega), q2⟩
theorem there_spot {M : Mod} {N : Nat} (h : ModOk M N) {L : List PyData} (hL : walkR M.rs 0 = some L) {k : Int} {r : List Int} (hp : StrOk (spotD k r)) : TellsW f_law_there [.list L, spotD k r] (.list (atR M.rs k r).toList) := fun P p => by
  refine there_loop (res := atR M.rs k r) hp (fun e a b c => ?_) (fun e ρ he => ?_) L .un .un .un (fun z m => ?_) fun hr => ?_
  · rw [e] at p
    exact ⟨by decide, p⟩
  · rw [he] at p
    exact p
  · obtain ⟨k2, r2, e, q1, q2, q3⟩ := spot_str (spots_in h hL z m)
    refine ⟨k2, r2, e, q1, q2, fun hq => ?_⟩
    obtain ⟨rfl, rfl⟩ := spot_inj hq
    exact q3
  · obtain ⟨e, he⟩ := Option.ne_none_iff_exists'.mp hr
    exact ⟨k, r, e, spots_has h hL he, rfl⟩
theorem there_odd {M : Mod} {N : Nat} (h : ModOk M N) {L : List PyData} (hL : walkR M.rs 0 = some L) {p : PyData} (ho : OddP p) (hp : StrOk p) : TellsW f_law_there [.list L, p] (.list []) := fun P q => by
  refine there_loop (res := none) hp (fun e a b c => ⟨by decide, q⟩) (fun e ρ he => by cases he) L .un .un .un (fun z m => ?_) fun hr => absurd rfl hr
  obtain ⟨k2, r2, e, q1, q2, q3⟩ := spot_str (spots_in h hL z m)
  exact ⟨k2, r2, e, q1, q2, fun hq => absurd hq (odd_unlike ho)⟩
end WK
namespace WK
open PySem PySem.Spec PyProof.Rows L2 WD
theorem tells_whole_bool {b : Bool} : TellsW f_is_whole [.bool b] (.bool false) := fun P p => p
theorem comp_whole {a : En} {P : List PyData → WD.Env → Prop} : ∀ (bs : List Bool) (acc : List PyData), acc.length + bs.length ≤ 100000 → P (acc ++ List.replicate bs.length (.bool false)) ⟨[a, .un], 0⟩ →
    wComp (wName [] 1) wYes (wCall 1 f_is_whole (wCons (wVar 1) wNil)) [1] (bs.map .bool) [a, .un] 0 acc P
  | [], acc, _, p => by
    rw [List.length_nil, List.replicate_zero, List.append_nil] at p
    exact p
  | x :: r, acc, b, p => by
    rw [List.length_cons] at b
    have ih := comp_whole (a := a) (P := P) r (acc ++ [.bool false]) (by rw [List.length_append]; simp only [List.length_cons, List.length_nil]; omega) (by rw [List.append_assoc]; exact p)
    exact ⟨rfl, by show 1 < 2; decide, rfl, tells_whole_bool _ ⟨rfl, by omega, ih⟩⟩
theorem bools_repF : ∀ n : Nat, boolsOf (List.replicate n (.bool false)) = some (List.replicate n false)
  | 0 => rfl
  | n + 1 => by
    rw [List.replicate_succ, List.replicate_succ]
    unfold boolsOf
    rw [bools_repF n]
    rfl
/-- how long an odd place's lists are -/
def OddL : PyData → Prop
  | .tuple [.int _, .tuple bs] => bs.length ≤ 100000
  | _ => True
theorem spot_odd {p : PyData} (h : OddP p) (hl : OddL p) : TellsW f_is_spot [p] (.bool false) := fun P q => by
  cases h with
  | lst k xs => exact ⟨true, rfl, _, rfl, q⟩
  | all xs => exact q
  | bool b p =>
    by_cases hp : isTup p = true
    · obtain ⟨xs, rfl⟩ : ∃ xs, p = .tuple xs := by cases p <;> first | exact ⟨_, rfl⟩ | cases hp
      exact ⟨true, rfl, _, rfl, _, rfl, rfl, tells_whole_bool _ q⟩
    · refine ⟨true, rfl, p, rfl, ?_⟩
      show (if (!isTup p) = true then _ else _)
      rw [Bool.eq_false_iff.mpr hp]
      exact q
  | bools k b bs =>
    refine ⟨true, rfl, _, rfl, _, rfl, rfl, tells_whole _ ?_⟩
    refine ⟨_, rfl, ⟨rfl, rfl⟩, comp_whole (b :: bs) [] ?_ ?_⟩
    · have hl : ((b :: bs).map PyData.bool).length ≤ 100000 := hl
      rw [List.length_map] at hl
      rw [List.length_nil]
      omega
    refine ⟨List.replicate (b :: bs).length false, bools_repF _, ?_⟩
    have e1 : (List.replicate (b :: bs).length false).all id = false := by
      rw [List.length_cons, List.replicate_succ]
      rfl
    rw [e1]
    exact q
  | one k => exact ⟨false, rfl, q⟩
  | three k r j => exact ⟨false, rfl, q⟩
  | text => exact q
  | non => exact q
  | int k => exact q
  | nil => exact ⟨false, rfl, q⟩
theorem found_odd {M : PyData} {p : PyData} (h : OddP p) (hl : OddL p) : TellsW f_found [M, p] .none := fun P q => ⟨rfl, spot_odd h hl _ q⟩
end WK
namespace WK
open PySem PySem.Spec PyProof.Rows L2 WD
section
variable {P : Program} {w : World} {K : PySem.W.Frag} {mg : Str → Option Value} {base : Heap}
abbrev s_law_words : Stmt := topS 83
theorem sc_law_words : FnScope ["_law_purse_here", "_law_some", "_law_k"] ["_law_purse_here"] (defScope s_law_words) := ⟨rfl, rfl, rfl, by decide +kernel, rfl, by decide +kernel, by decide +kernel⟩
def w_law_words : WS := (wSeq (wAsg (wLst (wCons (wK (.str "num")) (wCons (wK (.str "flow")) (wCons (wK (.str "sum")) (wCons (wK (.str "same")) (wCons (wK (.str "not")) (wCons (wK (.str "pick")) (wCons (wK (.str "then")) (wCons (wK (.str "when")) (wCons (wK (.str "merge")) (wCons (wK (.str "beats")) (wCons (wK (.str "call")) (wCons (wK (.str "truth")) (wCons (wK (.str "odd")) (wCons (wK (.str "")) wNil))))))))))))))) (wName [0] 1))
  (wRet (wCB fTupleOf (wCons (wTell (wLc [0] (wItR1 (wCons (wDraw (wK (.int 4))) wNil)) (wName [0] 2) wYes (wOp fIxL (wVar 1) (wDraw (wK (.int 14)))) [2])) wNil))))
def f_law_words : WP1 := wBodyW 2 w_law_words
def sp_law_words (K : PySem.W.Frag) : Sp := spW 0 f_law_words K
theorem ok_law_words {f : Addr} {fd : FuncData} (F : Fun K "_law_words" "_law_words" s_law_words f fd) (m_range : mg "range" = none) (m_tuple : mg "tuple" = none) {f_law_draw : Addr} {fd_law_draw : FuncData} (c_law_draw : Cal P w K mg base CX0 1 f_law_draw fd_law_draw "_law_draw" ["_law_purse_here", "_law_out_of"] (sp_law_draw K)) : FnOk P w K mg base CX0 2 f fd ["_law_purse_here"] (sp_law_words K) := by
  refine F.ok sc_law_words (fun vs H Q E h => spW_len h) (fun cdv A outer s H vs Q E hr h => ?_)
  refine ⟨_, (pss_cons (ps_set (i := 1) sc_law_words.nd rfl (Or.inr rfl) (pe_lst (pa_cons pe_str (pa_cons pe_str (pa_cons pe_str (pa_cons pe_str (pa_cons pe_str (pa_cons pe_str (pa_cons pe_str (pa_cons pe_str (pa_cons pe_str (pa_cons pe_str (pa_cons pe_str (pa_cons pe_str (pa_cons pe_str (pa_cons pe_str pa_nil))))))))))))))))
        (pss_one (ps_ret (pe_callTy call_tuple_of (by rfl) m_tuple (by decide +kernel) (pa_cons (pe_lc (own := [("_law_k", 2)]) (g := gName 2) (by rfl) sc_law_words.nd (pi_range1 (by rfl) m_range (pa_cons (pe_call c_law_draw.G (hr.mono (by decide)) (by rfl) c_law_draw.g c_law_draw.kp c_law_draw.b .nil pass0 (pa_cons (pv 0) (pa_cons pe_int pa_nil))) pa_nil)) (blkOk_by (N := ["_law_purse_here", "_law_some", "_law_k"]) (sc := defScope s_law_words) (by decide +kernel)) (fun _ _ _ _ _ => (pg_name (i := 2) sc_law_words.nd rfl (Or.inl rfl))) (fun _ _ _ _ _ => pts_nil) (fun _ _ _ _ _ => (pe_ix (r := rIxL K) ix_list (pv 1) (pe_call c_law_draw.G (hr.mono (by decide)) (by rfl) c_law_draw.g c_law_draw.kp c_law_draw.b .nil pass0 (pa_cons (pv 0) (pa_cons pe_int pa_nil))) (fun _ _ => rfl)))) pa_nil))))), ?_⟩
  refine body_W (m := 2) (W := w_law_words) (fun N p c => ?_) h rfl
  have ok := @ctxD_ok K H N p c 0
  exact (fs_seq (fs_asg (fe_lst ok (fa_cons fe_str (fa_cons fe_str (fa_cons fe_str (fa_cons fe_str (fa_cons fe_str (fa_cons fe_str (fa_cons fe_str (fa_cons fe_str (fa_cons fe_str (fa_cons fe_str (fa_cons fe_str (fa_cons fe_str (fa_cons fe_str (fa_cons fe_str fa_nil))))))))))))))) fg_name)
        (fs_ret (fe_cb (fc_tupleOf ok) (fa_cons (fe_o (fo_lc (vs := [2]) ok (fi_range1 (fa_cons (fe_draw fe_int) fa_nil)) fg_name (by decide) ft_yes (fe_op fr_ixL' fe_var (fe_draw fe_int)))) fa_nil))))
end
end WK
namespace WK
open PySem PySem.Spec PyProof.Rows L2 WD
section
variable {P : Program} {w : World} {K : PySem.W.Frag} {mg : Str → Option Value} {base : Heap}
abbrev s_law_odd : Stmt := topS 84
theorem sc_law_odd : FnScope ["_law_purse_here", "_law_spot", "_law_many", "_law_k", "_law_path", "_law_some", "_law_j"] ["_law_purse_here", "_law_spot", "_law_many"] (defScope s_law_odd) := ⟨rfl, rfl, rfl, by decide +kernel, rfl, by decide +kernel, by decide +kernel⟩
def w_law_odd : WS := (wSeq (wAsg (wVar 1) (wgTup 2 (wgCons (wName [0] 3) (wgCons (wName [0] 4) wgNil))))
  (wSeq (wOwn [0] 5 (wLstO (wCons (wTup (wCons (wVar 2) (wCons (wTup wNil) wNil))) (wCons (wTup (wCons (wK (.int (-1))) (wCons (wTup wNil) wNil))) (wCons (wTup (wCons (wVar 3) (wCons (wOp fCatA (wVar 4) (wTup (wCons (wK (.int 0)) wNil))) wNil))) (wCons (wTup (wCons (wVar 3) (wCons (wSlT (wVar 4) wNoP (wPart (wK (.int (-1))))) wNil))) (wCons (wTup (wCons (wVar 3) (wCons (wOp fCatA (wVar 4) (wTup (wCons (wK (.int 9)) wNil))) wNil))) (wCons (wTup (wCons (wVar 3) (wCons (wTup (wCons (wK (.int (-1))) wNil)) wNil))) (wCons (wTup (wCons (wVar 3) (wCons (wTell (wListO (wCons (wVar 4) wNil))) wNil))) wNil)))))))))
  (wSeq (wDrop (wAppend 5 (wLst (wCons (wVar 3) (wCons (wVar 4) wNil)))))
  (wSeq (wOwn [0] 5 (wCatO (wVar 5) (wLst (wCons (wTup (wCons (wCB fBool1 (wCons (wVar 3) wNil)) (wCons (wVar 4) wNil))) (wCons (wTup (wCons (wVar 3) (wCons (wCB fTupleOf (wCons (wTell (wLc [0] (wItT (wVar 4)) (wName [0] 6) wYes (wCB fBool1 (wCons (wVar 6) wNil)) [6])) wNil)) wNil))) (wCons (wTup (wCons (wVar 3) wNil)) (wCons (wTup (wCons (wVar 3) (wCons (wVar 4) (wCons (wK (.int 0)) wNil)))) (wCons (wK (.str "aa")) (wCons (wK .none) (wCons (wVar 3) (wCons (wTup wNil) wNil)))))))))))
  (wRet (wOp fIxL (wVar 5) (wDraw (wK (.int 16)))))))))
def f_law_odd : WP1 := wBodyW 4 w_law_odd
def sp_law_odd (K : PySem.W.Frag) : Sp := spW 2 f_law_odd K
theorem ok_law_odd {f : Addr} {fd : FuncData} (F : Fun K "_law_odd" "_law_odd" s_law_odd f fd) (m_bool : mg "bool" = none) (m_list : mg "list" = none) (m_tuple : mg "tuple" = none) {f_law_draw : Addr} {fd_law_draw : FuncData} (c_law_draw : Cal P w K mg base CX0 1 f_law_draw fd_law_draw "_law_draw" ["_law_purse_here", "_law_out_of"] (sp_law_draw K)) : FnOk P w K mg base CX0 2 f fd ["_law_purse_here", "_law_spot", "_law_many"] (sp_law_odd K) := by
  refine F.ok sc_law_odd (fun vs H Q E h => spW_len h) (fun cdv A outer s H vs Q E hr h => ?_)
  refine ⟨_, (pss_cons (ps_asg (pv 1) (pg_tup (by rfl) (pgs_cons (pg_name (i := 3) sc_law_odd.nd rfl (Or.inl rfl)) (pgs_cons (pg_name (i := 4) sc_law_odd.nd rfl (Or.inl rfl)) pgs_nil))))
        (pss_cons (ps_set (i := 5) sc_law_odd.nd rfl (Or.inl rfl) (pe_lst (pa_cons (pe_tup (pa_cons (pv 2) (pa_cons (pe_tup pa_nil) pa_nil))) (pa_cons (pe_tup (pa_cons (pe_un un_neg pe_int) (pa_cons (pe_tup pa_nil) pa_nil))) (pa_cons (pe_tup (pa_cons (pv 3) (pa_cons (pe_op (show OpR _ (binaryOp .Add) (rCatA K) from op_catA) (pv 4) (pe_tup (pa_cons pe_int pa_nil))) pa_nil))) (pa_cons (pe_tup (pa_cons (pv 3) (pa_cons (pe_slice sl_tupA (pv 4) po_none (po_some (pe_un un_neg pe_int))) pa_nil))) (pa_cons (pe_tup (pa_cons (pv 3) (pa_cons (pe_op (show OpR _ (binaryOp .Add) (rCatA K) from op_catA) (pv 4) (pe_tup (pa_cons pe_int pa_nil))) pa_nil))) (pa_cons (pe_tup (pa_cons (pv 3) (pa_cons (pe_tup (pa_cons (pe_un un_neg pe_int) pa_nil)) pa_nil))) (pa_cons (pe_tup (pa_cons (pv 3) (pa_cons (pe_callTy call_list_of (by rfl) m_list (by decide +kernel) (pa_cons (pv 4) pa_nil)) pa_nil))) pa_nil)))))))))
        (pss_cons (ps_expr (pe_bm PySem.F.plainAttrs_list PySem.F.slot_list_append PySem.F.type_list_append mt_append (pv 5) (pa_cons (pe_lst (pa_cons (pv 3) (pa_cons (pv 4) pa_nil))) pa_nil)))
        (pss_cons (ps_set (i := 5) sc_law_odd.nd rfl (Or.inl rfl) (pe_op op_cat (pv 5) (pe_lst (pa_cons (pe_tup (pa_cons (pe_callTy call_bool1 (by rfl) m_bool (by decide +kernel) (pa_cons (pv 3) pa_nil)) (pa_cons (pv 4) pa_nil))) (pa_cons (pe_tup (pa_cons (pv 3) (pa_cons (pe_callTy call_tuple_of (by rfl) m_tuple (by decide +kernel) (pa_cons (pe_lc (own := [("_law_j", 6)]) (g := gName 6) (by rfl) sc_law_odd.nd (pi_tup (pv 4)) (blkOk_by (N := ["_law_purse_here", "_law_spot", "_law_many", "_law_k", "_law_path", "_law_some", "_law_j"]) (sc := defScope s_law_odd) (by decide +kernel)) (fun _ _ _ _ _ => (pg_name (i := 6) sc_law_odd.nd rfl (Or.inl rfl))) (fun _ _ _ _ _ => pts_nil) (fun _ _ _ _ _ => (pe_callTy call_bool1 (by rfl) m_bool (by decide +kernel) (pa_cons (pv 6) pa_nil)))) pa_nil)) pa_nil))) (pa_cons (pe_tup (pa_cons (pv 3) pa_nil)) (pa_cons (pe_tup (pa_cons (pv 3) (pa_cons (pv 4) (pa_cons pe_int pa_nil)))) (pa_cons pe_str (pa_cons pe_non (pa_cons (pv 3) (pa_cons (pe_tup pa_nil) pa_nil)))))))))))
        (pss_one (ps_ret (pe_ix (r := rIxL K) ix_list (pv 5) (pe_call c_law_draw.G (hr.mono (by decide)) (by rfl) c_law_draw.g c_law_draw.kp c_law_draw.b .nil pass0 (pa_cons (pv 0) (pa_cons pe_int pa_nil))) (fun _ _ => rfl)))))))), ?_⟩
  refine body_W (m := 4) (W := w_law_odd) (fun N p c => ?_) h rfl
  have ok := @ctxD_ok K H N p c 0
  exact (fs_seq (fs_asg fe_var (fg_tup (fg_cons fg_name (fg_cons fg_name fg_nil))))
        (fs_seq (fs_own' (fo_lst' ok (fa_cons (fe_tup ok (fa_cons fe_var (fa_cons (fe_tup ok fa_nil) fa_nil))) (fa_cons (fe_tup ok (fa_cons fe_neg (fa_cons (fe_tup ok fa_nil) fa_nil))) (fa_cons (fe_tup ok (fa_cons fe_var (fa_cons (fe_op (fr_catA ok) fe_var (fe_tup ok (fa_cons fe_int fa_nil))) fa_nil))) (fa_cons (fe_tup ok (fa_cons fe_var (fa_cons (fe_slT ok fe_var fp_none (fp_some fe_neg)) fa_nil))) (fa_cons (fe_tup ok (fa_cons fe_var (fa_cons (fe_op (fr_catA ok) fe_var (fe_tup ok (fa_cons fe_int fa_nil))) fa_nil))) (fa_cons (fe_tup ok (fa_cons fe_var (fa_cons (fe_tup ok (fa_cons fe_neg fa_nil)) fa_nil))) (fa_cons (fe_tup ok (fa_cons fe_var (fa_cons (fe_o (fo_list' ok (fa_cons fe_var fa_nil))) fa_nil))) fa_nil)))))))))
        (fs_seq (fs_drop (fe_append ok (fe_lst ok (fa_cons fe_var (fa_cons fe_var fa_nil)))))
        (fs_seq (fs_own' (fo_cat ok fe_var (fe_lst ok (fa_cons (fe_tup ok (fa_cons (fe_cb fc_bool1 (fa_cons fe_var fa_nil)) (fa_cons fe_var fa_nil))) (fa_cons (fe_tup ok (fa_cons fe_var (fa_cons (fe_cb (fc_tupleOf ok) (fa_cons (fe_o (fo_lc (vs := [6]) ok (fi_tup fe_var) fg_name (by decide) ft_yes (fe_cb fc_bool1 (fa_cons fe_var fa_nil)))) fa_nil)) fa_nil))) (fa_cons (fe_tup ok (fa_cons fe_var fa_nil)) (fa_cons (fe_tup ok (fa_cons fe_var (fa_cons fe_var (fa_cons fe_int fa_nil)))) (fa_cons fe_str (fa_cons fe_non (fa_cons fe_var (fa_cons (fe_tup ok fa_nil) fa_nil)))))))))))
        (fs_ret (fe_op fr_ixL' fe_var (fe_draw fe_int)))))))
end
end WK
namespace WK
open PySem PySem.Spec PyProof.Rows L2 WD
/-! ### words -/
def wordsL : List Str := ["num", "flow", "sum", "same", "not", "pick", "then", "when", "merge", "beats", "call", "truth", "odd", ""]
def WordsD (z : PyData) : Prop := ∃ ws : List Str, z = .tuple (ws.map .str) ∧ ws.length ≤ 3 ∧ ∀ x ∈ ws, x ∈ wordsL
theorem comp_words {P : List PyData → WD.Env → Prop} : ∀ (ds : List PyData) (ws : List Str) (w : Nat), (∀ x ∈ ws, x ∈ wordsL) → ws.length + ds.length ≤ 1000 → w + ds.length ≤ 100000000 →
    (∀ ws2 : List Str, (∀ x ∈ ws2, x ∈ wordsL) → ws2.length = ws.length + ds.length → P (ws2.map .str) ⟨[.un, .dat (.list (wordsL.map .str)), .un], w + ds.length⟩) →
    wComp (wName [0] 2) wYes (wOp fIxL (wVar 1) (wDraw (wK (.int 14)))) [2] ds [.un, .dat (.list (wordsL.map .str)), .un] w (ws.map .str) P
  | [], ws, w, h, _, _, q => q ws h (by rw [List.length_nil, Nat.add_zero])
  | x :: ds, ws, w, h, l, hw, q => by
    rw [List.length_cons] at l hw
    refine ⟨rfl, by show 2 < 3; decide, by decide, by decide, by show w ≤ 100000000; omega, fun r hr => ?_⟩
    have hr : r < wordsL.length := by show r < 14; omega
    refine ⟨.str wordsL[r], atI_nat (by rw [List.getElem?_map, List.getElem?_eq_getElem hr]; rfl), rfl, by rw [List.length_map]; omega, ?_⟩
    have e : ws.map PyData.str ++ [.str wordsL[r]] = (ws ++ [wordsL[r]]).map .str := by rw [List.map_append]; rfl
    rw [e]
    refine comp_words ds (ws ++ [wordsL[r]]) (w + 1) (fun y hy => ?_) (by rw [List.length_append]; simp only [List.length_cons, List.length_nil]; omega) (by omega) fun ws2 g1 g2 => ?_
    · rcases List.mem_append.mp hy with hy | hy
      · exact h y hy
      · rw [List.mem_singleton.mp hy]; exact List.getElem_mem hr
    · have := q ws2 g1 (by rw [g2, List.length_append, List.length_cons]; simp only [List.length_cons, List.length_nil]; omega)
      rw [List.length_cons] at this
      rw [show w + 1 + ds.length = w + (ds.length + 1) by omega]
      exact this
theorem draws_words : DrawsW f_law_words [] 10 WordsD := fun w P hw q => by
  refine ⟨by show 14 ≤ 16777216; decide, rfl, by show 1 < 3; decide, ?_⟩
  refine ⟨by decide, by decide, by show w ≤ 100000000; omega, fun n hn => ⟨by omega, by omega, ⟨rfl, rfl⟩, ?_⟩⟩
  have lu : (upFrom 0 ((n : Nat) : Int).toNat).length = n := by rw [upFrom_len]; omega
  refine comp_words (upFrom 0 ((n : Nat) : Int).toNat) [] (w + 1) (fun _ h => by cases h) (by rw [List.length_nil, lu]; omega) (by rw [lu]; omega) fun ws g1 g2 => ?_
  rw [lu, List.length_nil, Nat.zero_add] at g2
  rw [lu]
  exact q _ _ ⟨ws, rfl, by omega, g1⟩ (by show w + 1 + n ≤ _; omega)
/-! ### odd places -/
def PlaceD (p : PyData) : Prop := (∃ k r, p = spotD k r ∧ SmI k ∧ (∀ i ∈ r, SmI i) ∧ r.length ≤ 50) ∨ (OddP p ∧ OddL p)
theorem comp_bool1 {a b c d e f : En} {w : Nat} {P : List PyData → WD.Env → Prop} : ∀ (r : List Int) (bs : List Bool), bs.length + r.length ≤ 1000 → (∀ bs2 : List Bool, bs2.length = bs.length + r.length → P (bs2.map .bool) ⟨[a, b, c, d, e, f, .un], w⟩) →
    wComp (wName [0] 6) wYes (wCB fBool1 (wCons (wVar 6) wNil)) [6] (r.map .int) [a, b, c, d, e, f, .un] w (bs.map .bool) P
  | [], bs, _, q => q bs (by rw [List.length_nil, Nat.add_zero])
  | i :: r, bs, l, q => by
    rw [List.length_cons] at l
    refine ⟨rfl, by show 6 < 7; decide, rfl, by rw [List.length_map]; omega, ?_⟩
    have e1 : bs.map PyData.bool ++ [.bool (i != 0)] = (bs ++ [i != 0]).map .bool := by rw [List.map_append]; rfl
    show wComp _ _ _ _ _ _ _ (bs.map PyData.bool ++ [.bool (i != 0)]) _
    rw [e1]
    exact comp_bool1 r (bs ++ [i != 0]) (by rw [List.length_append]; simp only [List.length_cons, List.length_nil]; omega) fun bs2 g => q bs2 (by rw [g, List.length_append, List.length_cons]; simp only [List.length_cons, List.length_nil]; omega)
def odds (k : Int) (r : List Int) (many : Int) (bs : List Bool) : List PyData :=
  [spotD many [], spotD (-1) [], .tuple [.int k, .tuple (r.map .int ++ [.int 0])], .tuple [.int k, .tuple (WD.cutD (r.map .int) none (some (-1)))], .tuple [.int k, .tuple (r.map .int ++ [.int 9])], spotD k [-1], .tuple [.int k, .list (r.map .int)],
    .list [.int k, .tuple (r.map .int)], .tuple [.bool (k != 0), .tuple (r.map .int)], .tuple [.int k, .tuple (bs.map .bool)], .tuple [.int k], .tuple [.int k, .tuple (r.map .int), .int 0], .str "aa", .none, .int k, .tuple []]
theorem cut_last (r : List Int) : ∃ q : List Int, WD.cutD (r.map .int) none (some (-1)) = q.map .int ∧ (∀ i ∈ q, i ∈ r) ∧ q.length ≤ r.length := by
  unfold WD.cutD
  exact ⟨_, by rw [← List.map_drop, ← List.map_take], fun i hi => List.mem_of_mem_drop (List.mem_of_mem_take hi), by rw [List.length_take, List.length_drop]; omega⟩
theorem odds_ok {k many : Int} {r : List Int} {bs : List Bool} (hk : SmI k) (hm : SmI many) (hr : ∀ i ∈ r, SmI i) (hl : r.length ≤ 40) (hb : bs.length = r.length) : ∀ p ∈ odds k r many bs, PlaceD p := by
  have s0 : SmI 0 := by unfold SmI; omega
  have s1 : SmI (-1) := by unfold SmI; omega
  have s9 : SmI 9 := by unfold SmI; omega
  have snoc : ∀ j : Int, SmI j → PlaceD (.tuple [.int k, .tuple (r.map .int ++ [.int j])]) := fun j hj => .inl ⟨k, r ++ [j], by rw [spotD, List.map_append]; rfl, hk, fun i hi => by
    rcases List.mem_append.mp hi with hi | hi
    · exact hr i hi
    · rw [List.mem_singleton.mp hi]; exact hj, by rw [List.length_append]; simp only [List.length_cons, List.length_nil]; omega⟩
  intro p hp
  unfold odds at hp
  simp only [List.mem_cons, List.not_mem_nil, or_false] at hp
  rcases hp with rfl | rfl | rfl | rfl | rfl | rfl | rfl | rfl | rfl | rfl | rfl | rfl | rfl | rfl | rfl | rfl
  · exact .inl ⟨many, [], rfl, hm, fun _ h => by (cases h), by decide⟩
  · exact .inl ⟨-1, [], rfl, s1, fun _ h => by (cases h), by decide⟩
  · exact snoc 0 s0
  · obtain ⟨q, e, g1, g2⟩ := cut_last r
    exact .inl ⟨k, q, by rw [e], hk, fun i hi => hr i (g1 i hi), by omega⟩
  · exact snoc 9 s9
  · exact .inl ⟨k, [-1], rfl, hk, fun i h => by rw [List.mem_singleton.mp h]; exact s1, by decide⟩
  · exact .inr ⟨.lst k _, trivial⟩
  · exact .inr ⟨.all _, trivial⟩
  · exact .inr ⟨.bool _ _, trivial⟩
  · cases bs with
    | nil => exact .inl ⟨k, [], rfl, hk, fun _ h => by (cases h), by decide⟩
    | cons b bs => exact .inr ⟨.bools k b bs, by show ((b :: bs).map PyData.bool).length ≤ 100000; rw [List.length_map]; omega⟩
  · exact .inr ⟨.one k, trivial⟩
  · exact .inr ⟨.three k r 0, trivial⟩
  · exact .inr ⟨.text, trivial⟩
  · exact .inr ⟨.non, trivial⟩
  · exact .inr ⟨.int k, trivial⟩
  · exact .inr ⟨.nil, trivial⟩
theorem draws_odd {k many : Int} {r : List Int} (hk : SmI k) (hm : SmI many) (hr : ∀ i ∈ r, SmI i) (hl : r.length ≤ 40) : DrawsW f_law_odd [spotD k r, .int many] 1 (fun p => ∃ bs : List Bool, bs.length = r.length ∧ p ∈ odds k r many bs) := fun w P hw q => by
  have b0 : 0 ≤ 16777216 := by decide
  have b1 : 1 ≤ 16777216 := by decide
  have b2 : 2 ≤ 16777216 := by decide
  have b3 : 3 ≤ 16777216 := by decide
  have lr : (r.map PyData.int).length = r.length := List.length_map ..
  refine ⟨rfl, rfl, by show 3 < 7; decide, rfl, by show 4 < 7; decide, rfl, ?_⟩
  refine ⟨b0, b2, b0, b2, b1, by rw [lr]; show r.length + 1 ≤ 16777216; omega, b2, b2, b1, by rw [lr]; show r.length + 1 ≤ 16777216; omega, b2, b1, b2, b2, by show 7 ≤ 16777216; decide, rfl, by show 5 < 7; decide, ?_⟩
  refine ⟨rfl, b2, _, rfl, by show 7 < 16777216; decide, ?_⟩
  refine ⟨b2, ⟨rfl, rfl⟩, ?_⟩
  refine comp_bool1 r [] (by rw [List.length_nil]; omega) fun bs hb => ?_
  rw [List.length_nil, Nat.zero_add] at hb
  refine ⟨b2, b1, b3, b0, by show 8 ≤ 16777216; decide, by show 16 ≤ 16777216; decide, rfl, by show 5 < 7; decide, ?_⟩
  refine ⟨by decide, by decide, by show w ≤ 100000000; omega, fun c hc => ?_⟩
  have hc : c < (odds k r many bs).length := by show c < 16; omega
  refine ⟨(odds k r many bs)[c], ?_, q _ _ ⟨bs, hb, List.getElem_mem hc⟩ (by show w + 1 ≤ _; omega)⟩
  have := atI_nat (List.getElem?_eq_getElem hc)
  exact this
end WK
namespace WK
open PySem PySem.Spec PyProof.Rows L2 WD
/-- a small thing: all that is asked of it -/
def Pc (n W : Nat) (d : PyData) : Prop := FineD n d ∧ TxtOk W d ∧ narrow d = true
theorem Pc.mono {n m W V : Nat} {d : PyData} (h : Pc n W d) (a : n ≤ m) (b : W ≤ V) : Pc m V d := ⟨h.1.mono a, h.2.1.mono b, h.2.2⟩
theorem pc_int {i : Int} (h : SmI i) : Pc 0 40 (.int i) := ⟨fine_int i, txt_sm h, rfl⟩
theorem pc_bool (b : Bool) : Pc 0 40 (.bool b) := ⟨⟨rfl, rfl, Nat.le_refl _⟩, txt_bool b, rfl⟩
theorem pc_none : Pc 0 40 .none := ⟨⟨rfl, rfl, Nat.le_refl _⟩, txt_none, rfl⟩
theorem pc_aa : Pc 0 40 (.str "aa") := ⟨⟨rfl, by decide +kernel, Nat.le_refl _⟩, txt_lit (by decide +kernel) (by decide +kernel), rfl⟩
theorem pc_tuple {n W : Nat} {l : List PyData} (h : ∀ d ∈ l, Pc n W d) (hl : l.length ≤ 50) : Pc (n + 1) (50 * (W + 1)) (.tuple l) :=
  ⟨fine_tuple fun d m => (h d m).1, (txt_tuple (txt_of fun d m => (h d m).2.1)).mono (Nat.mul_le_mul_right _ hl), narrow_tuple (by omega) fun d m => (h d m).2.2⟩
theorem pc_list {n W : Nat} {l : List PyData} (h : ∀ d ∈ l, Pc n W d) (hl : l.length ≤ 50) : Pc (n + 1) (50 * (W + 1)) (.list l) :=
  ⟨fine_list fun d m => (h d m).1, (txt_list (txt_of fun d m => (h d m).2.1)).mono (Nat.mul_le_mul_right _ hl), narrow_list (by omega) fun d m => (h d m).2.2⟩
theorem pc_ints {r : List Int} (hr : ∀ i ∈ r, SmI i) : ∀ d ∈ r.map PyData.int, Pc 0 40 d := fun d hd => by
  obtain ⟨i, hi, rfl⟩ := List.mem_map.mp hd
  exact pc_int (hr i hi)
theorem pc_bools {bs : List Bool} : ∀ d ∈ bs.map PyData.bool, Pc 0 40 d := fun d hd => by
  obtain ⟨i, hi, rfl⟩ := List.mem_map.mp hd
  exact pc_bool i
theorem pc_use {p : PyData} (h : Pc 2 102550 p) : StrOk p ∧ narrow p = true ∧ p.depth < 12 := ⟨strOk_d h.1 h.2.1 (by decide) (by decide), h.2.2, by have := h.1.2.2; omega⟩
theorem pc2 {a b : PyData} {l : List PyData} : (∀ d ∈ [a, b], Pc 1 2050 d) → Pc 2 102550 (.tuple [a, b]) := fun h => pc_tuple h (by show 2 ≤ 50; decide)
theorem pc_pair {a b : PyData} (ha : Pc 1 2050 a) (hb : Pc 1 2050 b) : Pc 2 102550 (.tuple [a, b]) := pc_tuple (fun d m => by
  rcases List.mem_cons.mp m with rfl | m
  · exact ha
  · rw [List.mem_singleton.mp m]; exact hb) (by show 2 ≤ 50; decide)
theorem pc_spot {k : Int} {r : List Int} (hk : SmI k) (hr : ∀ i ∈ r, SmI i) (hl : r.length ≤ 50) : Pc 2 102550 (spotD k r) := pc_pair ((pc_int hk).mono (by decide) (by decide)) (pc_tuple (pc_ints hr) (by rw [List.length_map]; exact hl))
theorem pc_odds {k many : Int} {r : List Int} {bs : List Bool} (hk : SmI k) (hm : SmI many) (hr : ∀ i ∈ r, SmI i) (hl : r.length ≤ 40) (hb : bs.length = r.length) : ∀ p ∈ odds k r many bs, Pc 2 102550 p := by
  have s0 : SmI 0 := by unfold SmI; omega
  have s1 : SmI (-1) := by unfold SmI; omega
  have s9 : SmI 9 := by unfold SmI; omega
  have up : ∀ {d}, Pc 0 40 d → Pc 1 2050 d := fun h => h.mono (by decide) (by decide)
  have path : Pc 1 2050 (.tuple (r.map .int)) := pc_tuple (pc_ints hr) (by rw [List.length_map]; omega)
  have snoc : ∀ j : Int, SmI j → Pc 2 102550 (.tuple [.int k, .tuple (r.map .int ++ [.int j])]) := fun j hj => pc_pair (up (pc_int hk)) (pc_tuple (fun d m => by
    rcases List.mem_append.mp m with m | m
    · exact pc_ints hr d m
    · rw [List.mem_singleton.mp m]; exact pc_int hj) (by rw [List.length_append, List.length_map]; simp only [List.length_cons, List.length_nil]; omega))
  intro p hp
  unfold odds at hp
  simp only [List.mem_cons, List.not_mem_nil, or_false] at hp
  rcases hp with rfl | rfl | rfl | rfl | rfl | rfl | rfl | rfl | rfl | rfl | rfl | rfl | rfl | rfl | rfl | rfl
  · exact pc_spot hm (fun _ h => by cases h) (by decide)
  · exact pc_spot s1 (fun _ h => by cases h) (by decide)
  · exact snoc 0 s0
  · obtain ⟨q, e, g1, g2⟩ := cut_last r
    rw [e]
    exact pc_spot hk (fun i hi => hr i (g1 i hi)) (by omega)
  · exact snoc 9 s9
  · exact pc_spot hk (fun i h => by rw [List.mem_singleton.mp h]; exact s1) (by decide)
  · exact pc_pair (up (pc_int hk)) (pc_list (pc_ints hr) (by rw [List.length_map]; omega))
  · exact pc_list (fun d m => by
      rcases List.mem_cons.mp m with rfl | m
      · exact up (pc_int hk)
      · rw [List.mem_singleton.mp m]; exact path) (by show 2 ≤ 50; decide)
  · exact pc_pair (up (pc_bool _)) path
  · exact pc_pair (up (pc_int hk)) (pc_tuple pc_bools (by rw [List.length_map]; omega))
  · exact (pc_tuple (W := 40) (n := 0) (fun d m => by rw [List.mem_singleton.mp m]; exact pc_int hk) (by show 1 ≤ 50; decide)).mono (by decide) (by decide)
  · exact pc_tuple (W := 2050) (n := 1) (fun d m => by
      rcases List.mem_cons.mp m with rfl | m
      · exact up (pc_int hk)
      · rcases List.mem_cons.mp m with rfl | m
        · exact path
        · rw [List.mem_singleton.mp m]; exact up (pc_int s0)) (by show 3 ≤ 50; decide)
  · exact pc_aa.mono (by decide) (by decide)
  · exact pc_none.mono (by decide) (by decide)
  · exact (pc_int hk).mono (by decide) (by decide)
  · exact (pc_tuple (W := 40) (n := 0) (l := []) (fun d m => by cases m) (by decide)).mono (by decide) (by decide)
/-- what the law's loop needs of a place: what the law says is there, what the program finds -/
def PlaceOk (M : Mod) (L : List PyData) (p : PyData) : Prop := StrOk p ∧ narrow p = true ∧ p.depth < 12 ∧ ∃ o : Option PyData, TellsW f_law_there [.list L, p] (.list o.toList) ∧ TellsW f_found [M.D, p] (o.getD .none) ∧ ∀ e, o = some e → ∃ m d s, Exq (M.ins ++ M.tgs) m d e s ∧ d ≤ 8 ∧ s ≤ 200
theorem at_exq {M : Mod} {N : Nat} (h : ModOk M N) {L : List PyData} (hL : walkR M.rs 0 = some L) {k : Int} {r : List Int} {e : PyData} (ha : atR M.rs k r = some e) : ∃ m d s, Exq (M.ins ++ M.tgs) m d e s ∧ d ≤ 8 ∧ s ≤ 200 := by
  obtain ⟨k2, r2, e2, m, d, s, q1, q2, q3, q4, q5, _⟩ := spots_in h hL _ (spots_has h hL ha)
  have q1 : PyData.int k = .int k2 ∧ r.map PyData.int = r2.map PyData.int ∧ e = e2 := tri_inj q1
  rw [q1.2.2]
  exact ⟨m, d, s, q3, q4, q5⟩
theorem place_ok {M : Mod} {N : Nat} (h : ModOk M N) {L : List PyData} (hL : walkR M.rs 0 = some L) {p : PyData} (hp : PlaceD p) (hc : Pc 2 102550 p) : PlaceOk M L p := by
  obtain ⟨g1, g2, g3⟩ := pc_use hc
  refine ⟨g1, g2, g3, ?_⟩
  rcases hp with ⟨k, r, rfl, hk, hr, hl⟩ | ⟨ho, hl⟩
  · exact ⟨atR M.rs k r, there_spot h hL g1, tells_found h (by omega), fun e he => at_exq h hL he⟩
  · exact ⟨none, there_odd h hL ho g1, found_odd ho hl, fun e he => by cases he⟩
end WK
namespace WD
open PySem PySem.Spec PyProof.Rows L2
/-! ### a def that tells a list of its own, that nobody else has -/
abbrev WL1 := List PyData → (List PyData → Prop) → Prop
def spO (n : Nat) (f : WL1) (K : PySem.W.Frag) : Sp := fun vs H Q _ => ∃ (N : Addr → Prop) (ds : List PyData) (P : List PyData → Prop), ds.length = n ∧ Dns K H N vs ds ∧ (∀ b, N b → H b ≠ none) ∧ f ds P ∧
  ∀ a xs H' N' zs, P zs → (∀ b, N b → N' b) → (∀ b, N' b → N b ∨ H b = none) → (∀ b, N' b → H' b ≠ none) → Same H H' → H' a = some (.lst xs) → Dns K H' N' xs zs → ¬ N' a → H a = none → Q (.ref a) H'
theorem spO_len {n : Nat} {f : WL1} {K : PySem.W.Frag} {vs : List V} {H : Hp} {Q : VK} {E : XK} (h : spO n f K vs H Q E) : vs.length = n := by
  obtain ⟨N, ds, P, l, t, _⟩ := h
  rw [t.len]
  exact l
variable {C : Ctx}
/-- what a call that leaves out the last arguments hands on -/
def Fixed (C : Ctx) (dvs : List V) (dd : List PyData) : Prop := ∀ H N, Dns C.K H N dvs dd
theorem fixed_nil : Fixed C [] [] := fun _ _ => .nil
def wCallL (n : Nat) (f : WL1) (dd : List PyData) (a : WA) : WO := fun ρ P => a ρ fun ds ρ1 => (ds ++ dd).length = n ∧ f (ds ++ dd) fun zs => P zs ρ1
theorem call_O (ok : C.Ok) {n : Nat} {f : WL1} {E : XK} {σ : L2.St} {H H1 : Hp} {ρ ρ1 : Env} {N N1 : Addr → Prop} {vs : List V} {ds : List PyData} {Q : VK} {P : List PyData → Env → Prop} (f1 : Fr C σ ρ N σ ρ1 N1 H H1) (r1 : Rep C σ ρ1 N1 H1) (n1 : ∀ b, N b → N1 b) (hd : Dns C.K H1 N1 vs ds) (hl : ds.length = n) (hf : f ds fun zs => P zs ρ1)
    (k : ∀ a vs H' N' ρ' ds, P ds ρ' → (∀ b, N b → N' b) → Fr C σ ρ N σ ρ' N' H H' → Rep C σ ρ' N' H' → H' a = some (.lst vs) → Dns C.K H' N' vs ds → ¬ N' a → H a = none → C.H0 a = none → ¬ C.M a → ¬ OwnA σ ρ' a → Q (.ref a) H') : spO n f C.K vs H1 Q E :=
  ⟨N1, ds, _, hl, hd, r1.has, hf, fun a xs H2 N2 zs p n2 n3 n4 s2 ha hz na hn => by
    obtain ⟨r2, f2⟩ := r1.after ok n2 n3 n4 s2
    obtain ⟨q1, q2⟩ := r1.h0 hn
    exact k a xs H2 N2 ρ1 zs p (fun b h => n2 b (n1 b h)) (f1.trans f2) r2 ha hz na (f1.back hn) q1 q2 (r1.notOwn hn)⟩
theorem fo_callL (ok : C.Ok) {n : Nat} {f : WL1} {t : TA} {a : WA} {E : XK} {dvs : List V} {dd : List PyData} (fx : Fixed C dvs dd) (h : FA C t a) : FO C (tCall (spO n f C.K) dvs E t) (wCallL n f dd a) := fun σ H ρ N Q P r w k =>
  h σ H ρ N _ _ r w fun vs H1 N1 ρ1 ds w1 n1 k1 r1 h1 => call_O ok k1 r1 n1 (h1.append (fx H1 N1)) w1.1 w1.2 k
/-- f(x, k = y) -/
def wCallK (n : Nat) (f : WL1) (a b : WA) : WO := fun ρ P => a ρ fun ds ρ1 => b ρ1 fun es ρ2 => ds.length = 1 ∧ es.length = 1 ∧ (ds ++ es).length = n ∧ f (ds ++ es) fun zs => P zs ρ2
theorem fo_callK (ok : C.Ok) {n : Nat} {f : WL1} {t u : TA} {a b : WA} {E : XK} (h : FA C t a) (g : FA C u b) : FO C (tCallN 1 1 (spO n f C.K) (fun vs zs => vs ++ zs) E t u) (wCallK n f a b) := fun σ H ρ N Q P r w k =>
  h σ H ρ N _ _ r w fun vs H1 N1 ρ1 ds w1 n1 k1 r1 h1 => g σ H1 ρ1 N1 _ _ r1 w1 fun zs H2 N2 ρ2 es w2 n2 k2 r2 h2 =>
    ⟨by rw [h1.len]; exact w2.1, by rw [h2.len]; exact w2.2.1, call_O ok (k1.trans k2) r2 (fun b h => n2 b (n1 b h)) ((h1.mono (k2.kp r1) n2).append h2) w2.2.2.1 w2.2.2.2 k⟩
/-! ### an own list looked at -/
/-- not isinstance(x, list) or x != y, x own -/
def wOdd (i j : Nat) : WT := fun ρ P => ∃ ds d, ownOf (ρ.at i) = some ds ∧ ρ.at j = .dat d ∧ noDicts ds = true ∧ noDict d = true ∧ SeqAt.shaped (.list ds) = true ∧ SeqAt.shaped d = true ∧ P (!PyData.eqv (.list ds) d) ρ
theorem ft_odd {i j : Nat} : FT C (tOr (tNot (tB (tCB (rIsi C.K) (tCons (tVar i) (tCons (tC (.ty "list")) tNil))))) (tTest (tOp (rNeD C.K) (tVar i) (tVar j)))) (wOdd i j) := fun σ H ρ N Q P r w k => by
  obtain ⟨ds, d, e1, e2, nd, nd2, sh, sh2, w⟩ := w
  obtain ⟨p, vs, h1, h2, h3, h4⟩ := r.own i ds (ownOf_eq e1)
  obtain ⟨v, g1, g2⟩ := r.dat j d e2
  refine ⟨.ref p, h1, .ref p, _, _, _, true, rfl, .ty "list", .base (.lst h2), kit_ty (by decide +kernel), true, rfl, ?_⟩
  show (if (!true) = true then _ else _)
  rw [if_neg (by decide)]
  exact ⟨.ref p, h1, v, g1, .list ds, d, .lst (SqL.of h2) (Dns.dp nd h3), Dn.dp nd2 g2, sh, sh2, _, rfl, k _ H N ρ w (fun _ h => h) r.fr r⟩
/-- x.append as the law's marks do: x own, without lists within, gets a 7 -/
def wMark (i : Nat) : WE := fun ρ P => ∃ ds, ownOf (ρ.at i) = some ds ∧ P .none (ρ.put i .un)
end WD
namespace WK
open PySem PySem.Spec PyProof.Rows L2 WD
structure KCal (P : Program) (w : World) (K : PySem.W.Frag) (mg : Str → Option Value) (base : Heap) (CX : CXT) (k : Nat) (f : Addr) (fd : FuncData) (x : Str) (ps : List Str) (sp : Sp) (n : Nat) (ks : List Str) (dv : List V) : Prop where
  G : FnOk P w K mg base CX k f fd ps sp
  g : mg x = some (.ref f)
  kp : PySem.W.keepIn K (.ref f) = true
  b : ∃ ds, Vals dv ds ∧ Binds K fd ps ds
  bk : KBn K fd ps n ks (fun us ws => us ++ ws) (fun vs zs => vs ++ zs)
def lcPl : WO := (wLc [] (wItL (wCall 1 f_walk (wCons (wOp fIxT (wVar 0) (wK (.int 3))) wNil))) (wgTup 3 (wgCons (wName [] 2) (wgCons (wName [] 3) (wgCons (wName [] 4) wgNil)))) (wOr (wNot (wTru (wVar 1))) (wB (wOp (fInQ false) (wOp fIxT (wVar 4) (wK (.int 0))) (wVar 1)))) (wTup (wCons (wVar 2) (wCons (wVar 3) wNil))) [2, 3, 4])
/-- what places tells: a new list -/
def f_placesL : WL1 := fun ds P => (wDrop (wCall 1 f_check_module (wCons (wVar 0) wNil))) (env0 ds 3) fun fl => match fl with
  | .nx ρ => lcPl ρ fun zs _ => P zs
  | _ => False
def sp_placesL (K : PySem.W.Frag) : Sp := spO 2 f_placesL K
theorem tells_placesL {M : Mod} {N : Nat} {ws : List Str} {L : List PyData} (h : ModOk M N) (hL : walkR M.rs 0 = some L) {P : List PyData → Prop} (p : P (plD ws L)) : f_placesL [M.D, .tuple (ws.map .str)] P := by
  obtain ⟨L2, e, l⟩ := walkR_ok (d := 8) (by decide) M.rs 0 N h.ex
  rw [hL] at e
  cases e
  have hN := h.few
  refine ⟨rfl, tells_check h _ ?_⟩
  refine ⟨_, rfl, rfl, tells_walk hL (by omega) _ ⟨⟨rfl, rfl⟩, ?_⟩⟩
  exact comp_places L [] (walkR_spots M.rs 0 N L h.ex hL) (by rw [List.length_nil]; omega) p
section
variable {P : Program} {w : World} {K : PySem.W.Frag} {mg : Str → Option Value} {base : Heap} {e0 : Addr}
theorem ok_placesL {f : Addr} {fd : FuncData} (F : FunD K "places" "places" (defArgs s_places) (defBody s_places) (defScope s_places) [] [("only", .ref e0)] f fd) {f_check_module : Addr} {fd_check_module : FuncData} (c_check_module : Cal P w K mg base CX0 10 f_check_module fd_check_module "check_module" ["thing"] (sp_check_module K)) {f_walk : Addr} {fd_walk : FuncData} (c_walk : Cal P w K mg base CX0 13 f_walk fd_walk "walk" ["rows"] (sp_walk K)) : FnOk P w K mg base CX0 14 f fd ["module", "only"] (sp_placesL K) := by
  refine F.ok sc_places (fun vs H Q E h => spO_len h) (fun cdv A outer s H vs Q E hr h => ?_)
  have hl := spO_len h
  obtain ⟨N, ds, PP, l, t, hN, w, q⟩ := h
  refine ⟨_, (pss_cons (ps_expr (pe_call c_check_module.G (hr.mono (by decide)) (by rfl) c_check_module.g c_check_module.kp c_check_module.b .nil pass0 (pa_cons (pv 0) pa_nil)))
        (pss_one (ps_ret (pe_lc (own := [("k", 2), ("path", 3), ("e", 4)]) (g := gTup K 3 (gCons (gName 2) (gCons (gName 3) (gCons (gName 4) gNil)))) (by rfl) sc_places.nd (pi_list (pe_call c_walk.G (hr.mono (by decide)) (by rfl) c_walk.g c_walk.kp c_walk.b .nil pass0 (pa_cons (pe_ix (r := rIxT K) ix_tup (pv 0) pe_int (fun _ _ => rfl)) pa_nil))) (blkOk_by (N := ["module", "only", "k", "path", "e"]) (sc := defScope s_places) (by decide +kernel)) (fun _ _ _ _ _ => (pg_tup (by rfl) (pgs_cons (pg_name (i := 2) sc_places.nd rfl (Or.inl rfl)) (pgs_cons (pg_name (i := 3) sc_places.nd rfl (Or.inl rfl)) (pgs_cons (pg_name (i := 4) sc_places.nd rfl (Or.inl rfl)) pgs_nil))))) (fun _ _ _ _ _ => pts_one (PW.pt (pw_or (pt_not (pt_truthK (K := K) rfl (pv 1) (by intro _; rfl))) (pw_or1 (pt_cmpR (show OpR _ (compareOp .In) (rIn K false) from op_in_seq) (pe_ix (r := rIxT K) ix_tup (pv 4) pe_int (fun _ _ => rfl)) (pv 1) (by rfl)))))) (fun _ _ _ _ _ => (pe_tup (pa_cons (pv 2) (pa_cons (pv 3) pa_nil)))))))), ?_⟩
  have ok := @ctxP_ok K H N
  have r0 := rep0 (n := 3) t hN
  obtain ⟨vm, vs, rfl⟩ : ∃ a b, vs = a :: b := by cases vs with | nil => cases hl | cons a b => exact ⟨a, b, rfl⟩
  obtain ⟨vp, vs, rfl⟩ : ∃ a b, vs = a :: b := by cases vs with | nil => cases hl | cons a b => exact ⟨a, b, rfl⟩
  obtain rfl : vs = [] := by cases vs with | nil => rfl | cons _ _ => cases hl
  refine fs_drop (C := ctxP K H N) (fe_callD (n := 1) (f := WK.f_check_module) ok (fa_cons fe_var fa_nil)) _ _ H _ N _ r0 w {
    nx := fun σ1 H1 N1 ρ1 w1 n1 f1 r1 => ?_
    rt := fun _ _ _ _ _ _ z => False.elim z
    bk := fun _ _ _ _ z => False.elim z
    ct := fun _ _ _ _ z => False.elim z }
  refine fo_lc (C := ctxP K H N) (vs := [2, 3, 4]) ok (fi_list (fe_callD (n := 1) (f := WK.f_walk) ok (fa_cons (fe_op fr_ixT' fe_var fe_int) fa_nil))) (fg_tup (fg_cons fg_name (fg_cons fg_name (fg_cons fg_name fg_nil)))) (by decide) (ft_or (ft_not (ft_tru fe_var)) (ft_test (fe_op fr_inQ (fe_op fr_ixT' fe_var fe_int) fe_var))) (fe_tup ok (fa_cons fe_var (fa_cons fe_var fa_nil))) σ1 H1 ρ1 N1 _ _ r1 w1 fun a xs H2 N2 ρ2 zs p n2 f2 r2 ha hz na hn h0 hm ho => ?_
  exact q a xs H2 N2 zs p (fun b h => n2 b (n1 b h)) (fun b n => (r2.new b n).1) r2.has (fun b o x => r2.old b o x fun z => z) ha hz na h0
end
end WK
namespace WK
open PySem PySem.Spec PyProof.Rows L2 WD
variable {C : WD.Ctx}
theorem kp_off {K : PySem.W.Frag} {N : Addr → Prop} {H H' : Hp} {p : Addr} {xs : List V} (h : H p = some (.lst xs)) (n : ¬ N p) (k : KeepX (fun b => b = p) H H') : Kp K N H H' where
  n := fun b o nb e => k.1 b o (fun z => n (z ▸ nb)) e
  t := fun b ys e => by
    have go : ∀ o, H b = some o → (∀ zs, o ≠ .lst zs) → H' b = some o := fun o e no => k.1 b o (fun z => by rw [z, h] at e; exact no _ (Option.some.inj e).symm) e
    rcases e with (e | ⟨o, e⟩) | e
    · exact .inl (.inl (go _ e fun _ z => nomatch z))
    · exact .inl (.inr ⟨o, go _ e fun _ z => nomatch z⟩)
    · exact .inr e
/-- a list that nobody else has is changed in any way and forgotten -/
theorem Rep.lost (ok : C.Ok) {σ : L2.St} {ρ : WD.Env} {N : Addr → Prop} {H H' : Hp} {i : Nat} {ds : List PyData} {p : Addr} (r : Rep C σ ρ N H) (e : ρ.at i = .own ds) (ha : σ[i]? = some (some (.ref p))) (k : KeepX (fun b => b = p) H H') :
    Rep C σ (ρ.put i .un) N H' ∧ WD.Fr C σ ρ N σ (ρ.put i .un) N H H' := by
  have hi : i < ρ.sl.length := at_lt (by rw [e]; exact fun z => nomatch z)
  obtain ⟨a', vs', h1, h2, h3, h4, h5, h6⟩ := r.own i ds e
  rw [ha] at h1
  cases h1
  have kp : Kp C.K N H H' := kp_off h2 h4 k
  have ow : ∀ b, OwnA σ (ρ.put i .un) b → OwnA σ ρ b ∧ b ≠ p := fun b ⟨j, fs, q1, q2⟩ => by
    rw [at_put hi] at q1
    by_cases z : j = i
    · rw [if_pos z] at q1; cases q1
    · rw [if_neg z] at q1
      exact ⟨⟨j, fs, q1, q2⟩, fun y => r.sep j i fs ds b z q1 e q2 (by rw [y]; exact ha)⟩
  refine ⟨{
    len := by show σ.length = (ρ.sl.set i _).length; rw [List.length_set]; exact r.len
    dat := fun j d q => by
      rw [at_put hi] at q
      by_cases z : j = i
      · rw [if_pos z] at q; cases q
      · rw [if_neg z] at q
        obtain ⟨v, g1, g2⟩ := r.dat j d q
        exact ⟨v, g1, g2.mono kp fun _ h => h⟩
    own := fun j fs q => by
      have q0 := q
      rw [at_put hi] at q
      by_cases z : j = i
      · rw [if_pos z] at q; cases q
      · rw [if_neg z] at q
        obtain ⟨b, ws, g1, g2, g3, g4⟩ := r.own j fs q
        have ne : b ≠ p := (ow b ⟨j, fs, q0, g1⟩).2
        exact ⟨b, ws, g1, k.1 b _ ne g2, g3.mono kp fun _ h => h, g4⟩
    sep := fun j l es fs b z q1 q2 g1 g2 => by
      rw [at_put hi] at q1 q2
      by_cases y : j = i
      · rw [if_pos y] at q1; cases q1
      by_cases x : l = i
      · rw [if_pos x] at q2; cases q2
      rw [if_neg y] at q1
      rw [if_neg x] at q2
      exact r.sep j l es fs b z q1 q2 g1 g2
    fix := fun q hq => by
      obtain ⟨g1, g2⟩ := r.fix q hq
      refine ⟨g1, ?_⟩
      rw [at_put hi, if_neg (fun z => by rw [z, e] at g2; cases g2)]
      exact g2
    old := fun b o h m => k.1 b o (fun z => by rw [z, h5] at h; cases h) (r.old b o h m)
    new := r.new
    has := fun b n => k.2 b (r.has b n)
    mh := fun b m => by
      obtain ⟨xs, q⟩ := r.mh b m
      exact ⟨xs, k.1 b _ (fun z => h6 (by rw [← z]; exact m)) q⟩
    j := r.j.imp fun N1 q => ⟨q.1, ok.jm (kp_off h2 (fun z => z.elim (fun z => h4 (q.1 _ z)) h6) k) q.2⟩ }, {
    keep := fun b o h m n => k.1 b o (fun z => n ⟨i, ds, e, by rw [z]; exact ha⟩) h
    own := fun b z => ⟨(r.ownA (ow b z).1).1, .inl (ow b z).1⟩
    dom := k.2
    up := fun _ h => .inl h }⟩
/-- the law's mark of a list that nobody else has, without lists within -/
def wMark1 (i : Nat) : WS := fun ρ P => ∃ ds, WD.ownOf (ρ.at i) = some ds ∧ noLs ds = true ∧ PyData.depthAll ds + 1 < 16 ∧ ds.length < 16777216 ∧ P (.nx (ρ.put i .un))
theorem fs_mark {i : Nat} {E : XK} (ok : C.Ok) : FS C (tDrop (tCall (sp_law_marked C.K) [] E (tCons (tVar i) tNil))) (wMark1 i) := fun D σ H ρ N P r w k => by
  obtain ⟨ds, e1, nl, hd, hl, w⟩ := w
  have e1 := ownOf_eq e1
  obtain ⟨p, vs, h1, h2, h3, h4⟩ := r.own i ds e1
  refine ⟨.ref p, h1, .ref p, .list ds, fun b => b = p, rfl, .list h2 rfl h3 nl hd (by rw [h3.len]; exact hl), fun H' kx => ?_⟩
  obtain ⟨r2, f2⟩ := Rep.lost ok r e1 h1 kx
  exact k.nx _ H' N _ w (fun _ h => h) f2 r2
end WK
namespace WK
open PySem PySem.Spec PyProof.Rows L2 WD
variable {C : WD.Ctx}
/-- a name gets a thing that is not told of -/
theorem Rep.junk {σ : L2.St} {ρ : WD.Env} {N : Addr → Prop} {H : Hp} {i : Nat} {x : Option V} (r : Rep C σ ρ N H) (hf : (C.fx.all fun p => p != i) = true) (hi : i < ρ.sl.length) :
    Rep C (σ.set i x) (ρ.put i .un) N H ∧ WD.Fr C σ ρ N (σ.set i x) (ρ.put i .un) N H H := by
  have get : ∀ j, j ≠ i → (σ.set i x)[j]? = σ[j]? := fun j z => List.getElem?_set_ne (Ne.symm z)
  have ow : ∀ b, OwnA (σ.set i x) (ρ.put i .un) b → OwnA σ ρ b := fun b ⟨j, fs, q1, q2⟩ => by
    rw [at_put hi] at q1
    by_cases z : j = i
    · rw [if_pos z] at q1; cases q1
    · rw [if_neg z] at q1
      rw [get j z] at q2
      exact ⟨j, fs, q1, q2⟩
  refine ⟨{
    len := by show (σ.set i _).length = (ρ.sl.set i _).length; rw [List.length_set, List.length_set]; exact r.len
    dat := fun j d q => by
      rw [at_put hi] at q
      by_cases z : j = i
      · rw [if_pos z] at q; cases q
      · rw [if_neg z] at q
        rw [get j z]
        exact r.dat j d q
    own := fun j fs q => by
      rw [at_put hi] at q
      by_cases z : j = i
      · rw [if_pos z] at q; cases q
      · rw [if_neg z] at q
        rw [get j z]
        exact r.own j fs q
    sep := fun j l es fs b z q1 q2 g1 g2 => by
      rw [at_put hi] at q1 q2
      by_cases y : j = i
      · rw [if_pos y] at q1; cases q1
      by_cases x : l = i
      · rw [if_pos x] at q2; cases q2
      rw [if_neg y] at q1
      rw [if_neg x] at q2
      rw [get j y] at g1
      rw [get l x] at g2
      exact r.sep j l es fs b z q1 q2 g1 g2
    fix := fun q hq => by
      obtain ⟨g1, g2⟩ := r.fix q hq
      have ne : q ≠ i := by
        have := List.all_eq_true.mp hf q hq
        simpa using this
      rw [get _ ne, at_put hi, if_neg ne]
      exact ⟨g1, g2⟩
    old := r.old
    new := r.new
    has := r.has
    mh := r.mh
    j := r.j }, ⟨fun b o h _ _ => h, fun b z => ⟨(r.ownA (ow b z)).1, .inl (ow b z)⟩, fun b h => h, fun _ h => .inl h⟩⟩
/-- an expression told with new lists may be marked: what was there stays -/
theorem mark_new {K : PySem.W.Frag} {H H' : Hp} {u : V} {e : PyData} (hu : Dn K H' (fun b => H b = none) u e) (hx : exprD e = true) (hn : narrow e = true) (hd : e.depth < 14) : ∃ M : Addr → Prop, MarkAt K H' M 16 u e ∧ ∀ b, M b → H b = none := by
  cases hu <;> first | (simp [exprD] at hx; done) | skip
  rename_i p xs ds hq t
  simp only [PyData.depth] at hd
  cases t with
  | nil => simp [exprD] at hx
  | cons hv t =>
    cases hv <;> first | (simp [exprD] at hx; done) | skip
    rename_i vs es x
    by_cases hc : x = "call"
    · subst hc
      cases t with
      | nil => simp [exprD, noLs] at hx
      | cons hy t =>
        cases hy <;> first | (simp [exprD, noLs, noL] at hx; done) | skip
        rename_i vs2 es2 y
        cases t with
        | nil => simp [exprD, noLs, noL] at hx
        | cons hz t =>
          cases hz <;> first | (simp [exprD, noLs, noL] at hx; done) | skip
          rename_i vs3 es3 a zs ps ha na ta
          cases t with
          | cons _ _ => simp [exprD] at hx
          | nil =>
            simp only [exprD, decide_true, Bool.true_and, Bool.and_eq_true, decide_eq_true_eq] at hx
            simp only [PyData.depthAll, PyData.depth] at hd
            refine ⟨fun b => b = a, .call hq ha rfl ta hx.1 (by omega) ?_, fun b z => by rw [z]; exact na⟩
            simp only [narrow, narrows, Bool.and_eq_true, decide_eq_true_eq] at hn
            rw [ta.len]
            omega
    · have bare : noLs es = true := by
        unfold exprD at hx
        split at hx
        · rename_i e
          cases e
          simp [hc] at hx
        · rename_i e
          cases e
          simpa [hc] using hx
        · cases hx
      refine ⟨fun _ => False, .bare (.tup hq (.cons (.str x) t)) (by simpa only [noL, noLs, Bool.true_and] using bare) (by simp only [PyData.depth]; omega), fun _ z => z.elim⟩
/-- told = e_at(..); if str(told) != str(e[0]): return False; marked(told) -/
def wElse (fx : List Nat) (h pl ei i : Nat) : WS := fun ρ P => ∃ dm dp e, ρ.at h = .dat dm ∧ ρ.at pl = .dat dp ∧ ρ.at ei = .dat (.list [e]) ∧ (∃ z, TellsW f_check_module [dm] z) ∧ TellsW f_found [dm, dp] e ∧ exprD e = true ∧ narrow e = true ∧ e.depth < 14 ∧ StrOk e ∧
  (fx.all fun p => p != i) = true ∧ i < ρ.sl.length ∧ ei ≠ i ∧ P (.nx (ρ.put i .un))
theorem fs_else (ok : C.Ok) {h pl ei i : Nat} {E E2 : XK} : FS C (tSeq (tAsg (tCall (sp_e_atN C.K) [] E (tCons (tVar h) (tCons (tVar pl) tNil))) (gName i))
    (tSeq (tIfS (tTest (tOp rNe (tCB (rStrA C.K) (tCons (tVar i) tNil)) (tCB (rStrA C.K) (tCons (tOp (rIxL C.K) (tVar ei) (tC (.int 0))) tNil)))) (tRet (tC (.bl false))) tNext)
      (tDrop (tCall (sp_law_marked C.K) [] E2 (tCons (tVar i) tNil))))) (wElse C.fx h pl ei i) := fun D σ H ρ N P r w k => by
  obtain ⟨dm, dp, e, a1, a2, a3, w1, w2, hx, hn, hd, hs, hf, hi, ne, w⟩ := w
  obtain ⟨vm, g1, h1⟩ := r.dat h dm a1
  obtain ⟨vp, g2, h2⟩ := r.dat pl dp a2
  obtain ⟨ve, g3, h3⟩ := r.dat ei _ a3
  have hs2 : i < σ.length := by rw [r.len]; exact hi
  refine ⟨vm, g1, vp, g2, N, dm, dp, e, .cons h1 (.cons h2 .nil), r.has, w1, w2, hx, fun u H1 s1 hu => ?_⟩
  have self : (σ.set i (some u))[i]? = some (some u) := List.getElem?_set_self hs2
  have get : (σ.set i (some u))[ei]? = some (some ve) := by rw [List.getElem?_set_ne (Ne.symm ne)]; exact g3
  have h3 := h3.mono (.same s1) fun _ h => h
  cases h3 with
  | lst hl nl tl =>
    rename_i al xl
    obtain ⟨v0, hv0⟩ : ∃ v0, xl = [v0] := by
      have := tl.len
      cases xl with
      | nil => cases this
      | cons a b => cases b with
        | nil => exact ⟨a, rfl⟩
        | cons _ _ => cases this
    subst hv0
    have hv : Dn C.K H1 N v0 e := by cases tl with | cons h _ => exact h
    refine ⟨u, self, u, e, rfl, Dn.dp hs.nod hu, hs, .ref al, get, al, [v0], 0, v0, rfl, rfl, SqL.of hl, atI_nat (j := 0) rfl, v0, e, rfl, Dn.dp hs.nod hv, hs, rfl, _, rfl, ?_⟩
    show (if (!decide (V.str (strD e) = V.str (strD e))) = true then _ else _)
    rw [decide_eq_true rfl, if_neg (by decide)]
    obtain ⟨M, hm, new⟩ := mark_new hu hx hn hd
    refine ⟨u, self, u, e, M, rfl, hm, fun H2 kx => ?_⟩
    have s2 : Same H H2 := fun b o eb => kx.1 b o (fun z => by rw [new b z] at eb; cases eb) (s1 b o eb)
    obtain ⟨r2, f2⟩ := r.after ok (fun _ h => h) (fun _ h => .inl h) (fun b n z => r.has b n (none_back s2 z)) s2
    obtain ⟨r3, f3⟩ := Rep.junk (x := some u) r2 hf hi
    exact k.nx _ H2 N _ w (fun _ h => h) (f2.trans f3) r3
end WK
namespace WK
open PySem PySem.Spec PyProof.Rows L2 WD
abbrev s_law : Stmt := topS 88
theorem sc_law : FnScope ["_law_script", "_law_purse_here", "_law_turn", "_law_piece", "_law_handed", "_law_spots", "_law_words_here", "_law_k", "_law_e", "_law_due", "_law_told", "_law_picked", "_law_place", "_law_path"] ["_law_script"] (defScope s_law) := ⟨rfl, rfl, rfl, by decide +kernel, rfl, by decide +kernel, by decide +kernel⟩
def w_lawR : WS := (wSeq (wFor (wItR1 (wCons (wK (.int 6)) wNil)) (wName [1] 2) (wSeq (wAsg (wCallW 0 f_law_module wNil) (wName [1] 3))
  (wSeq (wAsg (wCall 1 f_law_deep (wCons (wVar 3) wNil)) (wName [1] 4))
  (wSeq (wAsg (wCall 1 f_law_all (wCons (wOp fIxT (wVar 3) (wK (.int 3))) wNil)) (wName [1] 5))
  (wSeq (wAsg (wCallW 0 f_law_words wNil) (wName [1] 6))
  (wSeq (wForget [7, 8] (wAsg (wTell (wLc [1] (wItL (wVar 5)) (wgTup 3 (wgCons (wName [1] 7) (wgCons (wName [1] 13) (wgCons (wName [1] 8) wgNil)))) wYes (wTup (wCons (wVar 7) (wCons (wVar 13) wNil))) [7, 13, 8])) (wName [1] 9)))
  (wSeq (wIfS (wOr (wB (wOp fNeD (wTell (wCallL 2 f_placesL [.tuple []] (wCons (wVar 4) wNil))) (wVar 9))) (wB (wOp fNeD (wTell (wCallK 2 f_placesL (wCons (wVar 4) wNil) (wCons (wTup wNil) wNil))) (wVar 9)))) (wRet (wK (.bool false))) wNext)
  (wSeq (wOwn [1] 10 (wCallK 2 f_placesL (wCons (wVar 4) wNil) (wCons (wVar 6) wNil)))
  (wSeq (wForget [7, 8] (wAsg (wTell (wLc [1] (wItL (wVar 5)) (wgTup 3 (wgCons (wName [1] 7) (wgCons (wName [1] 13) (wgCons (wName [1] 8) wgNil)))) (wOr (wB (wOp fEqD (wVar 6) (wTup wNil))) (wB (wOp (fInQ false) (wOp fIxT (wVar 8) (wK (.int 0))) (wVar 6)))) (wTup (wCons (wVar 7) (wCons (wVar 13) wNil))) [7, 13, 8])) (wName [1] 11)))
  (wSeq (wIfS (wOdd 10 11) (wRet (wK (.bool false))) wNext)
  (wSeq (wMark1 10)
  (wSeq (wIfS (wB (wOp fNeD (wCall 1 f_flows (wCons (wVar 4) wNil)) (wCall 1 f_law_flows (wCons (wVar 3) wNil)))) (wRet (wK (.bool false))) wNext)
  (wSeq (wFor (wItR1 (wCons (wK (.int 6)) wNil)) (wName [1] 7) (wSeq (wAsg (wCallW 2 f_law_odd (wCons (wOp fIxL (wVar 9) (wDraw (wCB fLen (wCons (wVar 9) wNil)))) (wCons (wCB fLen (wCons (wOp fIxT (wVar 3) (wK (.int 3))) wNil)) wNil))) (wName [1] 12))
  (wSeq (wIfS (wB (wOp (f2I fun i j => .bool (decide (j < i))) (wVar 7) (wK (.int 2)))) (wAsg (wOp fIxL (wVar 9) (wDraw (wCB fLen (wCons (wVar 9) wNil)))) (wName [1] 12)) wNext)
  (wSeq (wAsg (wCall 2 f_law_there (wCons (wVar 5) (wCons (wVar 12) wNil))) (wName [1] 8))
  (wIfS (wB (wOp fEqD (wVar 8) (wLst wNil))) (wIfS (wNot (wB (wCall 2 f_law_refused (wCons (wVar 4) (wCons (wVar 12) wNil))))) (wRet (wK (.bool false))) wNext) (wElse [1] 4 12 8 10))))))
  (wIfS (wB (wOp fNeD (wVar 4) (wVar 3))) (wRet (wK (.bool false))) wNext))))))))))))))
  (wRet (wK (.bool true))))
/-- what the law's loop asks of the things alone -/
def LawW : Prop := w_lawR ⟨List.replicate 14 .un, 0⟩ fun fl => match fl with
  | .rt d _ => d = .bool true
  | _ => False
section
variable {P : Program} {w : World} {K : PySem.W.Frag} {mg : Str → Option Value} {base : Heap}
theorem rep_law {H : Hp} {p c a : Addr} {cells : List Nat} (pur : PurseAt H p c cells 0) : Rep (ctxD K H (fun _ => False) p c 1) [some (.ref a), some (.ref p), none, none, none, none, none, none, none, none, none, none, none, none] ⟨List.replicate 14 .un, 0⟩ (fun _ => False) H where
  len := rfl
  dat := fun i d e => by
    have : (WD.Env.at ⟨List.replicate 14 .un, 0⟩ i) = .un := by
      unfold WD.Env.at
      rw [List.getD_eq_getElem?_getD, List.getElem?_replicate]
      split <;> rfl
    rw [this] at e
    cases e
  own := fun i d e => by
    have : (WD.Env.at ⟨List.replicate 14 .un, 0⟩ i) = .un := by
      unfold WD.Env.at
      rw [List.getD_eq_getElem?_getD, List.getElem?_replicate]
      split <;> rfl
    rw [this] at e
    cases e
  sep := fun i j d d2 b _ e _ _ _ => by
    have : (WD.Env.at ⟨List.replicate 14 .un, 0⟩ i) = .un := by
      unfold WD.Env.at
      rw [List.getD_eq_getElem?_getD, List.getElem?_replicate]
      split <;> rfl
    rw [this] at e
    cases e
  fix := fun q hq => by
    cases List.mem_singleton.mp hq
    exact ⟨rfl, rfl⟩
  old := fun b o e _ => e
  new := fun b n => n.elim
  has := fun b n => n.elim
  mh := fun b z => z.elim (fun z => ⟨_, z ▸ pur.hp⟩) fun z => ⟨_, z ▸ pur.hc⟩
  j := ⟨fun _ => False, fun _ h => h, cells, pur⟩
theorem ok_law {f : Addr} {fd : FuncData} (F : Fun K "law" "law" s_law f fd) (m_isinstance : mg "isinstance" = none) (m_len : mg "len" = none) (m_list : mg "list" = none) (m_range : mg "range" = none) (m_str : mg "str" = none)
    {f_law_purse : Addr} {fd_law_purse : FuncData} (c_law_purse : Cal P w K mg base CX0 1 f_law_purse fd_law_purse "_law_purse" ["_law_script"] (sp_law_purse K))
    {f_law_draw : Addr} {fd_law_draw : FuncData} (c_law_draw : Cal P w K mg base CX0 1 f_law_draw fd_law_draw "_law_draw" ["_law_purse_here", "_law_out_of"] (sp_law_draw K))
    {f_law_module : Addr} {fd_law_module : FuncData} (c_law_module : Cal P w K mg base CX0 10 f_law_module fd_law_module "_law_module" ["_law_purse_here"] (sp_law_module K))
    {f_law_deep : Addr} {fd_law_deep : FuncData} (c_law_deep : Cal P w K mg base CX0 14 f_law_deep fd_law_deep "_law_deep" ["_law_piece"] (sp_law_deep K))
    {f_law_all : Addr} {fd_law_all : FuncData} (c_law_all : Cal P w K mg base CX0 3 f_law_all fd_law_all "_law_all" ["_law_body"] (sp_law_all K))
    {f_law_words : Addr} {fd_law_words : FuncData} (c_law_words : Cal P w K mg base CX0 2 f_law_words fd_law_words "_law_words" ["_law_purse_here"] (sp_law_words K))
    {f_flows : Addr} {fd_flows : FuncData} (c_flows : Cal P w K mg base CX0 11 f_flows fd_flows "flows" ["module"] (sp_flows K))
    {f_law_flows : Addr} {fd_law_flows : FuncData} (c_law_flows : Cal P w K mg base CX0 1 f_law_flows fd_law_flows "_law_flows" ["_law_piece"] (sp_law_flows K))
    {f_law_odd : Addr} {fd_law_odd : FuncData} (c_law_odd : Cal P w K mg base CX0 2 f_law_odd fd_law_odd "_law_odd" ["_law_purse_here", "_law_spot", "_law_many"] (sp_law_odd K))
    {f_law_there : Addr} {fd_law_there : FuncData} (c_law_there : CalG P w K mg base CX0 1 f_law_there fd_law_there "_law_there" ["_law_spots", "_law_place"] (sp_law_there K))
    {f_law_refused : Addr} {fd_law_refused : FuncData} (c_law_refused : CalG P w K mg base CX0 16 f_law_refused fd_law_refused "_law_refused" ["_law_piece", "_law_place"] (sp_law_refused K))
    {f_law_marked : Addr} {fd_law_marked : FuncData} (c_law_marked : Cal P w K mg base CX0 16 f_law_marked fd_law_marked "_law_marked" ["_law_piece"] (sp_law_marked K))
    {f_e_at : Addr} {fd_e_at : FuncData} (c_e_at : Cal P w K mg base CX0 12 f_e_at fd_e_at "e_at" ["module", "place"] (sp_e_atN K))
    {eD : Addr} (heD : ∀ H : Hp, SqT K H eD []) {f_places : Addr} {fd_places : FuncData} (c_places : KCal P w K mg base CX0 14 f_places fd_places "places" ["module", "only"] (sp_placesL K) 1 ["only"] [V.ref eD])
    (hW : LawW) (hbind : ∀ (s : Shared) (v : Value), BindsTo s fd ⟨[v], []⟩ [("_law_script", v)]) : WX.LawAt P w K mg base f 63 := by
  intro s H a ns e0 hS hl
  refine WX.run_at (k := 17) (vs := [V.ref a]) (us := [Value.ref a]) F sc_law ⟨rfl, by decide, by decide⟩ e0 (hbind s _) (.cons rfl .nil) rfl (fun cdv hr => ?_)
  have hgd : (callerA.deeper (envOfC "law" (defScope s_law) s.heap.objs.size f cdv)).guards = some [] := rfl
  refine ⟨_, (pss_cons (ps_set (i := 1) sc_law.nd rfl (Or.inl rfl) (pe_call c_law_purse.G (hr.mono (by decide)) (by rfl) c_law_purse.g c_law_purse.kp c_law_purse.b .nil pass0 (pa_cons (pv 0) pa_nil)))
        (pss_cons (ps_for PassesOwn.never rfl (pi_range1 (by rfl) m_range (pa_cons pe_int pa_nil)) (pg_name (i := 2) sc_law.nd rfl (Or.inl rfl)) (pss_cons (ps_set (i := 3) sc_law.nd rfl (Or.inl rfl) (pe_call c_law_module.G (hr.mono (by decide)) (by rfl) c_law_module.g c_law_module.kp c_law_module.b .nil pass0 (pa_cons (pv 1) pa_nil)))
        (pss_cons (ps_set (i := 4) sc_law.nd rfl (Or.inl rfl) (pe_call c_law_deep.G (hr.mono (by decide)) (by rfl) c_law_deep.g c_law_deep.kp c_law_deep.b .nil pass0 (pa_cons (pv 3) pa_nil)))
        (pss_cons (ps_set (i := 5) sc_law.nd rfl (Or.inl rfl) (pe_call c_law_all.G (hr.mono (by decide)) (by rfl) c_law_all.g c_law_all.kp c_law_all.b .nil pass0 (pa_cons (pe_ix (r := rIxT K) ix_tup (pv 3) pe_int (fun _ _ => rfl)) pa_nil)))
        (pss_cons (ps_set (i := 6) sc_law.nd rfl (Or.inr rfl) (pe_call c_law_words.G (hr.mono (by decide)) (by rfl) c_law_words.g c_law_words.kp c_law_words.b .nil pass0 (pa_cons (pv 1) pa_nil)))
        (pss_cons (ps_setLc (i := 9) (own := [("_law_k", 7), ("_law_path", 13), ("_law_e", 8)]) (g := gTup K 3 (gCons (gName 7) (gCons (gName 13) (gCons (gName 8) gNil)))) (by rfl) sc_law.nd rfl rfl (sw_true rfl rfl rfl (by decide +kernel)) (pi_list (pv 5)) (blkOk_by (N := ["_law_script", "_law_purse_here", "_law_turn", "_law_piece", "_law_handed", "_law_spots", "_law_words_here", "_law_k", "_law_e", "_law_due", "_law_told", "_law_picked", "_law_place", "_law_path"]) (sc := defScope s_law) (by decide +kernel)) (fun _ _ _ _ _ => (pg_tup (by rfl) (pgs_cons (pg_name (i := 7) sc_law.nd rfl (Or.inl rfl)) (pgs_cons (pg_name (i := 13) sc_law.nd rfl (Or.inl rfl)) (pgs_cons (pg_name (i := 8) sc_law.nd rfl (Or.inl rfl)) pgs_nil))))) (fun _ _ _ _ _ => pts_nil) (fun _ _ _ _ _ => (pe_tup (pa_cons (pv 7) (pa_cons (pv 13) pa_nil)))))
        (pss_cons (ps_if (PW.pt (pw_or (pt_cmpR (op_neD hr.units) (pe_call c_places.G (hr.mono (by decide)) (by rfl) c_places.g c_places.kp c_places.b.choose_spec.2 c_places.b.choose_spec.1 pass0 (pa_cons (pv 4) pa_nil)) (pv 9) (nomark _)) (pw_or1 (pt_cmpR (op_neD hr.units) (pe_callN c_places.G (hr.mono (by decide)) (by rfl) c_places.g c_places.kp c_places.bk pass0 (pa_cons (pv 4) pa_nil) (pk_cons (pe_tup pa_nil) pk_nil)) (pv 9) (nomark _))))) (pss_one (ps_ret pe_bl)) pss_nil)
        (pss_cons (ps_set (i := 10) sc_law.nd rfl (Or.inl rfl) (pe_callN c_places.G (hr.mono (by decide)) (by rfl) c_places.g c_places.kp c_places.bk pass0 (pa_cons (pv 4) pa_nil) (pk_cons (pv 6) pk_nil)))
        (pss_cons (ps_setLc (i := 11) (own := [("_law_k", 7), ("_law_path", 13), ("_law_e", 8)]) (g := gTup K 3 (gCons (gName 7) (gCons (gName 13) (gCons (gName 8) gNil)))) (by rfl) sc_law.nd rfl rfl (sw_true rfl rfl rfl (by decide +kernel)) (pi_list (pv 5)) (blkOk_by (N := ["_law_script", "_law_purse_here", "_law_turn", "_law_piece", "_law_handed", "_law_spots", "_law_words_here", "_law_k", "_law_e", "_law_due", "_law_told", "_law_picked", "_law_place", "_law_path"]) (sc := defScope s_law) (by decide +kernel)) (fun _ _ _ _ _ => (pg_tup (by rfl) (pgs_cons (pg_name (i := 7) sc_law.nd rfl (Or.inl rfl)) (pgs_cons (pg_name (i := 13) sc_law.nd rfl (Or.inl rfl)) (pgs_cons (pg_name (i := 8) sc_law.nd rfl (Or.inl rfl)) pgs_nil))))) (fun _ _ _ _ _ => pts_one (PW.pt (pw_or (pt_cmpR (show OpR _ (compareOp .Eq) (rEqD K) from op_eqD hr.units) (pv 6) (pe_tup pa_nil) (nomark _)) (pw_or1 (pt_cmpR (show OpR _ (compareOp .In) (rIn K false) from op_in_seq) (pe_ix (r := rIxT K) ix_tup (pv 8) pe_int (fun _ _ => rfl)) (pv 6) (by rfl)))))) (fun _ _ _ _ _ => (pe_tup (pa_cons (pv 7) (pa_cons (pv 13) pa_nil)))))
        (pss_cons (ps_if (PW.pt (pw_or (pt_not (pt_val (pe_callB call_isi (by rfl) m_isinstance (by decide +kernel) (pa_cons (pv 10) (pa_cons (pe_bltn (v := .ty "list") (by rfl) m_list (by decide +kernel) rfl) pa_nil))))) (pw_or1 (pt_cmpR (op_neD hr.units) (pv 10) (pv 11) (nomark _))))) (pss_one (ps_ret pe_bl)) pss_nil)
        (pss_cons (ps_expr (pe_call c_law_marked.G (hr.mono (by decide)) (by rfl) c_law_marked.g c_law_marked.kp c_law_marked.b .nil pass0 (pa_cons (pv 10) pa_nil)))
        (pss_cons (ps_if (pt_cmpR (op_neD hr.units) (pe_call c_flows.G (hr.mono (by decide)) (by rfl) c_flows.g c_flows.kp c_flows.b .nil pass0 (pa_cons (pv 4) pa_nil)) (pe_call c_law_flows.G (hr.mono (by decide)) (by rfl) c_law_flows.g c_law_flows.kp c_law_flows.b .nil pass0 (pa_cons (pv 3) pa_nil)) (nomark _)) (pss_one (ps_ret pe_bl)) pss_nil)
        (pss_cons (ps_for PassesOwn.never rfl (pi_range1 (by rfl) m_range (pa_cons pe_int pa_nil)) (pg_name (i := 7) sc_law.nd rfl (Or.inl rfl)) (pss_cons (ps_set (i := 12) sc_law.nd rfl (Or.inl rfl) (pe_call c_law_odd.G (hr.mono (by decide)) (by rfl) c_law_odd.g c_law_odd.kp c_law_odd.b .nil pass0 (pa_cons (pv 1) (pa_cons (pe_ix (r := rIxL K) ix_list (pv 9) (pe_call c_law_draw.G (hr.mono (by decide)) (by rfl) c_law_draw.g c_law_draw.kp c_law_draw.b .nil pass0 (pa_cons (pv 1) (pa_cons (pe_callB call_len_seq (by rfl) m_len PySem.boot_len (pa_cons (pv 9) pa_nil)) pa_nil))) (fun _ _ => rfl)) (pa_cons (pe_callB call_len_seq (by rfl) m_len PySem.boot_len (pa_cons (pe_ix (r := rIxT K) ix_tup (pv 3) pe_int (fun _ _ => rfl)) pa_nil)) pa_nil)))))
        (pss_cons (ps_if (pt_cmpR op_gt (pv 7) pe_int (nomark _)) (pss_one (ps_set (i := 12) sc_law.nd rfl (Or.inl rfl) (pe_ix (r := rIxL K) ix_list (pv 9) (pe_call c_law_draw.G (hr.mono (by decide)) (by rfl) c_law_draw.g c_law_draw.kp c_law_draw.b .nil pass0 (pa_cons (pv 1) (pa_cons (pe_callB call_len_seq (by rfl) m_len PySem.boot_len (pa_cons (pv 9) pa_nil)) pa_nil))) (fun _ _ => rfl)))) pss_nil)
        (pss_cons (ps_set (i := 8) sc_law.nd rfl (Or.inl rfl) (pe_callG c_law_there.G hgd (hr.mono (by decide)) (by rfl) c_law_there.g c_law_there.kp c_law_there.b .nil pass0 (pa_cons (pv 5) (pa_cons (pv 12) pa_nil))))
        (pss_one (ps_if (pt_cmpR (op_eqD hr.units) (pv 8) (pe_lst pa_nil) (nomark _)) (pss_one (ps_if (pt_not (pt_val (pe_callG c_law_refused.G hgd (hr.mono (by decide)) (by rfl) c_law_refused.g c_law_refused.kp c_law_refused.b .nil pass0 (pa_cons (pv 4) (pa_cons (pv 12) pa_nil))))) (pss_one (ps_ret pe_bl)) pss_nil)) (pss_cons (ps_set (i := 10) sc_law.nd rfl (Or.inl rfl) (pe_call c_e_at.G (hr.mono (by decide)) (by rfl) c_e_at.g c_e_at.kp c_e_at.b .nil pass0 (pa_cons (pv 4) (pa_cons (pv 12) pa_nil))))
        (pss_cons (ps_if (pt_cmpR op_ne (pe_callTy (cr_strA K rfl hr hgd) (by rfl) m_str (by decide +kernel) (pa_cons (pv 10) pa_nil)) (pe_callTy (cr_strA K rfl hr hgd) (by rfl) m_str (by decide +kernel) (pa_cons (pe_ix (r := rIxL K) ix_list (pv 8) pe_int (fun _ _ => rfl)) pa_nil)) (nomark _)) (pss_one (ps_ret pe_bl)) pss_nil)
        (pss_one (ps_expr (pe_call c_law_marked.G (hr.mono (by decide)) (by rfl) c_law_marked.g c_law_marked.kp c_law_marked.b .nil pass0 (pa_cons (pv 10) pa_nil))))))))))))
        (pss_one (ps_if (pt_cmpR (op_neD hr.units) (pv 4) (pv 3) (nomark _)) (pss_one (ps_ret pe_bl)) pss_nil)))))))))))))))
        (pss_one (ps_ret pe_bl)))), ?_⟩
  refine ⟨_, rfl, a, ns, rfl, hS, hl, fun H1 p c cells s1 pur => ?_⟩
  have ok := @ctxD_ok K H1 (fun _ => False) p c 1
  have fx0 : Fixed (ctxD K H1 (fun _ => False) p c 1) [.ref eD] [.tuple []] := fun H N => .cons (.tup (heD H) .nil) .nil
  refine (fs_seq (fs_for (fi_range1 (fa_cons fe_int fa_nil)) fg_name (fs_seq (fs_asg (fe_callW fa_nil) fg_name)
        (fs_seq (fs_asg (fe_callD ok (fa_cons fe_var fa_nil)) fg_name)
        (fs_seq (fs_asg (fe_callD ok (fa_cons (fe_op fr_ixT' fe_var fe_int) fa_nil)) fg_name)
        (fs_seq (fs_asg (fe_callW fa_nil) fg_name)
        (fs_seq (fs_forget [7, 8] (fs_asg (fe_o (fo_lc (vs := [7, 13, 8]) ok (fi_list fe_var) (fg_tup (fg_cons fg_name (fg_cons fg_name (fg_cons fg_name fg_nil)))) (by decide) ft_yes (fe_tup ok (fa_cons fe_var (fa_cons fe_var fa_nil))))) fg_name))
        (fs_seq (fs_if (ft_or (ft_test (fe_op fr_neD (fe_o (fo_callL ok fx0 (fa_cons fe_var fa_nil))) fe_var)) (ft_test (fe_op fr_neD (fe_o (fo_callK ok (fa_cons fe_var fa_nil) (fa_cons (fe_tup ok fa_nil) fa_nil))) fe_var))) (fs_ret fe_bl) fs_next)
        (fs_seq (fs_own' (fo_callK ok (fa_cons fe_var fa_nil) (fa_cons fe_var fa_nil)))
        (fs_seq (fs_forget [7, 8] (fs_asg (fe_o (fo_lc (vs := [7, 13, 8]) ok (fi_list fe_var) (fg_tup (fg_cons fg_name (fg_cons fg_name (fg_cons fg_name fg_nil)))) (by decide) (ft_or (ft_test (fe_op fr_eqD fe_var (fe_tup ok fa_nil))) (ft_test (fe_op fr_inQ (fe_op fr_ixT' fe_var fe_int) fe_var))) (fe_tup ok (fa_cons fe_var (fa_cons fe_var fa_nil))))) fg_name))
        (fs_seq (fs_if ft_odd (fs_ret fe_bl) fs_next)
        (fs_seq (fs_mark ok)
        (fs_seq (fs_if (ft_test (fe_op fr_neD (fe_callD ok (fa_cons fe_var fa_nil)) (fe_callD ok (fa_cons fe_var fa_nil)))) (fs_ret fe_bl) fs_next)
        (fs_seq (fs_for (fi_range1 (fa_cons fe_int fa_nil)) fg_name (fs_seq (fs_asg (fe_callW (fa_cons (fe_op fr_ixL' fe_var (fe_draw (fe_cb fc_len (fa_cons fe_var fa_nil)))) (fa_cons (fe_cb fc_len (fa_cons (fe_op fr_ixT' fe_var fe_int) fa_nil)) fa_nil))) fg_name)
        (fs_seq (fs_if (ft_test (fe_op fr_gt fe_var fe_int)) (fs_asg (fe_op fr_ixL' fe_var (fe_draw (fe_cb fc_len (fa_cons fe_var fa_nil)))) fg_name) fs_next)
        (fs_seq (fs_asg (fe_callD ok (fa_cons fe_var (fa_cons fe_var fa_nil))) fg_name)
        (fs_if (ft_test (fe_op fr_eqD fe_var (fe_lst ok fa_nil))) (fs_if (ft_not (ft_b (fe_callD ok (fa_cons fe_var (fa_cons fe_var fa_nil))))) (fs_ret fe_bl) fs_next) (fs_else ok))))))
        (fs_if (ft_test (fe_op fr_neD fe_var fe_var)) (fs_ret fe_bl) fs_next))))))))))))))
        (fs_ret fe_bl)) _ _ H1 _ _ _ (rep_law pur) hW {
    nx := fun _ _ _ _ z => False.elim z
    rt := fun v H' N' ρ' σ' d e _ _ _ hd => ?_
    bk := fun _ _ _ _ z => False.elim z
    ct := fun _ _ _ _ z => False.elim z }
  have e : d = .bool true := e
  subst e
  cases hd
  rfl
end
end WK
namespace WK
open PySem PySem.Spec PyProof.Rows L2 WD
/-! ### what the law's steps ask of good things -/
theorem noLs_of : ∀ {l : List PyData}, (∀ d ∈ l, noL d = true) → noLs l = true
  | [], _ => rfl
  | d :: l, h => by
    simp only [noLs, Bool.and_eq_true]
    exact ⟨h d (.head _), noLs_of fun x m => h x (.tail _ m)⟩
theorem atom_noL {e : PyData} (h : Atom e) : noL e = true ∧ narrow e = true := by
  cases h <;> exact ⟨rfl, rfl⟩
/-- no call, no list -/
theorem exq_noL {ks : List Str} : ∀ (d : Nat) (e : PyData) (s : Nat), Exq ks false d e s → noL e = true ∧ narrow e = true
  | 0, e, s, h => by
    obtain ⟨d2, q⟩ := h.pos
    omega
  | d + 1, e, s, h => by
    have ih := exq_noL (ks := ks) d
    cases h with
    | atom h => exact atom_noL h
    | flow hk hn => exact ⟨rfl, rfl⟩
    | beats h1 h2 h3 => exact ⟨rfl, rfl⟩
    | two hx ha hb =>
      obtain ⟨a1, a2⟩ := ih _ _ ha
      obtain ⟨b1, b2⟩ := ih _ _ hb
      simp [noL, noLs, narrow, narrows, a1, a2, b1, b2]
    | not ha =>
      obtain ⟨a1, a2⟩ := ih _ _ ha
      simp [noL, noLs, narrow, narrows, a1, a2]
    | pick ha hb hc =>
      obtain ⟨a1, a2⟩ := ih _ _ ha
      obtain ⟨b1, b2⟩ := ih _ _ hb
      obtain ⟨c1, c2⟩ := ih _ _ hc
      simp [noL, noLs, narrow, narrows, a1, a2, b1, b2, c1, c2]
    | thn hk ha =>
      obtain ⟨a1, a2⟩ := ih _ _ ha
      obtain ⟨b1, b2⟩ := atom_noL hk
      simp [noL, noLs, narrow, narrows, a1, a2, b1, b2]
    | whn ha hk hn =>
      obtain ⟨a1, a2⟩ := ih _ _ ha
      simp [noL, noLs, narrow, narrows, a1, a2]
    | merge hk hn ha hb =>
      obtain ⟨a1, a2⟩ := ih _ _ ha
      obtain ⟨b1, b2⟩ := ih _ _ hb
      simp [noL, noLs, narrow, narrows, a1, a2, b1, b2]
theorem Exq.low {ks : List Str} {d : Nat} {e : PyData} {s : Nat} (h : Exq ks true d e s) : Exq ks false d e s ∨ ∃ f ps, e = .tuple [.str "call", .str f, .list ps] ∧ ps.length ≤ 8 ∧ ∃ n d2, LevQ ks false d2 ps n := by
  cases h with
  | atom h => exact .inl (.atom h)
  | flow a b => exact .inl (.flow a b)
  | beats a b c => exact .inl (.beats a b c)
  | two a b c => exact .inl (.two a b c)
  | not a => exact .inl (.not a)
  | pick a b c => exact .inl (.pick a b c)
  | thn a b => exact .inl (.thn a b)
  | whn a b c => exact .inl (.whn a b c)
  | merge a b c d => exact .inl (.merge a b c d)
  | @call d n f ps a b c => exact .inr ⟨f, ps, rfl, b, n, d, c⟩
theorem lev_noL {ks : List Str} {d : Nat} : ∀ {l : List PyData} {n : Nat}, LevQ ks false d l n → ∀ e ∈ l, noL e = true ∧ narrow e = true
  | [], _, _, e, m => by cases m
  | x :: l, n, h, e, m => by
    obtain ⟨s, n', rfl, he, ht⟩ := h.uncons
    rcases List.mem_cons.mp m with rfl | m
    · exact exq_noL d _ s he
    · exact lev_noL ht e m
theorem Exq.word {ks : List Str} {d : Nat} {e : PyData} {s : Nat} (h : Exq ks false d e s) : ∃ x r, e = .tuple (.str x :: r) ∧ x ≠ "call" := by
  cases h with
  | atom h => cases h <;> exact ⟨_, _, rfl, by decide⟩
  | two hx ha hb =>
    refine ⟨_, _, rfl, ?_⟩
    unfold twoW at hx
    simp only [List.mem_cons, List.not_mem_nil, or_false] at hx
    rcases hx with rfl | rfl | rfl | rfl | rfl | rfl | rfl <;> decide
  | _ => exact ⟨_, _, rfl, by decide⟩
theorem exq_expr {ks : List Str} {m : Bool} {d : Nat} {e : PyData} {s : Nat} (h : Exq ks m d e s) : exprD e = true ∧ narrow e = true := by
  have low : ∀ {d e s}, Exq ks false d e s → exprD e = true ∧ narrow e = true := fun {d e s} h => by
    obtain ⟨x, r, rfl, hx⟩ := h.word
    obtain ⟨a, b⟩ := exq_noL d _ s h
    refine ⟨?_, b⟩
    simp only [noL, noLs, Bool.true_and] at a
    unfold exprD
    split
    · rename_i e
      cases e
      simp [noLs, noL] at a
    · rename_i e
      cases e
      simp [hx, a]
    · rename_i h1 h2
      exact absurd rfl (h2 _ _)
  cases m with
  | false => exact low h
  | true =>
    rcases h.low with h | ⟨f, ps, rfl, hl, n, d2, hq⟩
    · exact low h
    · have a := lev_noL hq
      refine ⟨?_, ?_⟩
      · simp only [exprD, decide_true, Bool.true_and, Bool.and_eq_true, decide_eq_true_eq]
        exact ⟨noLs_of fun e m => (a e m).1, by omega⟩
      · refine narrow_tuple (by show 3 ≤ 100000; decide) fun d m => ?_
        simp only [List.mem_cons, List.not_mem_nil, or_false] at m
        rcases m with rfl | rfl | rfl
        · rfl
        · rfl
        · exact narrow_list (by omega) fun d m => (a d m).2
theorem rows_mem {ks : List Str} {d : Nat} : ∀ {l : List (List PyData × PyData)} {N : Nat}, RowsQ ks d l N → ∀ r ∈ l, ∃ s, Exq ks true d r.2 s
  | [], _, _, r, m => by cases m
  | _ :: l, _, .cons h _ t, r, m => by
    rcases List.mem_cons.mp m with rfl | m
    · exact ⟨_, h⟩
    · exact rows_mem t r m
theorem strs_ok {n : Nat} {xs : List Str} (h : ∀ x ∈ xs, NameS x) (l : xs.length ≤ 100000) : FineD 1 (.tuple (xs.map .str)) ∧ narrow (.tuple (xs.map .str)) = true := by
  refine ⟨fine_tuple (n := 0) fun d m => ?_, narrow_tuple (by rw [List.length_map]; exact l) fun d m => ?_⟩
  · obtain ⟨x, hx, rfl⟩ := List.mem_map.mp m
    exact ⟨rfl, by simp only [PyData.canLay0]; exact strOk_name (h x hx), Nat.le_refl _⟩
  · obtain ⟨x, hx, rfl⟩ := List.mem_map.mp m
    rfl
theorem mod_fine {M : Mod} {N : Nat} (h : ModOk M N) : FineD 13 M.D ∧ narrow M.D = true := by
  obtain ⟨i1, i2⟩ := strs_ok (n := 0) h.ins (by have := h.insL; omega)
  obtain ⟨o1, o2⟩ := strs_ok (n := 0) h.outs (by have := h.outsL; omega)
  have tl : ∀ r ∈ M.rows, r.1.length ≤ 1000 := fun r hr => by
    have hm : r.1.length ≤ (M.rows.flatMap (·.1)).length := by
      obtain ⟨a, b, e⟩ := List.append_of_mem hr
      rw [e, List.flatMap_append, List.flatMap_cons, List.length_append, List.length_append]
      omega
    exact Nat.le_trans hm h.tgsL
  have row : ∀ d ∈ M.rs.map rowD, FineD 11 d ∧ narrow d = true := fun d hd => by
    obtain ⟨r, hr, rfl⟩ := List.mem_map.mp hd
    obtain ⟨r0, hr0, rfl⟩ := List.mem_map.mp (show r ∈ M.rows.map (fun r => (r.1.map PyData.str, r.2)) from hr)
    obtain ⟨s, he⟩ := rows_mem h.ex _ hr
    obtain ⟨a1, a2⟩ := strs_ok (n := 0) (h.rowN r0 hr0).2 (by have := tl r0 hr0; omega)
    have e2 := (exq_expr he).2
    refine ⟨fine_tuple (n := 10) fun d m => ?_, narrow_tuple (by show 2 ≤ 100000; decide) fun d m => ?_⟩
    · rcases List.mem_cons.mp m with rfl | m
      · exact a1.mono (by decide)
      · rw [List.mem_singleton.mp m]
        exact fine_exq he
    · rcases List.mem_cons.mp m with rfl | m
      · exact a2
      · rw [List.mem_singleton.mp m]
        exact e2
  have nm : FineD 12 (.str M.name) := ⟨rfl, by simp only [PyData.canLay0]; exact strOk_name h.name, Nat.zero_le _⟩
  have rl : (M.rs.map rowD).length ≤ 60 := by rw [List.length_map]; unfold Mod.rs; rw [List.length_map]; exact h.rowL
  refine ⟨fine_tuple (n := 12) fun d m => ?_, narrow_tuple (by show 4 ≤ 100000; decide) fun d m => ?_⟩
  · simp only [List.mem_cons, List.not_mem_nil, or_false] at m
    rcases m with rfl | rfl | rfl | rfl
    · exact nm
    · exact i1.mono (by decide)
    · exact o1.mono (by decide)
    · exact fine_list fun d m => (row d m).1
  · simp only [List.mem_cons, List.not_mem_nil, or_false] at m
    rcases m with rfl | rfl | rfl | rfl
    · rfl
    · exact i2
    · exact o2
    · exact narrow_list (by omega) fun d m => (row d m).2
theorem eqv_same {n : Nat} {d : PyData} (h : FineD n d) : PyData.eqv d d = true := PySem.SeqAt.eqv_refl d h.2.1
end WK
namespace WK
open PySem PySem.Spec PyProof.Rows L2 WD
abbrev enL14 (x2 x3 x4 x5 x6 x7 x8 x9 x10 x11 x12 : En) (w : Nat) : WD.Env := ⟨[.un, .un, x2, x3, x4, x5, x6, x7, x8, x9, x10, x11, x12, .un], w⟩
/-- the first two of each entry -/
def dueD (L : List PyData) : List PyData := plD [] L
theorem due_cons {k e : PyData} {q L : List PyData} {x : Str} {r : List PyData} : plD [] (.tuple [k, .tuple q, .tuple (.str x :: r)] :: L) = .tuple [k, .tuple q] :: plD [] L := rfl
theorem comp_due {x2 x3 x4 x5 x6 x9 x10 x11 x12 : En} {w : Nat} {P : List PyData → WD.Env → Prop} : ∀ (L acc : List PyData), (∀ z ∈ L, SpotE z) → acc.length + L.length ≤ 100000 → P (acc ++ dueD L) (enL14 x2 x3 x4 x5 x6 .un .un x9 x10 x11 x12 w) →
    wComp (wgTup 3 (wgCons (wName [1] 7) (wgCons (wName [1] 13) (wgCons (wName [1] 8) wgNil)))) wYes (wTup (wCons (wVar 7) (wCons (wVar 13) wNil))) [7, 13, 8] L [.un, .un, x2, x3, x4, x5, x6, .un, .un, x9, x10, x11, x12, .un] w acc P
  | [], acc, _, _, p => by
    have p : P (acc ++ []) (enL14 x2 x3 x4 x5 x6 .un .un x9 x10 x11 x12 w) := p
    rw [List.append_nil] at p
    exact p
  | z :: L, acc, h, b, p => by
    obtain ⟨k, q, x, r, rfl⟩ := h z (.head _)
    rw [List.length_cons] at b
    refine ⟨rfl, rfl, by show 7 < 14; decide, rfl, by show 13 < 14; decide, rfl, by show 8 < 14; decide, rfl, ?_⟩
    refine ⟨by show 2 ≤ 16777216; decide, rfl, by omega, ?_⟩
    exact comp_due L (acc ++ [.tuple [k, .tuple q]]) (fun z hz => h z (.tail _ hz)) (by rw [List.length_append]; simp only [List.length_cons, List.length_nil]; omega) (by rw [List.append_assoc]; exact p)
theorem fine_words {ws : List Str} (h : ∀ x ∈ ws, x ∈ wordsL) : FineD 1 (.tuple (ws.map .str)) := fine_tuple (n := 0) fun d m => by
  obtain ⟨x, hx, rfl⟩ := List.mem_map.mp m
  refine ⟨rfl, ?_, Nat.le_refl _⟩
  simp only [PyData.canLay0]
  have := h x hx
  unfold wordsL at this
  simp only [List.mem_cons, List.not_mem_nil, or_false] at this
  rcases this with rfl | rfl | rfl | rfl | rfl | rfl | rfl | rfl | rfl | rfl | rfl | rfl | rfl | rfl <;> decide +kernel
theorem comp_picked {x2 x3 x4 x5 x9 x10 x11 x12 : En} {ws : List Str} (hw : ∀ x ∈ ws, x ∈ wordsL) {w : Nat} {P : List PyData → WD.Env → Prop} : ∀ (L acc : List PyData), (∀ z ∈ L, SpotE z) → acc.length + L.length ≤ 100000 → P (acc ++ plD ws L) (enL14 x2 x3 x4 x5 (.dat (.tuple (ws.map .str))) .un .un x9 x10 x11 x12 w) →
    wComp (wgTup 3 (wgCons (wName [1] 7) (wgCons (wName [1] 13) (wgCons (wName [1] 8) wgNil)))) (wOr (wB (wOp fEqD (wVar 6) (wTup wNil))) (wB (wOp (fInQ false) (wOp fIxT (wVar 8) (wK (.int 0))) (wVar 6)))) (wTup (wCons (wVar 7) (wCons (wVar 13) wNil))) [7, 13, 8] L [.un, .un, x2, x3, x4, x5, .dat (.tuple (ws.map .str)), .un, .un, x9, x10, x11, x12, .un] w acc P
  | [], acc, _, _, p => by
    have p : P (acc ++ []) (enL14 x2 x3 x4 x5 (.dat (.tuple (ws.map .str))) .un .un x9 x10 x11 x12 w) := p
    rw [List.append_nil] at p
    exact p
  | z :: L, acc, h, b, p => by
    obtain ⟨k, q, x, r, rfl⟩ := h z (.head _)
    rw [List.length_cons] at b
    have p : P (acc ++ (if ws.isEmpty || ws.any (fun y => y == x) then .tuple [k, .tuple q] :: plD ws L else plD ws L)) (enL14 x2 x3 x4 x5 (.dat (.tuple (ws.map .str))) .un .un x9 x10 x11 x12 w) := p
    have fw := fine_words hw
    have eqe : PyData.eqv (.tuple (ws.map .str)) (.tuple []) = ws.isEmpty := by
      cases ws <;> simp [PyData.eqv, PyData.eqvAll]
    refine ⟨rfl, rfl, by show 7 < 14; decide, rfl, by show 13 < 14; decide, rfl, by show 8 < 14; decide, rfl, ?_⟩
    refine ⟨by decide, fw.1, rfl, fw.shaped (by decide), by decide +kernel, ?_⟩
    have yes : (ws.isEmpty || ws.any (fun y => y == x)) = true → (wTup (wCons (wVar 7) (wCons (wVar 13) wNil))) ⟨[.un, .un, x2, x3, x4, x5, .dat (.tuple (ws.map .str)), .dat k, .dat (.tuple (.str x :: r)), x9, x10, x11, x12, .dat (.tuple q)], w⟩ (fun z ρ4 => wipeE ρ4.sl [7, 13, 8] = [.un, .un, x2, x3, x4, x5, .dat (.tuple (ws.map .str)), .un, .un, x9, x10, x11, x12, .un] ∧ acc.length < 16777216 ∧
        wComp (wgTup 3 (wgCons (wName [1] 7) (wgCons (wName [1] 13) (wgCons (wName [1] 8) wgNil)))) (wOr (wB (wOp fEqD (wVar 6) (wTup wNil))) (wB (wOp (fInQ false) (wOp fIxT (wVar 8) (wK (.int 0))) (wVar 6)))) (wTup (wCons (wVar 7) (wCons (wVar 13) wNil))) [7, 13, 8] L [.un, .un, x2, x3, x4, x5, .dat (.tuple (ws.map .str)), .un, .un, x9, x10, x11, x12, .un] ρ4.went (acc ++ [z]) P) := fun e => by
      rw [if_pos e] at p
      refine ⟨by show 2 ≤ 16777216; decide, rfl, by omega, ?_⟩
      exact comp_picked hw L (acc ++ [.tuple [k, .tuple q]]) (fun z hz => h z (.tail _ hz)) (by rw [List.length_append]; simp only [List.length_cons, List.length_nil]; omega) (by rw [List.append_assoc]; exact p)
    cases he : ws.isEmpty with
    | true =>
      show (if PyData.eqv (.tuple (ws.map .str)) (.tuple []) = true then _ else _)
      rw [eqe, he, if_pos rfl]
      exact yes (by rw [he]; rfl)
    | false =>
      show (if PyData.eqv (.tuple (ws.map .str)) (.tuple []) = true then _ else _)
      rw [eqe, he, if_neg (by decide)]
      refine ⟨.str x, at_head, all_flat ws |> fun _ => rfl, all_flat ws, ?_⟩
      have e := any_str (x := x) ws
      show (if (xor false ((ws.map PyData.str).any fun y => eqvD y (.str x))) = true then _ else _)
      rw [e]
      cases q2 : ws.any (fun y => y == x) with
      | true =>
        rw [if_pos (by rfl)]
        exact yes (by rw [q2, Bool.or_true])
      | false =>
        rw [if_neg (by decide)]
        rw [q2, he] at p
        exact ⟨rfl, comp_picked hw L acc (fun z hz => h z (.tail _ hz)) (by omega) p⟩
end WK
namespace WK
open PySem PySem.Spec PyProof.Rows L2 WD
def SpotP (p : PyData) : Prop := ∃ (k : Int) (r : List Int), p = spotD k r ∧ SmI k ∧ (∀ i ∈ r, SmI i) ∧ r.length ≤ 8
theorem SpotOf.p {M : Mod} {z : PyData} (h : SpotOf M z) : ∃ k r x t, z = .tuple [.int k, .tuple (r.map .int), .tuple (.str x :: t)] ∧ SpotP (spotD k r) := by
  obtain ⟨k, r, e, m, d, s, q1, q2, q3, q4, q5, q6, q7, q8, q9⟩ := h
  obtain ⟨x, t, rfl⟩ := q3.shape
  exact ⟨k, r, x, t, q1, k, r, rfl, by unfold SmI; omega, fun i hi => by have := q9 i hi; unfold SmI; omega, q8⟩
theorem pl_in {M : Mod} {ws : List Str} : ∀ (L : List PyData), (∀ z ∈ L, SpotOf M z) → ∀ p ∈ plD ws L, SpotP p
  | [], _, p, m => by cases m
  | z :: L, h, p, m => by
    obtain ⟨k, r, x, t, rfl, hp⟩ := (h z (.head _)).p
    have m : p ∈ (if ws.isEmpty || ws.any (fun y => y == x) then .tuple [.int k, .tuple (r.map .int)] :: plD ws L else plD ws L) := m
    split at m
    · rcases List.mem_cons.mp m with rfl | m
      · exact hp
      · exact pl_in L (fun z hz => h z (.tail _ hz)) p m
    · exact pl_in L (fun z hz => h z (.tail _ hz)) p m
theorem pl_len {M : Mod} {ws : List Str} : ∀ (L : List PyData), (∀ z ∈ L, SpotOf M z) → (plD ws L).length ≤ L.length
  | [], _ => Nat.le_refl _
  | z :: L, h => by
    obtain ⟨k, r, x, t, rfl, hp⟩ := (h z (.head _)).p
    have ih := pl_len (ws := ws) L fun z hz => h z (.tail _ hz)
    show (if ws.isEmpty || ws.any (fun y => y == x) then PyData.tuple [.int k, .tuple (r.map .int)] :: plD ws L else plD ws L).length ≤ L.length + 1
    split
    · rw [List.length_cons]; omega
    · omega
theorem due_ne {M : Mod} {L : List PyData} (h : ∀ z ∈ L, SpotOf M z) (h0 : L ≠ []) : dueD L ≠ [] := by
  cases L with
  | nil => exact absurd rfl h0
  | cons z L =>
    obtain ⟨k, r, x, t, rfl, hp⟩ := (h z (.head _)).p
    intro e
    have e : (.tuple [.int k, .tuple (r.map .int)] :: plD [] L : List PyData) = [] := e
    cases e
theorem spotP_ok {p : PyData} (h : SpotP p) : FineD 2 p ∧ noL p = true := by
  obtain ⟨k, r, rfl, hk, hr, hl⟩ := h
  refine ⟨(pc_spot hk hr (by omega)).1, ?_⟩
  have : noLs (r.map PyData.int) = true := noLs_of fun d m => by
    obtain ⟨i, _, rfl⟩ := List.mem_map.mp m
    rfl
  simp [noL, noLs, this]
theorem place_spot {M : Mod} {N : Nat} (h : ModOk M N) {L : List PyData} (hL : walkR M.rs 0 = some L) {p : PyData} (hp : SpotP p) : PlaceOk M L p := by
  obtain ⟨k, r, rfl, hk, hr, hl⟩ := hp
  exact place_ok h hL (.inl ⟨k, r, rfl, hk, hr, by omega⟩) (pc_spot hk hr (by omega))
abbrev W_inner : WS := (wSeq (wAsg (wCallW 2 f_law_odd (wCons (wOp fIxL (wVar 9) (wDraw (wCB fLen (wCons (wVar 9) wNil)))) (wCons (wCB fLen (wCons (wOp fIxT (wVar 3) (wK (.int 3))) wNil)) wNil))) (wName [1] 12))
  (wSeq (wIfS (wB (wOp (f2I fun i j => .bool (decide (j < i))) (wVar 7) (wK (.int 2)))) (wAsg (wOp fIxL (wVar 9) (wDraw (wCB fLen (wCons (wVar 9) wNil)))) (wName [1] 12)) wNext)
  (wSeq (wAsg (wCall 2 f_law_there (wCons (wVar 5) (wCons (wVar 12) wNil))) (wName [1] 8))
  (wIfS (wB (wOp fEqD (wVar 8) (wLst wNil))) (wIfS (wNot (wB (wCall 2 f_law_refused (wCons (wVar 4) (wCons (wVar 12) wNil))))) (wRet (wK (.bool false))) wNext) (wElse [1] 4 12 8 10)))))
theorem inner_fin {M : Mod} {N : Nat} (h : ModOk M N) {L : List PyData} {p : PyData} (hp : PlaceOk M L p) {x2 x6 x7 x8 x9 x10 x11 : En} {w : Nat} {P : Fl → Prop} (q : ∀ x8 x10, P (.nx (enL14 x2 (.dat M.D) (.dat M.D) (.dat (.list L)) x6 x7 x8 x9 x10 x11 (.dat p) w))) :
    (wSeq (wAsg (wCall 2 f_law_there (wCons (wVar 5) (wCons (wVar 12) wNil))) (wName [1] 8))
      (wIfS (wB (wOp fEqD (wVar 8) (wLst wNil))) (wIfS (wNot (wB (wCall 2 f_law_refused (wCons (wVar 4) (wCons (wVar 12) wNil))))) (wRet (wK (.bool false))) wNext) (wElse [1] 4 12 8 10))) (enL14 x2 (.dat M.D) (.dat M.D) (.dat (.list L)) x6 x7 x8 x9 x10 x11 (.dat p) w) P := by
  obtain ⟨g1, g2, g3, o, t1, t2, t3⟩ := hp
  refine ⟨rfl, t1 _ ⟨rfl, by show 8 < 14; decide, by decide, ?_⟩⟩
  cases o with
  | none =>
    refine ⟨rfl, rfl, by decide +kernel, by decide +kernel, ?_⟩
    refine ⟨rfl, M.D, p, rfl, ⟨_, tells_check h⟩, t2, g2, g3, g1, ?_⟩
    exact q _ _
  | some e =>
    obtain ⟨m, d, s, he, hd, hs⟩ := t3 e rfl
    have fe := fine_exq he
    obtain ⟨e1, e2⟩ := exq_expr he
    have fl : FineD 11 (.list [e]) := fine_list (n := 10) fun x m => by rw [List.mem_singleton.mp m]; exact fe.mono (by omega)
    refine ⟨fl.1, rfl, fl.shaped (by decide), by decide +kernel, ?_⟩
    exact ⟨M.D, p, e, rfl, rfl, rfl, ⟨_, tells_check h⟩, t2, e1, e2, by have := fe.2.2; omega, exq_strOk he (by omega) (by omega), rfl, by show 10 < 14; decide, by decide, q _ _⟩
theorem inner_step {M : Mod} {N : Nat} (h : ModOk M N) {L : List PyData} (hL : walkR M.rs 0 = some L) (h0 : L ≠ []) {x2 x6 x8 x10 x11 x12 : En} {k w : Nat} {P : Fl → Prop} (hw : w + 10 ≤ 100000000)
    (q : ∀ x8 x10 x12 w2, w2 ≤ w + 10 → P (.nx (enL14 x2 (.dat M.D) (.dat M.D) (.dat (.list L)) x6 (.dat (.int (k : Nat))) x8 (.dat (.list (dueD L))) x10 x11 x12 w2))) :
    W_inner (enL14 x2 (.dat M.D) (.dat M.D) (.dat (.list L)) x6 (.dat (.int (k : Nat))) x8 (.dat (.list (dueD L))) x10 x11 x12 w) P := by
  have t30 : (10 : Int) ^ 30 = 1000000000000000000000000000000 := by decide
  have sp := spots_in h hL
  obtain ⟨L2, e2, l2⟩ := walkR_ok (d := 8) (by decide) M.rs 0 N h.ex
  rw [hL] at e2
  cases e2
  have few := h.few
  have dl : (dueD L).length ≤ 200 := Nat.le_trans (pl_len L sp) (by omega)
  have d0 : 0 < (dueD L).length := List.length_pos_iff.mpr (due_ne sp h0)
  have rl : (M.rs.map rowD).length ≤ 60 := by rw [List.length_map]; unfold Mod.rs; rw [List.length_map]; exact h.rowL
  refine ⟨by omega, by rw [t30]; omega, by show w ≤ 100000000; omega, fun r hr => ?_⟩
  have hr : r < (dueD L).length := by omega
  obtain ⟨k1, r1, e1, hk1, hr1, hl1⟩ := pl_in L sp _ (List.getElem_mem hr)
  refine ⟨spotD k1 r1, by rw [← e1]; exact atI_nat (List.getElem?_eq_getElem hr), _, rfl, ?_⟩
  refine ⟨rfl, draws_odd hk1 (by unfold SmI; omega) hr1 (by omega) (w + 1) _ (by omega) fun p m hp hm => ⟨rfl, by show 12 < 14; decide, ?_⟩⟩
  obtain ⟨bs, hb, hp⟩ := hp
  have sm : SmI (((M.rs.map rowD).length : Nat) : Int) := by unfold SmI; omega
  have pk : PlaceOk M L p := place_ok h hL (odds_ok hk1 sm hr1 (by omega) hb p hp) (pc_odds hk1 sm hr1 (by omega) hb p hp)
  by_cases h2 : (2 : Int) < (k : Int)
  · show (if decide ((2 : Int) < (k : Int)) = true then _ else _)
    rw [decide_eq_true h2, if_pos rfl]
    refine ⟨by omega, by rw [t30]; omega, by show m ≤ 100000000; omega, fun r hr => ?_⟩
    have hr : r < (dueD L).length := by omega
    refine ⟨(dueD L)[r], atI_nat (List.getElem?_eq_getElem hr), rfl, by show 12 < 14; decide, ?_⟩
    exact inner_fin h (place_spot h hL (pl_in L sp _ (List.getElem_mem hr))) fun x8 x10 => q x8 x10 _ (m + 1) (by omega)
  · show (if decide ((2 : Int) < (k : Int)) = true then _ else _)
    rw [decide_eq_false h2, if_neg (by decide)]
    exact inner_fin h pk fun x8 x10 => q x8 x10 _ m (by omega)
end WK
namespace WK
open PySem PySem.Spec PyProof.Rows L2 WD
abbrev bodyLaw : WS := (wSeq (wAsg (wCallW 0 f_law_module wNil) (wName [1] 3))
  (wSeq (wAsg (wCall 1 f_law_deep (wCons (wVar 3) wNil)) (wName [1] 4))
  (wSeq (wAsg (wCall 1 f_law_all (wCons (wOp fIxT (wVar 3) (wK (.int 3))) wNil)) (wName [1] 5))
  (wSeq (wAsg (wCallW 0 f_law_words wNil) (wName [1] 6))
  (wSeq (wForget [7, 8] (wAsg (wTell (wLc [1] (wItL (wVar 5)) (wgTup 3 (wgCons (wName [1] 7) (wgCons (wName [1] 13) (wgCons (wName [1] 8) wgNil)))) wYes (wTup (wCons (wVar 7) (wCons (wVar 13) wNil))) [7, 13, 8])) (wName [1] 9)))
  (wSeq (wIfS (wOr (wB (wOp fNeD (wTell (wCallL 2 f_placesL [.tuple []] (wCons (wVar 4) wNil))) (wVar 9))) (wB (wOp fNeD (wTell (wCallK 2 f_placesL (wCons (wVar 4) wNil) (wCons (wTup wNil) wNil))) (wVar 9)))) (wRet (wK (.bool false))) wNext)
  (wSeq (wOwn [1] 10 (wCallK 2 f_placesL (wCons (wVar 4) wNil) (wCons (wVar 6) wNil)))
  (wSeq (wForget [7, 8] (wAsg (wTell (wLc [1] (wItL (wVar 5)) (wgTup 3 (wgCons (wName [1] 7) (wgCons (wName [1] 13) (wgCons (wName [1] 8) wgNil)))) (wOr (wB (wOp fEqD (wVar 6) (wTup wNil))) (wB (wOp (fInQ false) (wOp fIxT (wVar 8) (wK (.int 0))) (wVar 6)))) (wTup (wCons (wVar 7) (wCons (wVar 13) wNil))) [7, 13, 8])) (wName [1] 11)))
  (wSeq (wIfS (wOdd 10 11) (wRet (wK (.bool false))) wNext)
  (wSeq (wMark1 10)
  (wSeq (wIfS (wB (wOp fNeD (wCall 1 f_flows (wCons (wVar 4) wNil)) (wCall 1 f_law_flows (wCons (wVar 3) wNil)))) (wRet (wK (.bool false))) wNext)
  (wSeq (wFor (wItR1 (wCons (wK (.int 6)) wNil)) (wName [1] 7) (wSeq (wAsg (wCallW 2 f_law_odd (wCons (wOp fIxL (wVar 9) (wDraw (wCB fLen (wCons (wVar 9) wNil)))) (wCons (wCB fLen (wCons (wOp fIxT (wVar 3) (wK (.int 3))) wNil)) wNil))) (wName [1] 12))
  (wSeq (wIfS (wB (wOp (f2I fun i j => .bool (decide (j < i))) (wVar 7) (wK (.int 2)))) (wAsg (wOp fIxL (wVar 9) (wDraw (wCB fLen (wCons (wVar 9) wNil)))) (wName [1] 12)) wNext)
  (wSeq (wAsg (wCall 2 f_law_there (wCons (wVar 5) (wCons (wVar 12) wNil))) (wName [1] 8))
  (wIfS (wB (wOp fEqD (wVar 8) (wLst wNil))) (wIfS (wNot (wB (wCall 2 f_law_refused (wCons (wVar 4) (wCons (wVar 12) wNil))))) (wRet (wK (.bool false))) wNext) (wElse [1] 4 12 8 10))))))
  (wIfS (wB (wOp fNeD (wVar 4) (wVar 3))) (wRet (wK (.bool false))) wNext)))))))))))))
theorem inner_loop {M : Mod} {N : Nat} (h : ModOk M N) {L : List PyData} (hL : walkR M.rs 0 = some L) (h0 : L ≠ []) {x2 x6 x11 : En} {P : Fl → Prop} : ∀ (n k w : Nat) (x7 x8 x10 x12 : En), w + n * 10 ≤ 100000000 →
    (∀ x7 x8 x10 x12 w2, w2 ≤ w + n * 10 → P (.nx (enL14 x2 (.dat M.D) (.dat M.D) (.dat (.list L)) x6 x7 x8 (.dat (.list (dueD L))) x10 x11 x12 w2))) →
    wLoop (wName [1] 7) W_inner (upFrom (k : Int) n) (enL14 x2 (.dat M.D) (.dat M.D) (.dat (.list L)) x6 x7 x8 (.dat (.list (dueD L))) x10 x11 x12 w) P
  | 0, k, w, x7, x8, x10, x12, _, q => q x7 x8 x10 x12 w (by omega)
  | n + 1, k, w, x7, x8, x10, x12, hw, q => by
    have eup : upFrom (k : Int) (n + 1) = .int (k : Nat) :: upFrom ((k + 1 : Nat) : Int) n := by
      unfold upFrom
      rw [List.range_succ_eq_map, List.map_cons, List.map_map]
      congr 1
      · simp
        intro a _
        omega
    rw [eup]
    refine ⟨rfl, by show 7 < 14; decide, ?_⟩
    refine inner_step (k := k) (w := w) (x2 := x2) (x6 := x6) (x8 := x8) (x10 := x10) (x11 := x11) (x12 := x12) h hL h0 (by omega) fun y8 y10 y12 w2 hw2 => ?_
    exact inner_loop h hL h0 n (k + 1) w2 (.dat (.int (k : Nat))) y8 y10 y12 (by omega) fun a b c d w3 hw3 => q a b c d w3 (by omega)
theorem body_step {x2 x3 x4 x5 x6 x7 x8 x9 x10 x11 x12 : En} {w : Nat} {P : Fl → Prop} (hw : w + 3000000 ≤ 100000000)
    (q : ∀ x2 x3 x4 x5 x6 x7 x8 x9 x10 x11 x12 w2, w2 ≤ w + 3000000 → P (.nx (enL14 x2 x3 x4 x5 x6 x7 x8 x9 x10 x11 x12 w2))) :
    bodyLaw (enL14 x2 x3 x4 x5 x6 x7 x8 x9 x10 x11 x12 w) P := by
  refine ⟨rfl, draws_module w _ (by omega) fun z m hz hm => ⟨rfl, by show 3 < 14; decide, ?_⟩⟩
  obtain ⟨M, N, rfl, h⟩ := hz
  obtain ⟨f1, f2⟩ := mod_fine h
  obtain ⟨L, hL, lL⟩ := walkR_ok (d := 8) (by decide) M.rs 0 N h.ex
  have few := h.few
  have sp := spots_in h hL
  have se := walkR_spots M.rs 0 N L h.ex hL
  have hro : M.rs ≠ [] := fun e => by
    have o := h.outsT
    have : M.tgs = [] := by
      have e2 : M.rows = [] := by
        unfold Mod.rs at e
        exact List.map_eq_nil_iff.mp e
      unfold Mod.tgs
      rw [e2]
      rfl
    rw [this] at o
    cases ho : M.outs with
    | nil => exact h.outs0 ho
    | cons a b => exact absurd (o a (by rw [ho]; exact .head _)) (by simp)
  have h0 := spots_some h hL hro
  refine ⟨rfl, tells_deep 14 M.D f2 (by have := f1.2.2; omega) _ ⟨rfl, by show 4 < 14; decide, ?_⟩⟩
  refine ⟨_, rfl, rfl, tells_all h hL _ ⟨rfl, by show 5 < 14; decide, ?_⟩⟩
  refine ⟨rfl, draws_words m _ (by omega) fun z m2 hz hm2 => ⟨rfl, by show 6 < 14; decide, ?_⟩⟩
  obtain ⟨ws, rfl, wl, ww⟩ := hz
  refine ⟨⟨rfl, rfl⟩, comp_due L [] se (by rw [List.length_nil]; omega) ⟨rfl, by show 9 < 14; decide, ?_⟩⟩
  have dl : ∀ v : List Str, (plD v L).length ≤ 200 := fun v => Nat.le_trans (pl_len L sp) (by omega)
  have fd : ∀ v : List Str, FineD 3 (.list (plD v L)) := fun v => fine_list (n := 2) fun d hd => (spotP_ok (pl_in L sp d hd)).1
  have same : ∀ v : List Str, PyData.eqv (.list (plD v L)) (.list (plD v L)) = true := fun v => eqv_same (fd v)
  have s3 : ∀ v : List Str, SeqAt.shaped (.list (plD v L)) = true := fun v => (fd v).shaped (by decide)
  refine ⟨rfl, tells_placesL (ws := []) h hL ⟨(fd []).1, (fd []).1, s3 [], s3 [], ?_⟩⟩
  show (if (!PyData.eqv (.list (plD [] L)) (.list (plD [] L))) = true then _ else _)
  rw [same [], if_neg (by decide)]
  refine ⟨by decide, rfl, rfl, rfl, tells_placesL (ws := []) h hL ⟨(fd []).1, (fd []).1, s3 [], s3 [], ?_⟩⟩
  show (if (!PyData.eqv (.list (plD [] L)) (.list (plD [] L))) = true then _ else _)
  rw [same [], if_neg (by decide)]
  refine ⟨rfl, rfl, rfl, tells_placesL (ws := ws) h hL ⟨rfl, by show 10 < 14; decide, ?_⟩⟩
  refine ⟨⟨rfl, rfl⟩, comp_picked ww L [] se (by rw [List.length_nil]; omega) ⟨rfl, by show 11 < 14; decide, ?_⟩⟩
  have nd : noDicts (plD ws L) = true := by have := (fd ws).1; simpa only [noDict] using this
  refine ⟨plD ws L, .list (plD ws L), rfl, rfl, nd, (fd ws).1, s3 ws, s3 ws, ?_⟩
  show (if (!PyData.eqv (.list (plD ws L)) (.list (plD ws L))) = true then _ else _)
  rw [same ws, if_neg (by decide)]
  have dep := depthAll_of (n := 2) fun d hd => (spotP_ok (pl_in (ws := ws) L sp d hd)).1.2.2
  have ln := dl ws
  refine ⟨plD ws L, rfl, noLs_of fun d hd => (spotP_ok (pl_in L sp d hd)).2, by omega, by omega, ?_⟩
  refine ⟨rfl, tells_flowsP h _ ⟨rfl, tells_law_flows h _ ?_⟩⟩
  have fn : ∀ x ∈ M.fl, NameS x := fun x hx => by
    have hx : x ∈ M.ins ++ M.tgs := hx
    rcases List.mem_append.mp hx with hx | hx
    · exact h.ins x hx
    · obtain ⟨r, hr, hxr⟩ := List.mem_flatMap.mp hx
      exact (h.rowN r hr).2 x hxr
  have ff : FineD 1 (.list (M.fl.map .str)) := fine_strs (n := 0) fun x hx => strOk_name (fn x hx)
  refine ⟨ff.1, ff.1, ff.shaped (by decide), ff.shaped (by decide), ?_⟩
  show (if (!PyData.eqv (.list (M.fl.map .str)) (.list (M.fl.map .str))) = true then _ else _)
  rw [eqv_same ff, if_neg (by decide)]
  refine ⟨by decide, by decide, ?_⟩
  refine inner_loop h hL h0 6 0 m2 .un .un .un _ (by omega) fun y7 y8 y10 y12 w2 hw2 => ?_
  refine ⟨f1.1, f1.1, f1.shaped (by decide), f1.shaped (by decide), ?_⟩
  show (if (!PyData.eqv M.D M.D) = true then _ else _)
  rw [eqv_same f1, if_neg (by decide)]
  exact q _ _ _ _ _ _ _ _ _ _ _ w2 (by omega)
theorem body_loop {P : Fl → Prop} (q : ∀ x2 x3 x4 x5 x6 x7 x8 x9 x10 x11 x12 w2, P (.nx (enL14 x2 x3 x4 x5 x6 x7 x8 x9 x10 x11 x12 w2))) : ∀ (ds : List PyData) (w : Nat) (x2 x3 x4 x5 x6 x7 x8 x9 x10 x11 x12 : En), w + ds.length * 3000000 ≤ 100000000 →
    wLoop (wName [1] 2) bodyLaw ds (enL14 x2 x3 x4 x5 x6 x7 x8 x9 x10 x11 x12 w) P
  | [], w, x2, x3, x4, x5, x6, x7, x8, x9, x10, x11, x12, _ => q _ _ _ _ _ _ _ _ _ _ _ _
  | d :: ds, w, x2, x3, x4, x5, x6, x7, x8, x9, x10, x11, x12, hw => by
    have hl : (d :: ds).length = ds.length + 1 := rfl
    have hw1 : w + 3000000 ≤ 100000000 := by omega
    have hw3 : ∀ w2, w2 ≤ w + 3000000 → w2 + ds.length * 3000000 ≤ 100000000 := fun w2 h => by omega
    refine ⟨rfl, by show 2 < 14; decide, ?_⟩
    refine body_step (w := w) (x2 := .dat d) (x3 := x3) (x4 := x4) (x5 := x5) (x6 := x6) (x7 := x7) (x8 := x8) (x9 := x9) (x10 := x10) (x11 := x11) (x12 := x12) hw1 fun y2 y3 y4 y5 y6 y7 y8 y9 y10 y11 y12 w2 hw2 => ?_
    exact body_loop q ds w2 y2 y3 y4 y5 y6 y7 y8 y9 y10 y11 y12 (hw3 w2 hw2)
theorem law_w : LawW := by
  refine ⟨by decide, by decide, ?_⟩
  have e : (upFrom 0 (6 : Int).toNat).length = 6 := by rw [upFrom_len]; rfl
  have b : 0 + (upFrom 0 (6 : Int).toNat).length * 3000000 ≤ 100000000 := by rw [e]; omega
  generalize upFrom 0 (6 : Int).toNat = ds at *
  refine body_loop ?_ ds 0 .un .un .un .un .un .un .un .un .un .un .un b
  intro _ _ _ _ _ _ _ _ _ _ _ _
  rfl
end WK
namespace WK
open PySem PySem.Spec PyProof.Rows L2 WD
section
variable {P : Program} {w : World} {K : PySem.W.Frag} {mg : Str → Option Value} {base : Heap}
theorem ok_walk_into {f : Addr} {fd : FuncData} (hf : mg "_walk_into" = some (.ref f)) (F : Fun K "_walk_into" "_walk_into" s_walk_into f fd) (m_enumerate : mg "enumerate" = none) {p_PART_SPOTS : Addr} (t_PART_SPOTS : TabD K w mg "PART_SPOTS" p_PART_SPOTS kvs_PART_SPOTS) : FnOk P w K mg base CX0 12 f fd ["told", "k", "path", "e"] (sp_walk_into K) := walk_all hf F m_enumerate t_PART_SPOTS 12
end
end WK
/-! what a table of the top holds, by a truth that the head's run finds -/
namespace WD
open PySem PySem.Spec PyProof.Rows L2
mutual
def valB (K : PySem.W.Frag) : PyData → Value → Bool
  | .none, .none => true
  | .bool b, .bool c => b == c
  | .int i, .int j _ => decide (i = j)
  | .str x, .str y _ => decide (x = y)
  | .tuple ds, .ref a => match K.lookup a with
    | some ⟨.type c, _, .seq its _, _⟩ => decide (c = "tuple") && (decide (its.size ≤ 1000) && valsB K ds its.toList)
    | _ => false
  | _, _ => false
def valsB (K : PySem.W.Frag) : List PyData → List Value → Bool
  | [], [] => true
  | d :: ds, v :: vs => valB K d v && valsB K ds vs
  | _, _ => false
end
mutual
theorem valB_ok {K : PySem.W.Frag} : ∀ {d : PyData} {u : Value}, valB K d u = true → ∃ v, RelV v u ∧ ∀ H N, Dn K H N v d
  | .none, u, h => by
    cases u <;> first | exact ⟨.non, rfl, fun _ _ => .non⟩ | (simp [valB] at h; done)
  | .bool b, u, h => by
    cases u <;> simp [valB] at h
    subst h
    exact ⟨.bl _, rfl, fun _ _ => .bl _⟩
  | .int i, u, h => by
    cases u <;> simp [valB] at h
    subst h
    exact ⟨.int _, ⟨_, rfl⟩, fun _ _ => .int _⟩
  | .str x, u, h => by
    cases u <;> simp [valB] at h
    subst h
    exact ⟨.str _, ⟨_, rfl⟩, fun _ _ => .str _⟩
  | .tuple ds, u, h => by
    cases u <;> first | (simp [valB] at h; done) | skip
    rename_i a
    unfold valB at h
    split at h
    · rename_i e
      simp only [Bool.and_eq_true, decide_eq_true_eq] at h
      obtain ⟨rfl, hz, hv⟩ := h
      obtain ⟨xs, r, t⟩ := valsB_ok hv
      exact ⟨.ref a, rfl, fun H N => .tup (.inr ⟨_, _, _, e, rfl, rfl, Nat.le_trans hz (by decide), r⟩) (t H N)⟩
    · cases h
  | .list _, u, h => by cases u <;> simp [valB] at h
  | .dict _, u, h => by cases u <;> simp [valB] at h
theorem valsB_ok {K : PySem.W.Frag} : ∀ {ds : List PyData} {us : List Value}, valsB K ds us = true → ∃ vs, Vals vs us ∧ ∀ H N, Dns K H N vs ds
  | [], [], _ => ⟨[], .nil, fun _ _ => .nil⟩
  | [], _ :: _, h => by simp [valsB] at h
  | _ :: _, [], h => by simp [valsB] at h
  | d :: ds, u :: us, h => by
    simp only [valsB, Bool.and_eq_true] at h
    obtain ⟨v, r, t⟩ := valB_ok h.1
    obtain ⟨vs, rs, ts⟩ := valsB_ok h.2
    exact ⟨v :: vs, .cons r rs, fun H N => .cons (t H N) (ts H N)⟩
end
def rowsB (K : PySem.W.Frag) : List (Str × PyData) → List DictEntry → Bool
  | [], [] => true
  | (x, d) :: r, e :: es => e.key.isStr x && (valB K d e.val && rowsB K r es)
  | _, _ => false
def tabB (K : PySem.W.Frag) (p : Addr) (kvs : List (Str × PyData)) : Bool := match K.lookup p with
  | some ⟨_, _, .dict es _, _⟩ => rowsB K kvs es.toList
  | _ => false
theorem isStr_eq {u : Value} {x y : Str} (h : u.isStr x = true) : u.isStr y = decide (y = x) ∧ ∃ t, u = .str x t := by
  unfold Value.isStr at h
  split at h
  · rename_i n z t
    obtain rfl : z = x := eq_of_beq h
    refine ⟨?_, t, rfl⟩
    show (z == y) = decide (y = z)
    by_cases e : y = z
    · subst e; simp
    · rw [decide_eq_false e]
      exact beq_eq_false_iff_ne.mpr fun q => e q.symm
  · cases h
theorem rows_find {K : PySem.W.Frag} : ∀ {kvs : List (Str × PyData)} {es : List DictEntry}, rowsB K kvs es = true → (∀ x d, kvs.lookup x = some d → ∃ e, es.find? (·.key.isStr x) = some e ∧ valB K d e.val = true) ∧ (∀ x, kvs.lookup x = none → es.find? (·.key.isStr x) = none) ∧ es.any (·.refKey) = false
  | [], [], _ => ⟨fun x d h => (by cases h), fun x _ => rfl, rfl⟩
  | [], _ :: _, h => by simp [rowsB] at h
  | _ :: _, [], h => by simp [rowsB] at h
  | (y, d0) :: r, e :: es, h => by
    simp only [rowsB, Bool.and_eq_true] at h
    obtain ⟨h1, h2, h3⟩ := h
    obtain ⟨i1, i2, i3⟩ := rows_find h3
    refine ⟨fun x d hx => ?_, fun x hx => ?_, ?_⟩
    · rw [List.find?_cons, (isStr_eq (y := x) h1).1]
      by_cases hxy : x = y
      · subst hxy
        rw [List.lookup_cons_self] at hx
        cases hx
        exact ⟨e, by simp, h2⟩
      · have : (x == y) = false := by simpa using hxy
        rw [List.lookup_cons, this] at hx
        obtain ⟨e', q1, q2⟩ := i1 x d hx
        exact ⟨e', by rw [decide_eq_false hxy]; exact q1, q2⟩
    · rw [List.find?_cons, (isStr_eq (y := x) h1).1]
      by_cases hxy : x = y
      · subst hxy
        rw [List.lookup_cons_self] at hx
        cases hx
      · have : (x == y) = false := by simpa using hxy
        rw [List.lookup_cons, this] at hx
        rw [decide_eq_false hxy]
        exact i2 x hx
    · obtain ⟨t, ek⟩ := (isStr_eq (y := y) h1).2
      rw [List.any_cons, i3]
      simp [DictEntry.refKey, ek]
theorem tabB_ok {K : PySem.W.Frag} {p : Addr} {kvs : List (Str × PyData)} (h : tabB K p kvs = true) : Tab K p kvs := by
  unfold tabB at h
  split at h
  · rename_i q
    obtain ⟨h1, h2, h3⟩ := rows_find h
    refine ⟨fun x d hx => ?_, fun x hx => ?_⟩
    · obtain ⟨e, q1, q2⟩ := h1 x d hx
      obtain ⟨v, r, t⟩ := valB_ok q2
      refine ⟨e.val, v, ?_, r, t⟩
      unfold PySem.W.nsIn
      rw [q]
      show (match (_ : Option DictEntry) with | some e => _ | none => _) = _
      rw [q1]
    · unfold PySem.W.nsIn
      rw [q]
      show (match (_ : Option DictEntry) with | some e => _ | none => _) = _
      rw [h2 x hx, h3]
      rfl
  · cases h
end WD
namespace WK
open PySem PySem.Spec PyProof.Rows L2 WD
def nm_0 : List PySem.Str := ["SMALL", "is_whole", "is_name", "is_signs", "fresh", "LoomError", "NoModule", "NoPlace", "SIZES", "PART_SPOTS", "NAME_SPOTS", "_num_by_form", "_truth_by_form", "_flow_by_form", "_then_by_form", "_when_by_form", "_beats_by_form", "_call_by_form", "OWN_FORMS", "by_form", "parts_of", "parts_with_paths", "part_at", "copied_e", "name_in", "_walk_into", "walk", "targets_of", "flows_of", "MOST_EXPRESSIONS"]
def nm_1 : List PySem.Str := ["MOST_WITHIN", "ALL_PARTS", "_own_parts", "_all_parts", "many_fitting", "MOST_ROWS", "MOST_DOORS", "_frame_wrong", "_are_doors", "_head_wrong", "_is_row", "_rows_wrong", "outer_wrong", "_forms_wrong", "_size_wrong", "_calls_wrong", "_told_wrong", "_names_wrong", "_outs_wrong", "_trees_wrong", "inner_wrong", "many_right", "_looked_at", "check_module", "places", "is_spot", "_found", "e_at", "flows", "_law_purse"]
def nm_2 : List PySem.Str := ["_law_draw", "_law_mixed", "_law_names", "_law_atom", "_law_end", "_law_grown", "_law_whole_row", "_law_module", "_law_is_name", "_law_is_atom", "_law_is_signs", "_law_fits", "_law_under", "_law_all", "_law_deep", "_law_marked", "_law_words", "_law_odd", "_law_refused", "_law_flows", "_law_there"]
def nm_all : List PySem.Str := nm_0 ++ nm_1 ++ nm_2
/-- where the default of the def with one lies -/
def e0A (K : PySem.W.Frag) : Addr := match K.lookup (He.ga K "places") with
  | some ⟨_, _, .func fd, _⟩ => (match fd.kwdefaults with
    | .ref D => (match PySem.W.nsIn K D "only" with
      | some (some (.ref a)) => a
      | _ => 0)
    | _ => 0)
  | _ => 0
theorem nilT_ok {K : PySem.W.Frag} {a : Addr} (h : valB K (.tuple []) (.ref a) = true) : ∀ H : Hp, SqT K H a [] := fun H => by
  obtain ⟨v, r, d⟩ := valB_ok h
  obtain rfl : v = .ref a := by
    cases v <;> first | (cases r; rfl) | (obtain ⟨_, r⟩ := r; cases r) | cases r
  have := d H (fun _ => True)
  cases this with
  | tup hq t =>
    cases t
    exact hq
theorem kb_places {K : PySem.W.Frag} {e0 f : Addr} {fd : FuncData} (F : FunD K "places" "places" (defArgs s_places) (defBody s_places) (defScope s_places) [] [("only", .ref e0)] f fd) : ∃ ds, Vals [V.ref e0] ds ∧ Binds K fd ["module", "only"] ds :=
  F.binds0 1 (fun z => nomatch z) rfl fun D doc pm an cdv ct us ks h1 h2 => match us, ks, h1, h2 with | [_], [_], _, _ => ⟨_, _, _, _, _, _, rfl, rfl, rfl⟩
theorem kk_places {K : PySem.W.Frag} {e0 f : Addr} {fd : FuncData} (F : FunD K "places" "places" (defArgs s_places) (defBody s_places) (defScope s_places) [] [("only", .ref e0)] f fd) : KBn K fd ["module", "only"] 1 ["only"] (fun us ws => us ++ ws) (fun vs zs => vs ++ zs) := by
  refine ⟨fun s us ws hk h1 h2 => ?_, fun r1 r2 => Vals.append r1 r2⟩
  obtain ⟨⟨oc, od, dV, kV, doc, pm, an, cdv, ct, osl, rfl, _, _, hd, _⟩, _⟩ := F
  rcases hd with ⟨_, rfl⟩ | ⟨h, _⟩
  case inr => exact absurd rfl h
  match us, ws, h1, h2 with
  | [_], [_], _, _ => exact .of_eq rfl
theorem kb_of {K : PySem.W.Frag} {fd : FuncData} {f : Str} (h : ∀ (s : Shared) (u z : Value), BindsTo s fd ⟨[u], [(f, z)]⟩ [("self", u), (f, z)]) : KBn K fd ([("self" : Str), f] : List Str) 1 [f] (fun us ws => us ++ ws.reverse) (fun vs zs => vs ++ zs.reverse) where
  to := fun s us ws _ h1 h2 => match us, ws, h1, h2 with
    | [u], [z], _, _ => h s u z
  rel := fun a b => a.append (Vals.rev b)
theorem lookup_in {x : Str} {f : W1} : ∀ {l : List (Str × W1)}, l.lookup x = some f → (x, f) ∈ l
  | [], h => by cases h
  | (y, g) :: r, h => by
    by_cases e : x = y
    · subst e
      rw [List.lookup_cons_self] at h
      cases h
      exact .head _
    · have : (x == y) = false := by simpa using e
      rw [List.lookup_cons, this] at h
      exact .tail _ (lookup_in h)
theorem fs_OWN_FORMS_in {x : Str} {f : W1} (h : fs_OWN_FORMS.lookup x = some f) : (x = "num" ∧ f = f_num_by_form) ∨ (x = "truth" ∧ f = f_truth_by_form) ∨ (x = "flow" ∧ f = f_flow_by_form) ∨ (x = "then" ∧ f = f_then_by_form) ∨ (x = "when" ∧ f = f_when_by_form) ∨ (x = "merge" ∧ f = f_flow_by_form) ∨ (x = "beats" ∧ f = f_beats_by_form) ∨ (x = "call" ∧ f = f_call_by_form) := by
  have m := lookup_in h
  simp only [fs_OWN_FORMS, List.mem_cons, List.not_mem_nil, or_false, Prod.mk.injEq] at m
  exact m
def dd_0 : He.DefD := ⟨("_law_purse", none), "_law_purse", "_law_purse", defArgs s_law_purse, defBody s_law_purse, defScope s_law_purse, [], []⟩
def dd_1 : He.DefD := ⟨("_law_draw", none), "_law_draw", "_law_draw", defArgs s_law_draw, defBody s_law_draw, defScope s_law_draw, [], []⟩
def dd_2 : He.DefD := ⟨("_law_mixed", none), "_law_mixed", "_law_mixed", defArgs s_law_mixed, defBody s_law_mixed, defScope s_law_mixed, [], []⟩
def dd_3 : He.DefD := ⟨("_law_names", none), "_law_names", "_law_names", defArgs s_law_names, defBody s_law_names, defScope s_law_names, [], []⟩
def dd_4 : He.DefD := ⟨("_law_atom", none), "_law_atom", "_law_atom", defArgs s_law_atom, defBody s_law_atom, defScope s_law_atom, [], []⟩
def dd_5 : He.DefD := ⟨("_law_end", none), "_law_end", "_law_end", defArgs s_law_end, defBody s_law_end, defScope s_law_end, [], []⟩
def dd_6 : He.DefD := ⟨("_law_grown", none), "_law_grown", "_law_grown", defArgs s_law_grown, defBody s_law_grown, defScope s_law_grown, [], []⟩
def dd_7 : He.DefD := ⟨("_law_whole_row", none), "_law_whole_row", "_law_whole_row", defArgs s_law_whole_row, defBody s_law_whole_row, defScope s_law_whole_row, [], []⟩
def dd_8 : He.DefD := ⟨("_law_module", none), "_law_module", "_law_module", defArgs s_law_module, defBody s_law_module, defScope s_law_module, [], []⟩
def dd_9 : He.DefD := ⟨("_law_deep", none), "_law_deep", "_law_deep", defArgs s_law_deep, defBody s_law_deep, defScope s_law_deep, [], []⟩
def dd_10 : He.DefD := ⟨("_law_is_atom", none), "_law_is_atom", "_law_is_atom", defArgs s_law_is_atom, defBody s_law_is_atom, defScope s_law_is_atom, [], []⟩
def dd_11 : He.DefD := ⟨("_law_is_name", none), "_law_is_name", "_law_is_name", defArgs s_law_is_name, defBody s_law_is_name, defScope s_law_is_name, [], []⟩
def dd_12 : He.DefD := ⟨("_law_is_signs", none), "_law_is_signs", "_law_is_signs", defArgs s_law_is_signs, defBody s_law_is_signs, defScope s_law_is_signs, [], []⟩
def dd_13 : He.DefD := ⟨("_law_fits", none), "_law_fits", "_law_fits", defArgs s_law_fits, defBody s_law_fits, defScope s_law_fits, [], []⟩
def dd_14 : He.DefD := ⟨("_law_under", none), "_law_under", "_law_under", defArgs s_law_under, defBody s_law_under, defScope s_law_under, [], []⟩
def dd_15 : He.DefD := ⟨("_law_all", none), "_law_all", "_law_all", defArgs s_law_all, defBody s_law_all, defScope s_law_all, [], []⟩
def dd_16 : He.DefD := ⟨("_law_words", none), "_law_words", "_law_words", defArgs s_law_words, defBody s_law_words, defScope s_law_words, [], []⟩
def dd_17 : He.DefD := ⟨("_frame_wrong", none), "_frame_wrong", "_frame_wrong", defArgs s_frame_wrong, defBody s_frame_wrong, defScope s_frame_wrong, [], []⟩
def dd_18 : He.DefD := ⟨("is_name", none), "is_name", "is_name", defArgs s_is_name, defBody s_is_name, defScope s_is_name, [], []⟩
def dd_19 : He.DefD := ⟨("_are_doors", none), "_are_doors", "_are_doors", defArgs s_are_doors, defBody s_are_doors, defScope s_are_doors, [], []⟩
def dd_20 : He.DefD := ⟨("_head_wrong", none), "_head_wrong", "_head_wrong", defArgs s_head_wrong, defBody s_head_wrong, defScope s_head_wrong, [], []⟩
def dd_21 : He.DefD := ⟨("_is_row", none), "_is_row", "_is_row", defArgs s_is_row, defBody s_is_row, defScope s_is_row, [], []⟩
def dd_22 : He.DefD := ⟨("_rows_wrong", none), "_rows_wrong", "_rows_wrong", defArgs s_rows_wrong, defBody s_rows_wrong, defScope s_rows_wrong, [], []⟩
def dd_23 : He.DefD := ⟨("outer_wrong", none), "outer_wrong", "outer_wrong", defArgs s_outer_wrong, defBody s_outer_wrong, defScope s_outer_wrong, [], []⟩
def dd_24 : He.DefD := ⟨("targets_of", none), "targets_of", "targets_of", defArgs s_targets_of, defBody s_targets_of, defScope s_targets_of, [], []⟩
def dd_25 : He.DefD := ⟨("flows_of", none), "flows_of", "flows_of", defArgs s_flows_of, defBody s_flows_of, defScope s_flows_of, [], []⟩
def dd_26 : He.DefD := ⟨("_outs_wrong", none), "_outs_wrong", "_outs_wrong", defArgs s_outs_wrong, defBody s_outs_wrong, defScope s_outs_wrong, [], []⟩
def dd_27 : He.DefD := ⟨("is_whole", none), "is_whole", "is_whole", defArgs s_is_whole, defBody s_is_whole, defScope s_is_whole, [], []⟩
def dd_28 : He.DefD := ⟨("_num_by_form", none), "_num_by_form", "_num_by_form", defArgs s_num_by_form, defBody s_num_by_form, defScope s_num_by_form, [], []⟩
def dd_29 : He.DefD := ⟨("_truth_by_form", none), "_truth_by_form", "_truth_by_form", defArgs s_truth_by_form, defBody s_truth_by_form, defScope s_truth_by_form, [], []⟩
def dd_30 : He.DefD := ⟨("_flow_by_form", none), "_flow_by_form", "_flow_by_form", defArgs s_flow_by_form, defBody s_flow_by_form, defScope s_flow_by_form, [], []⟩
def dd_31 : He.DefD := ⟨("_then_by_form", none), "_then_by_form", "_then_by_form", defArgs s_then_by_form, defBody s_then_by_form, defScope s_then_by_form, [], []⟩
def dd_32 : He.DefD := ⟨("_when_by_form", none), "_when_by_form", "_when_by_form", defArgs s_when_by_form, defBody s_when_by_form, defScope s_when_by_form, [], []⟩
def dd_33 : He.DefD := ⟨("is_signs", none), "is_signs", "is_signs", defArgs s_is_signs, defBody s_is_signs, defScope s_is_signs, [], []⟩
def dd_34 : He.DefD := ⟨("_beats_by_form", none), "_beats_by_form", "_beats_by_form", defArgs s_beats_by_form, defBody s_beats_by_form, defScope s_beats_by_form, [], []⟩
def dd_35 : He.DefD := ⟨("_call_by_form", none), "_call_by_form", "_call_by_form", defArgs s_call_by_form, defBody s_call_by_form, defScope s_call_by_form, [], []⟩
def dd_36 : He.DefD := ⟨("_own_parts", none), "_own_parts", "_own_parts", defArgs s_own_parts, defBody s_own_parts, defScope s_own_parts, [], []⟩
def dd_37 : He.DefD := ⟨("_all_parts", none), "_all_parts", "_all_parts", defArgs s_all_parts, defBody s_all_parts, defScope s_all_parts, [], []⟩
def dd_38 : He.DefD := ⟨("many_fitting", none), "many_fitting", "many_fitting", defArgs s_many_fitting, defBody s_many_fitting, defScope s_many_fitting, [], []⟩
def dd_39 : He.DefD := ⟨("many_right", none), "many_right", "many_right", defArgs s_many_right, defBody s_many_right, defScope s_many_right, [], []⟩
def dd_40 : He.DefD := ⟨("_looked_at", none), "_looked_at", "_looked_at", defArgs s_looked_at, defBody s_looked_at, defScope s_looked_at, [], []⟩
def dd_41 : He.DefD := ⟨("check_module", none), "check_module", "check_module", defArgs s_check_module, defBody s_check_module, defScope s_check_module, [], []⟩
def dd_42 : He.DefD := ⟨("flows", none), "flows", "flows", defArgs s_flows, defBody s_flows, defScope s_flows, [], []⟩
def dd_43 : He.DefD := ⟨("_law_flows", none), "_law_flows", "_law_flows", defArgs s_law_flows, defBody s_law_flows, defScope s_law_flows, [], []⟩
def dd_44 : He.DefD := ⟨("_law_odd", none), "_law_odd", "_law_odd", defArgs s_law_odd, defBody s_law_odd, defScope s_law_odd, [], []⟩
def dd_45 : He.DefD := ⟨("_law_there", none), "_law_there", "_law_there", defArgs s_law_there, defBody s_law_there, defScope s_law_there, [], []⟩
def dd_46 : He.DefD := ⟨("is_spot", none), "is_spot", "is_spot", defArgs s_is_spot, defBody s_is_spot, defScope s_is_spot, [], []⟩
def dd_47 : He.DefD := ⟨("parts_of", none), "parts_of", "parts_of", defArgs s_parts_of, defBody s_parts_of, defScope s_parts_of, [], []⟩
def dd_48 : He.DefD := ⟨("part_at", none), "part_at", "part_at", defArgs s_part_at, defBody s_part_at, defScope s_part_at, [], []⟩
def dd_49 : He.DefD := ⟨("_found", none), "_found", "_found", defArgs s_found, defBody s_found, defScope s_found, [], []⟩
def dd_50 : He.DefD := ⟨("copied_e", none), "copied_e", "copied_e", defArgs s_copied_e, defBody s_copied_e, defScope s_copied_e, [], []⟩
def dd_51 : He.DefD := ⟨("fresh", none), "fresh", "fresh", defArgs s_fresh, defBody s_fresh, defScope s_fresh, [], []⟩
def dd_52 : He.DefD := ⟨("NoPlace", some "__init__"), "__init__", "NoPlace.__init__", defArgs s_NoPlace_init, defBody s_NoPlace_init, defScope s_NoPlace_init, [], []⟩
def dd_53 : He.DefD := ⟨("e_at", none), "e_at", "e_at", defArgs s_e_at, defBody s_e_at, defScope s_e_at, [], []⟩
def dd_54 : He.DefD := ⟨("_law_refused", none), "_law_refused", "_law_refused", defArgs s_law_refused, defBody s_law_refused, defScope s_law_refused, [], []⟩
def dd_55 : He.DefD := ⟨("_law_marked", none), "_law_marked", "_law_marked", defArgs s_law_marked, defBody s_law_marked, defScope s_law_marked, [], []⟩
def dd_56 : He.DefD := ⟨("_walk_into", none), "_walk_into", "_walk_into", defArgs s_walk_into, defBody s_walk_into, defScope s_walk_into, [], []⟩
def dd_57 : He.DefD := ⟨("walk", none), "walk", "walk", defArgs s_walk, defBody s_walk, defScope s_walk, [], []⟩
def dd_58 : He.DefD := ⟨("places", none), "places", "places", defArgs s_places, defBody s_places, defScope s_places, [], [("only", .adr e0A)]⟩
def dd_59 : He.DefD := ⟨("law", none), "law", "law", defArgs s_law, defBody s_law, defScope s_law, [], []⟩
def ddL : List He.DefD := [dd_0, dd_1, dd_2, dd_3, dd_4, dd_5, dd_6, dd_7, dd_8, dd_9, dd_10, dd_11, dd_12, dd_13, dd_14, dd_15, dd_16, dd_17, dd_18, dd_19, dd_20, dd_21, dd_22, dd_23, dd_24, dd_25, dd_26, dd_27, dd_28, dd_29, dd_30, dd_31, dd_32, dd_33, dd_34, dd_35, dd_36, dd_37, dd_38, dd_39, dd_40, dd_41, dd_42, dd_43, dd_44, dd_45, dd_46, dd_47, dd_48, dd_49, dd_50, dd_51, dd_52, dd_53, dd_54, dd_55, dd_56, dd_57, dd_58, dd_59]
def tbL : List He.Tab := [(fun K => (He.ga K "NAME_SPOTS"), ["flow", "when", "merge"]), (fun K => (He.ga K "PART_SPOTS"), ["sum", "less", "times", "below", "same", "both", "either", "not", "pick", "then", "when", "merge"]), (fun K => (He.ga K "SIZES"), ["num", "truth", "flow", "sum", "less", "times", "below", "same", "both", "either", "not", "pick", "then", "when", "merge", "beats", "call"]), (fun K => (He.ga K "OWN_FORMS"), ["num", "truth", "flow", "then", "when", "merge", "beats", "call"]), (fun K => (He.ga K "ALL_PARTS"), ["sum", "less", "times", "below", "same", "both", "either", "not", "pick"])]
def excB (K : PySem.W.Frag) (C : Addr) : Bool :=
  match K.lookup C with
  | some { cls := .type t, dict := _, data := .cls { name := _, bases := _, mro := .ref a :: bm, ns := _, qualname := _, hasDict := true, hasDel := false, slotNames := _, subclasses := _, abstract := _, collection := _ }, slots := ⟨[_, _, _, _, some (.builtin id), _]⟩ } => t == "type" && (a == C && (id == "ValueError.__new__" && PySem.HandSPX.refsVE bm))
  | _ => false
theorem excB_ok {K : PySem.W.Frag} {C : Addr} (h : excB K C = true) : ∃ nm q N bs bm sn sub ab col dd k0 k1 k2 k3 k5, K.lookup C = some (excClassObj nm q C N bs bm true sn sub ab col dd k0 k1 k2 k3 k5 "ValueError.__new__") ∧ PySem.HandSPX.refsVE bm = true := by
  unfold excB at h
  split at h
  · rename_i e
    simp only [Bool.and_eq_true, beq_iff_eq] at h
    obtain ⟨rfl, rfl, rfl, hv⟩ := h
    exact ⟨_, _, _, _, _, _, _, _, _, _, _, _, _, _, _, e, hv⟩
  · cases h
def intB (K : PySem.W.Frag) (x : Str) (i : Int) : Bool :=
  match PySem.W.nsIn K mainGlobals x with
  | some (some (.int j _)) => decide (j = i)
  | _ => false
theorem intB_ok {K : PySem.W.Frag} {x : Str} {i : Int} (h : intB K x i = true) : ∃ t, PySem.W.nsIn K mainGlobals x = some (some (.int i t)) := by
  unfold intB at h
  split at h
  · rename_i e
    have := of_decide_eq_true h
    subst this
    exact ⟨_, e⟩
  · cases h
def strB (K : PySem.W.Frag) (x y : Str) : Bool :=
  match PySem.W.nsIn K mainGlobals x with
  | some (some (.str z _)) => decide (z = y)
  | _ => false
theorem strB_ok {K : PySem.W.Frag} {x y : Str} (h : strB K x y = true) : ∃ t, PySem.W.nsIn K mainGlobals x = some (some (.str y t)) := by
  unfold strB at h
  split at h
  · rename_i e
    have := of_decide_eq_true h
    subst this
    exact ⟨_, e⟩
  · cases h
def exL_0 (K : PySem.W.Frag) : List Bool := [
  He.eqO (PySem.W.nsIn K mainGlobals "isinstance") (some none),
  He.eqO (PySem.W.nsIn K mainGlobals "len") (some none),
  He.eqO (PySem.W.nsIn K mainGlobals "list") (some none),
  He.eqO (PySem.W.nsIn K mainGlobals "range") (some none),
  He.eqO (PySem.W.nsIn K mainGlobals "str") (some none),
  He.eqO (PySem.W.nsIn K mainGlobals "_law_purse") (some (some (.ref (He.ga K "_law_purse")))),
  He.eqO (PySem.W.nsIn K mainGlobals "_law_draw") (some (some (.ref (He.ga K "_law_draw")))),
  He.eqO (PySem.W.nsIn K mainGlobals "sum") (some none),
  He.eqO (PySem.W.nsIn K mainGlobals "tuple") (some none),
  He.eqO (PySem.W.nsIn K mainGlobals "int") (some none),
  He.eqO (PySem.W.nsIn K mainGlobals "_law_mixed") (some (some (.ref (He.ga K "_law_mixed")))),
  He.eqO (PySem.W.nsIn K mainGlobals "_law_names") (some (some (.ref (He.ga K "_law_names")))),
  He.eqO (PySem.W.nsIn K mainGlobals "_law_atom") (some (some (.ref (He.ga K "_law_atom")))),
  He.eqO (PySem.W.nsIn K mainGlobals "_law_end") (some (some (.ref (He.ga K "_law_end")))),
  He.eqO (PySem.W.nsIn K mainGlobals "_law_grown") (some (some (.ref (He.ga K "_law_grown")))),
  He.eqO (PySem.W.nsIn K mainGlobals "_law_whole_row") (some (some (.ref (He.ga K "_law_whole_row")))),
  He.eqO (PySem.W.nsIn K mainGlobals "_law_module") (some (some (.ref (He.ga K "_law_module")))),
  He.eqO (PySem.W.nsIn K mainGlobals "_law_deep") (some (some (.ref (He.ga K "_law_deep")))),
  He.eqO (PySem.W.nsIn K mainGlobals "enumerate") (some none),
  He.eqO (PySem.W.nsIn K mainGlobals "bool") (some none),
  He.eqO (PySem.W.nsIn K mainGlobals "_law_is_atom") (some (some (.ref (He.ga K "_law_is_atom")))),
  He.eqO (PySem.W.nsIn K mainGlobals "_law_is_name") (some (some (.ref (He.ga K "_law_is_name")))),
  He.eqO (PySem.W.nsIn K mainGlobals "_law_is_signs") (some (some (.ref (He.ga K "_law_is_signs")))),
  He.eqO (PySem.W.nsIn K mainGlobals "_law_fits") (some (some (.ref (He.ga K "_law_fits")))),
  He.eqO (PySem.W.nsIn K mainGlobals "_law_under") (some (some (.ref (He.ga K "_law_under")))),
  He.eqO (PySem.W.nsIn K mainGlobals "_law_all") (some (some (.ref (He.ga K "_law_all")))),
  He.eqO (PySem.W.nsIn K mainGlobals "_law_words") (some (some (.ref (He.ga K "_law_words")))),
  He.eqO (PySem.W.nsIn K mainGlobals "_frame_wrong") (some (some (.ref (He.ga K "_frame_wrong")))),
  strB K "SMALL" "abcdefghijklmnopqrstuvwxyz",
  He.eqO (PySem.W.nsIn K mainGlobals "is_name") (some (some (.ref (He.ga K "is_name")))),
  He.eqO (PySem.W.nsIn K mainGlobals "all") (some none),
  He.eqO (PySem.W.nsIn K mainGlobals "set") (some none),
  intB K "MOST_DOORS" 8,
  He.eqO (PySem.W.nsIn K mainGlobals "_are_doors") (some (some (.ref (He.ga K "_are_doors")))),
  He.eqO (PySem.W.nsIn K mainGlobals "_head_wrong") (some (some (.ref (He.ga K "_head_wrong")))),
  intB K "MOST_ROWS" 60,
  He.eqO (PySem.W.nsIn K mainGlobals "_is_row") (some (some (.ref (He.ga K "_is_row")))),
  He.eqO (PySem.W.nsIn K mainGlobals "_rows_wrong") (some (some (.ref (He.ga K "_rows_wrong")))),
  He.eqO (PySem.W.nsIn K mainGlobals "outer_wrong") (some (some (.ref (He.ga K "outer_wrong")))),
  He.eqO (PySem.W.nsIn K mainGlobals "targets_of") (some (some (.ref (He.ga K "targets_of"))))]
def exL_1 (K : PySem.W.Frag) : List Bool := [
  He.eqO (PySem.W.nsIn K mainGlobals "flows_of") (some (some (.ref (He.ga K "flows_of")))),
  He.eqO (PySem.W.nsIn K mainGlobals "_outs_wrong") (some (some (.ref (He.ga K "_outs_wrong")))),
  intB K "MOST_EXPRESSIONS" 200,
  intB K "MOST_WITHIN" 8,
  He.eqO (PySem.W.nsIn K mainGlobals "NAME_SPOTS") (some (some (.ref (He.ga K "NAME_SPOTS")))),
  tabB K (He.ga K "NAME_SPOTS") kvs_NAME_SPOTS,
  He.eqO (PySem.W.nsIn K mainGlobals "PART_SPOTS") (some (some (.ref (He.ga K "PART_SPOTS")))),
  tabB K (He.ga K "PART_SPOTS") kvs_PART_SPOTS,
  He.eqO (PySem.W.nsIn K mainGlobals "SIZES") (some (some (.ref (He.ga K "SIZES")))),
  tabB K (He.ga K "SIZES") kvs_SIZES,
  He.eqO (PySem.W.nsIn K mainGlobals "is_whole") (some (some (.ref (He.ga K "is_whole")))),
  He.eqO (PySem.W.nsIn K mainGlobals "_num_by_form") (some (some (.ref (He.ga K "_num_by_form")))),
  He.eqO (PySem.W.nsIn K mainGlobals "_truth_by_form") (some (some (.ref (He.ga K "_truth_by_form")))),
  He.eqO (PySem.W.nsIn K mainGlobals "_flow_by_form") (some (some (.ref (He.ga K "_flow_by_form")))),
  He.eqO (PySem.W.nsIn K mainGlobals "_then_by_form") (some (some (.ref (He.ga K "_then_by_form")))),
  He.eqO (PySem.W.nsIn K mainGlobals "_when_by_form") (some (some (.ref (He.ga K "_when_by_form")))),
  He.eqO (PySem.W.nsIn K mainGlobals "is_signs") (some (some (.ref (He.ga K "is_signs")))),
  He.eqO (PySem.W.nsIn K mainGlobals "_beats_by_form") (some (some (.ref (He.ga K "_beats_by_form")))),
  He.eqO (PySem.W.nsIn K mainGlobals "_call_by_form") (some (some (.ref (He.ga K "_call_by_form")))),
  He.eqO (PySem.W.nsIn K mainGlobals "OWN_FORMS") (some (some (.ref (He.ga K "OWN_FORMS")))),
  He.eqO (PySem.W.nsIn K (He.ga K "OWN_FORMS") "num") (some (some (.ref (He.ga K "_num_by_form")))),
  He.eqO (PySem.W.nsIn K (He.ga K "OWN_FORMS") "truth") (some (some (.ref (He.ga K "_truth_by_form")))),
  He.eqO (PySem.W.nsIn K (He.ga K "OWN_FORMS") "flow") (some (some (.ref (He.ga K "_flow_by_form")))),
  He.eqO (PySem.W.nsIn K (He.ga K "OWN_FORMS") "then") (some (some (.ref (He.ga K "_then_by_form")))),
  He.eqO (PySem.W.nsIn K (He.ga K "OWN_FORMS") "when") (some (some (.ref (He.ga K "_when_by_form")))),
  He.eqO (PySem.W.nsIn K (He.ga K "OWN_FORMS") "merge") (some (some (.ref (He.ga K "_flow_by_form")))),
  He.eqO (PySem.W.nsIn K (He.ga K "OWN_FORMS") "beats") (some (some (.ref (He.ga K "_beats_by_form")))),
  He.eqO (PySem.W.nsIn K (He.ga K "OWN_FORMS") "call") (some (some (.ref (He.ga K "_call_by_form")))),
  decide (¬ (He.ga K "_truth_by_form") = (He.ga K "_num_by_form")),
  decide (¬ (He.ga K "_flow_by_form") = (He.ga K "_num_by_form")),
  decide (¬ (He.ga K "_flow_by_form") = (He.ga K "_truth_by_form")),
  decide (¬ (He.ga K "_then_by_form") = (He.ga K "_num_by_form")),
  decide (¬ (He.ga K "_then_by_form") = (He.ga K "_truth_by_form")),
  decide (¬ (He.ga K "_then_by_form") = (He.ga K "_flow_by_form")),
  decide (¬ (He.ga K "_when_by_form") = (He.ga K "_num_by_form")),
  decide (¬ (He.ga K "_when_by_form") = (He.ga K "_truth_by_form")),
  decide (¬ (He.ga K "_when_by_form") = (He.ga K "_flow_by_form")),
  decide (¬ (He.ga K "_when_by_form") = (He.ga K "_then_by_form")),
  decide (¬ (He.ga K "_beats_by_form") = (He.ga K "_num_by_form")),
  decide (¬ (He.ga K "_beats_by_form") = (He.ga K "_truth_by_form"))]
def exL_2 (K : PySem.W.Frag) : List Bool := [
  decide (¬ (He.ga K "_beats_by_form") = (He.ga K "_flow_by_form")),
  decide (¬ (He.ga K "_beats_by_form") = (He.ga K "_then_by_form")),
  decide (¬ (He.ga K "_beats_by_form") = (He.ga K "_when_by_form")),
  decide (¬ (He.ga K "_call_by_form") = (He.ga K "_num_by_form")),
  decide (¬ (He.ga K "_call_by_form") = (He.ga K "_truth_by_form")),
  decide (¬ (He.ga K "_call_by_form") = (He.ga K "_flow_by_form")),
  decide (¬ (He.ga K "_call_by_form") = (He.ga K "_then_by_form")),
  decide (¬ (He.ga K "_call_by_form") = (He.ga K "_when_by_form")),
  decide (¬ (He.ga K "_call_by_form") = (He.ga K "_beats_by_form")),
  He.eqO (PySem.W.nsIn K mainGlobals "_own_parts") (some (some (.ref (He.ga K "_own_parts")))),
  He.eqO (PySem.W.nsIn K mainGlobals "ALL_PARTS") (some (some (.ref (He.ga K "ALL_PARTS")))),
  tabB K (He.ga K "ALL_PARTS") kvs_ALL_PARTS,
  He.eqO (PySem.W.nsIn K mainGlobals "_all_parts") (some (some (.ref (He.ga K "_all_parts")))),
  He.eqO (PySem.W.nsIn K mainGlobals "many_fitting") (some (some (.ref (He.ga K "many_fitting")))),
  He.eqO (PySem.W.nsIn K mainGlobals "many_right") (some (some (.ref (He.ga K "many_right")))),
  He.eqO (PySem.W.nsIn K mainGlobals "_looked_at") (some (some (.ref (He.ga K "_looked_at")))),
  He.eqO (PySem.W.nsIn K mainGlobals "check_module") (some (some (.ref (He.ga K "check_module")))),
  He.eqO (PySem.W.nsIn K mainGlobals "flows") (some (some (.ref (He.ga K "flows")))),
  He.eqO (PySem.W.nsIn K mainGlobals "_law_flows") (some (some (.ref (He.ga K "_law_flows")))),
  He.eqO (PySem.W.nsIn K mainGlobals "_law_odd") (some (some (.ref (He.ga K "_law_odd")))),
  He.eqO (PySem.W.nsIn K mainGlobals "_law_there") (some (some (.ref (He.ga K "_law_there")))),
  He.eqO (PySem.W.nsIn K mainGlobals "ValueError") (some none),
  He.eqO (PySem.W.nsIn K mainGlobals "is_spot") (some (some (.ref (He.ga K "is_spot")))),
  He.eqO (PySem.W.nsIn K mainGlobals "parts_of") (some (some (.ref (He.ga K "parts_of")))),
  He.eqO (PySem.W.nsIn K mainGlobals "part_at") (some (some (.ref (He.ga K "part_at")))),
  He.eqO (PySem.W.nsIn K mainGlobals "_found") (some (some (.ref (He.ga K "_found")))),
  He.eqO (PySem.W.nsIn K mainGlobals "copied_e") (some (some (.ref (He.ga K "copied_e")))),
  He.eqO (PySem.W.nsIn K mainGlobals "NoPlace") (some (some (.ref (He.ga K "NoPlace")))),
  decide (PySem.W.subIn K (.ref (He.ga K "NoPlace")) (.type "BaseException") = some true),
  decide (PySem.W.typeIn K (.ref (He.ga K "NoPlace")) = some (.type "type")),
  He.eqO (PySem.W.nsIn K mainGlobals "dict") (some none),
  He.eqO (PySem.W.nsIn K mainGlobals "fresh") (some (some (.ref (He.ga K "fresh")))),
  excB K (He.ga K "NoPlace"),
  He.eqO (PySem.W.findIn K (.ref (He.ga K "NoPlace")) "__init__") (some (some (.ref (He.ma K (He.ga K "NoPlace") "__init__")))),
  decide (PySem.W.typeIn K (.ref (He.ma K (He.ga K "NoPlace") "__init__")) = some (.type "function")),
  He.eqO (PySem.W.findIn K (.ref (He.ga K "NoPlace")) "place") (some none),
  He.eqO (PySem.W.findIn K (.ref (He.ga K "NoPlace")) "__setattr__") (some (some (.builtin "object.__setattr__"))),
  PySem.W.keepIn K (.ref (He.ga K "NoPlace")),
  He.eqO (PySem.W.nsIn K mainGlobals "e_at") (some (some (.ref (He.ga K "e_at")))),
  He.eqO (PySem.W.nsIn K mainGlobals "LoomError") (some (some (.ref (He.ga K "LoomError"))))]
def exL_3 (K : PySem.W.Frag) : List Bool := [
  decide (PySem.W.subIn K (.ref (He.ga K "LoomError")) (.type "BaseException") = some true),
  decide (PySem.W.typeIn K (.ref (He.ga K "LoomError")) = some (.type "type")),
  He.eqO (PySem.W.specialIn K (.builtin "object.__class__") "__get__") (some (some (.builtin "getset_descriptor.__get__"))),
  decide (PySem.W.takesIn K (.builtin "object.__class__") = some true),
  He.eqO (PySem.W.findIn K (.ref (He.ga K "LoomError")) "__getattribute__") (some (some (.builtin "BaseException.__getattribute__"))),
  He.eqO (PySem.W.findIn K (.ref (He.ga K "LoomError")) "__getattr__") (some none),
  PySem.W.hasDictIn K (He.ga K "LoomError"),
  He.eqO (PySem.W.findIn K (.ref (He.ga K "LoomError")) "__class__") (some (some (.builtin "object.__class__"))),
  decide (PySem.W.mroIn K (He.ga K "LoomError") (.type "object") = some true),
  decide (PySem.W.subIn K (.ref (He.ga K "LoomError")) (.type "ValueError") = some true),
  He.eqO (PySem.W.nsIn K mainGlobals "NoModule") (some (some (.ref (He.ga K "NoModule")))),
  decide (PySem.W.subIn K (.ref (He.ga K "NoModule")) (.type "BaseException") = some true),
  decide (PySem.W.typeIn K (.ref (He.ga K "NoModule")) = some (.type "type")),
  He.eqO (PySem.W.findIn K (.ref (He.ga K "NoModule")) "__getattribute__") (some (some (.builtin "BaseException.__getattribute__"))),
  He.eqO (PySem.W.findIn K (.ref (He.ga K "NoModule")) "__getattr__") (some none),
  PySem.W.hasDictIn K (He.ga K "NoModule"),
  He.eqO (PySem.W.findIn K (.ref (He.ga K "NoModule")) "__class__") (some (some (.builtin "object.__class__"))),
  decide (PySem.W.mroIn K (He.ga K "NoModule") (.type "object") = some true),
  decide (PySem.W.subIn K (.ref (He.ga K "NoModule")) (.type "ValueError") = some true),
  He.eqO (PySem.W.findIn K (.ref (He.ga K "NoPlace")) "__getattribute__") (some (some (.builtin "BaseException.__getattribute__"))),
  He.eqO (PySem.W.findIn K (.ref (He.ga K "NoPlace")) "__getattr__") (some none),
  PySem.W.hasDictIn K (He.ga K "NoPlace"),
  He.eqO (PySem.W.findIn K (.ref (He.ga K "NoPlace")) "__class__") (some (some (.builtin "object.__class__"))),
  decide (PySem.W.mroIn K (He.ga K "NoPlace") (.type "object") = some true),
  decide (PySem.W.subIn K (.ref (He.ga K "NoPlace")) (.type "ValueError") = some true),
  decide (PySem.W.subIn K (.ref (He.ga K "NoPlace")) (.ref (He.ga K "LoomError")) = some true),
  decide (PySem.W.subIn K (.ref (He.ga K "NoPlace")) (.ref (He.ga K "NoModule")) = some false),
  decide (PySem.W.subIn K (.ref (He.ga K "NoPlace")) (.ref (He.ga K "NoPlace")) = some true),
  He.eqO (PySem.W.nsIn K mainGlobals "_law_refused") (some (some (.ref (He.ga K "_law_refused")))),
  He.eqO (PySem.W.nsIn K mainGlobals "_law_marked") (some (some (.ref (He.ga K "_law_marked")))),
  valB K (.tuple []) (.ref (e0A K)),
  He.eqO (PySem.W.nsIn K mainGlobals "_walk_into") (some (some (.ref (He.ga K "_walk_into")))),
  He.eqO (PySem.W.nsIn K mainGlobals "walk") (some (some (.ref (He.ga K "walk")))),
  He.eqO (PySem.W.nsIn K mainGlobals "places") (some (some (.ref (He.ga K "places")))),
  He.eqO (PySem.W.nsIn K mainGlobals "law") (some (some (.ref (He.ga K "law"))))]
def exL (K : PySem.W.Frag) : List Bool := exL_0 K ++ exL_1 K ++ exL_2 K ++ exL_3 K
def exB (K : PySem.W.Frag) : Bool := (exL K).all id
theorem exget {K : PySem.W.Frag} (h : exB K = true) (i : Nat) {b : Bool} (hi : (exL K)[i]? = some b) : b = true := List.all_eq_true.mp h b (List.mem_of_getElem? hi)
abbrev hkX : PySem.W.Hook := He.hookX 5 [] ddL tbL [] exB
def obX (s : PySem.W.SharedT) : He.AlX := He.obsX 5 [] ddL tbL [] exB (HandSHeadRun.getT s)
theorem obX_eq (s : PySem.W.SharedT) : obX s = hkX.obs s.abs := He.obsX_eq (HandSHeadRun.getT_eq s)
abbrev RX : PySem.W.OpenRow := PySem.W.OpenLaw.row PySem.Challenge.rw_clockloom_k11_places_of_modules
abbrev QX : PySem.Program := PySem.W.view RX.prog [88]
noncomputable def wX (w : World) := HandSHeadRun.wholeF (fun p => HandSHeadRun.stepQ (HandSHeadRun.denQ HandSHeadRun.tabQ) p w) HandSHeadRun.fenceQ 14000 RX.prog
theorem comb3 {a b c d e : Type} {W : Option a} {f : a -> b} {g : a -> c} {h : a -> d × e} {x : b} {y : c} {z : d × e} (e1 : Option.map (fun u => (f u, g u)) W = some (x, y)) (e2 : Option.map (fun u => (h u).1) W = some z.1) (e3 : Option.map (fun u => (h u).2) W = some z.2) : Option.map (fun u => (f u, g u, h u)) W = some (x, y, z) := by
  cases W with
  | none => cases e1
  | some u =>
    have r1 := Option.some.inj e1
    have r2 := Option.some.inj e2
    have r3 := Option.some.inj e3
    show some (f u, g u, h u) = _
    rw [show f u = x from congrArg Prod.fst r1, show g u = y from congrArg Prod.snd r1, show h u = z from Prod.ext r2 r3]
set_option maxHeartbeats 0 in
theorem runA_0 (w : World) : (fun w : World => Option.map (fun x => (HandSHeadRun.looksF RX.prog x.fst.heap x.snd.abs, HandSHeadRun.seenQ QX nm_all (PySem.importedModules RX.prog.main.body) (fun s => PySem.W.xlAt QX [] s && PySem.W.recOk RX.records s) x.snd.abs)) (wX w) = some (true, PySem.W.openGood QX nm_all)) (w.withFollow "special-get-raises" false) := by
  kernel_rfl
set_option maxHeartbeats 0 in
theorem runA_1 (w : World) : (fun w : World => Option.map (fun x => (HandSHeadRun.looksF RX.prog x.fst.heap x.snd.abs, HandSHeadRun.seenQ QX nm_all (PySem.importedModules RX.prog.main.body) (fun s => PySem.W.xlAt QX [] s && PySem.W.recOk RX.records s) x.snd.abs)) (wX w) = some (true, PySem.W.openGood QX nm_all)) (w.withFollow "special-get-raises" true) := by
  kernel_rfl
set_option maxHeartbeats 0 in
theorem runA (w : World) : Option.map (fun x => (HandSHeadRun.looksF RX.prog x.fst.heap x.snd.abs, HandSHeadRun.seenQ QX nm_all (PySem.importedModules RX.prog.main.body) (fun s => PySem.W.xlAt QX [] s && PySem.W.recOk RX.records s) x.snd.abs)) (wX w) = some (true, PySem.W.openGood QX nm_all) := PySem.W.byRow2 "special-get-raises" (P := fun w : World => Option.map (fun x => (HandSHeadRun.looksF RX.prog x.fst.heap x.snd.abs, HandSHeadRun.seenQ QX nm_all (PySem.importedModules RX.prog.main.body) (fun s => PySem.W.xlAt QX [] s && PySem.W.recOk RX.records s) x.snd.abs)) (wX w) = some (true, PySem.W.openGood QX nm_all)) runA_0 runA_1 w
set_option maxHeartbeats 0 in
theorem runB_0 (w : World) : (fun w : World => Option.map (fun x => (obX x.snd).1) (wX w) = some (PySem.W.Hook.val hkX w : He.AlX).1) (w.withFollow "special-get-raises" false) := by
  kernel_rfl
set_option maxHeartbeats 0 in
theorem runB_1 (w : World) : (fun w : World => Option.map (fun x => (obX x.snd).1) (wX w) = some (PySem.W.Hook.val hkX w : He.AlX).1) (w.withFollow "special-get-raises" true) := by
  kernel_rfl
set_option maxHeartbeats 0 in
theorem runB (w : World) : Option.map (fun x => (obX x.snd).1) (wX w) = some (PySem.W.Hook.val hkX w : He.AlX).1 := PySem.W.byRow2 "special-get-raises" (P := fun w : World => Option.map (fun x => (obX x.snd).1) (wX w) = some (PySem.W.Hook.val hkX w : He.AlX).1) runB_0 runB_1 w
set_option maxHeartbeats 0 in
theorem runC_0 (w : World) : (fun w : World => Option.map (fun x => (obX x.snd).2) (wX w) = some (PySem.W.Hook.val hkX w : He.AlX).2) (w.withFollow "special-get-raises" false) := by
  kernel_rfl
set_option maxHeartbeats 0 in
theorem runC_1 (w : World) : (fun w : World => Option.map (fun x => (obX x.snd).2) (wX w) = some (PySem.W.Hook.val hkX w : He.AlX).2) (w.withFollow "special-get-raises" true) := by
  kernel_rfl
set_option maxHeartbeats 0 in
theorem runC (w : World) : Option.map (fun x => (obX x.snd).2) (wX w) = some (PySem.W.Hook.val hkX w : He.AlX).2 := PySem.W.byRow2 "special-get-raises" (P := fun w : World => Option.map (fun x => (obX x.snd).2) (wX w) = some (PySem.W.Hook.val hkX w : He.AlX).2) runC_0 runC_1 w
theorem runX (w : World) : HandSHeadRun.RunEqI RX QX hkX obX 14000 nm_all w := comb3 (runA w) (runB w) (runC w)
set_option maxHeartbeats 0 in
theorem factsX {l : PySem.W.OpenLaw} {w : World} {K : PySem.W.Frag} {h : Heap} {mg : Str → Option Value} {fa : Addr} (X : K.In h) (G : h.Ns mainGlobals mg) (hfa : mg "law" = some (.ref fa)) (cc : He.SaysX [] ddL tbL [] exB w h K) :
    ∀ base : Heap, K.In base → base.Ns mainGlobals mg → WX.LawAt l.prog w K mg base fa 63 := by
  have c : exB K = true := cc.more
  have D : He.SaysD [] ddL K := cc.t.d
  intro base _ _
  have efa := hfa.symm.trans (PySem.W.mg_of X G (He.eqO_ok (exget c 154 rfl)))
  cases efa
  have m_isinstance : mg "isinstance" = none := PySem.W.mg_none_of X G (He.eqO_ok (exget c 0 rfl))
  have m_len : mg "len" = none := PySem.W.mg_none_of X G (He.eqO_ok (exget c 1 rfl))
  have m_list : mg "list" = none := PySem.W.mg_none_of X G (He.eqO_ok (exget c 2 rfl))
  have m_range : mg "range" = none := PySem.W.mg_none_of X G (He.eqO_ok (exget c 3 rfl))
  have m_str : mg "str" = none := PySem.W.mg_none_of X G (He.eqO_ok (exget c 4 rfl))
  obtain ⟨_, ⟨_, _, dV0, kV0, _, _, _, _, _, _, rfl, l0, e0, dv0, kw0⟩, k0⟩ := D.def_ 0 (d := dd_0) rfl
  rcases dv0 with ⟨_, rfl⟩ | ⟨z, _⟩
  rotate_left
  · exact absurd rfl z
  have F0 := fun_mk (st := s_law_purse) l0 e0 k0
  have a__law_purse : PySem.W.nsIn K mainGlobals "_law_purse" = some (some (.ref (He.ga K "_law_purse"))) := (He.eqO_ok (exget c 5 rfl))
  have g__law_purse : mg "_law_purse" = some (.ref (He.ga K "_law_purse")) := PySem.W.mg_of X G a__law_purse
  have b0 := F0.binds (ps := ["_law_script"]) fun _ _ _ _ _ _ us hl => match us, hl with | [_], _ => rfl
  have c_law_purse : Cal l.prog w K mg base CX0 1 (He.ga K "_law_purse") _ "_law_purse" ["_law_script"] (sp_law_purse K) := ⟨ok_law_purse F0, g__law_purse, k0, b0⟩
  obtain ⟨_, ⟨_, _, dV1, kV1, _, _, _, _, _, _, rfl, l1, e1, dv1, kw1⟩, k1⟩ := D.def_ 1 (d := dd_1) rfl
  rcases dv1 with ⟨_, rfl⟩ | ⟨z, _⟩
  rotate_left
  · exact absurd rfl z
  have F1 := fun_mk (st := s_law_draw) l1 e1 k1
  have a__law_draw : PySem.W.nsIn K mainGlobals "_law_draw" = some (some (.ref (He.ga K "_law_draw"))) := (He.eqO_ok (exget c 6 rfl))
  have g__law_draw : mg "_law_draw" = some (.ref (He.ga K "_law_draw")) := PySem.W.mg_of X G a__law_draw
  have b1 := F1.binds (ps := ["_law_purse_here", "_law_out_of"]) fun _ _ _ _ _ _ us hl => match us, hl with | [_, _], _ => rfl
  have c_law_draw : Cal l.prog w K mg base CX0 1 (He.ga K "_law_draw") _ "_law_draw" ["_law_purse_here", "_law_out_of"] (sp_law_draw K) := ⟨ok_law_draw F1 m_len, g__law_draw, k1, b1⟩
  have m_sum : mg "sum" = none := PySem.W.mg_none_of X G (He.eqO_ok (exget c 7 rfl))
  have m_tuple : mg "tuple" = none := PySem.W.mg_none_of X G (He.eqO_ok (exget c 8 rfl))
  have m_int : mg "int" = none := PySem.W.mg_none_of X G (He.eqO_ok (exget c 9 rfl))
  obtain ⟨_, ⟨_, _, dV2, kV2, _, _, _, _, _, _, rfl, l2, e2, dv2, kw2⟩, k2⟩ := D.def_ 2 (d := dd_2) rfl
  rcases dv2 with ⟨_, rfl⟩ | ⟨z, _⟩
  rotate_left
  · exact absurd rfl z
  have F2 := fun_mk (st := s_law_mixed) l2 e2 k2
  have a__law_mixed : PySem.W.nsIn K mainGlobals "_law_mixed" = some (some (.ref (He.ga K "_law_mixed"))) := (He.eqO_ok (exget c 10 rfl))
  have g__law_mixed : mg "_law_mixed" = some (.ref (He.ga K "_law_mixed")) := PySem.W.mg_of X G a__law_mixed
  have b2 := F2.binds (ps := ["_law_purse_here", "_law_some"]) fun _ _ _ _ _ _ us hl => match us, hl with | [_, _], _ => rfl
  have c_law_mixed : Cal l.prog w K mg base CX0 2 (He.ga K "_law_mixed") _ "_law_mixed" ["_law_purse_here", "_law_some"] (sp_law_mixed K) := ⟨ok_law_mixed F2 m_len m_list c_law_draw, g__law_mixed, k2, b2⟩
  obtain ⟨_, ⟨_, _, dV3, kV3, _, _, _, _, _, _, rfl, l3, e3, dv3, kw3⟩, k3⟩ := D.def_ 3 (d := dd_3) rfl
  rcases dv3 with ⟨_, rfl⟩ | ⟨z, _⟩
  rotate_left
  · exact absurd rfl z
  have F3 := fun_mk (st := s_law_names) l3 e3 k3
  have a__law_names : PySem.W.nsIn K mainGlobals "_law_names" = some (some (.ref (He.ga K "_law_names"))) := (He.eqO_ok (exget c 11 rfl))
  have g__law_names : mg "_law_names" = some (.ref (He.ga K "_law_names")) := PySem.W.mg_of X G a__law_names
  have b3 := F3.binds (ps := ["_law_purse_here", "_law_many"]) fun _ _ _ _ _ _ us hl => match us, hl with | [_, _], _ => rfl
  have c_law_names : Cal l.prog w K mg base CX0 3 (He.ga K "_law_names") _ "_law_names" ["_law_purse_here", "_law_many"] (sp_law_names K) := ⟨ok_law_names F3 m_int m_range c_law_draw c_law_mixed, g__law_names, k3, b3⟩
  obtain ⟨_, ⟨_, _, dV4, kV4, _, _, _, _, _, _, rfl, l4, e4, dv4, kw4⟩, k4⟩ := D.def_ 4 (d := dd_4) rfl
  rcases dv4 with ⟨_, rfl⟩ | ⟨z, _⟩
  rotate_left
  · exact absurd rfl z
  have F4 := fun_mk (st := s_law_atom) l4 e4 k4
  have a__law_atom : PySem.W.nsIn K mainGlobals "_law_atom" = some (some (.ref (He.ga K "_law_atom"))) := (He.eqO_ok (exget c 12 rfl))
  have g__law_atom : mg "_law_atom" = some (.ref (He.ga K "_law_atom")) := PySem.W.mg_of X G a__law_atom
  have b4 := F4.binds (ps := ["_law_purse_here"]) fun _ _ _ _ _ _ us hl => match us, hl with | [_], _ => rfl
  have c_law_atom : Cal l.prog w K mg base CX0 2 (He.ga K "_law_atom") _ "_law_atom" ["_law_purse_here"] (sp_law_atom K) := ⟨ok_law_atom F4 c_law_draw, g__law_atom, k4, b4⟩
  obtain ⟨_, ⟨_, _, dV5, kV5, _, _, _, _, _, _, rfl, l5, e5, dv5, kw5⟩, k5⟩ := D.def_ 5 (d := dd_5) rfl
  rcases dv5 with ⟨_, rfl⟩ | ⟨z, _⟩
  rotate_left
  · exact absurd rfl z
  have F5 := fun_mk (st := s_law_end) l5 e5 k5
  have a__law_end : PySem.W.nsIn K mainGlobals "_law_end" = some (some (.ref (He.ga K "_law_end"))) := (He.eqO_ok (exget c 13 rfl))
  have g__law_end : mg "_law_end" = some (.ref (He.ga K "_law_end")) := PySem.W.mg_of X G a__law_end
  have b5 := F5.binds (ps := ["_law_purse_here", "_law_some"]) fun _ _ _ _ _ _ us hl => match us, hl with | [_, _], _ => rfl
  have c_law_end : Cal l.prog w K mg base CX0 3 (He.ga K "_law_end") _ "_law_end" ["_law_purse_here", "_law_some"] (sp_law_end K) := ⟨ok_law_end F5 m_len m_range c_law_draw c_law_atom, g__law_end, k5, b5⟩
  obtain ⟨_, ⟨_, _, dV6, kV6, _, _, _, _, _, _, rfl, l6, e6, dv6, kw6⟩, k6⟩ := D.def_ 6 (d := dd_6) rfl
  rcases dv6 with ⟨_, rfl⟩ | ⟨z, _⟩
  rotate_left
  · exact absurd rfl z
  have F6 := fun_mk (st := s_law_grown) l6 e6 k6
  have a__law_grown : PySem.W.nsIn K mainGlobals "_law_grown" = some (some (.ref (He.ga K "_law_grown"))) := (He.eqO_ok (exget c 14 rfl))
  have g__law_grown : mg "_law_grown" = some (.ref (He.ga K "_law_grown")) := PySem.W.mg_of X G a__law_grown
  have b6 := F6.binds (ps := ["_law_purse_here", "_law_some", "_law_deep_here"]) fun _ _ _ _ _ _ us hl => match us, hl with | [_, _, _], _ => rfl
  have c_law_grown : Cal l.prog w K mg base CX0 8 (He.ga K "_law_grown") _ "_law_grown" ["_law_purse_here", "_law_some", "_law_deep_here"] (sp_law_grown K) := ⟨ok_law_grown g__law_grown F6 m_len c_law_draw c_law_end c_law_atom, g__law_grown, k6, b6⟩
  obtain ⟨_, ⟨_, _, dV7, kV7, _, _, _, _, _, _, rfl, l7, e7, dv7, kw7⟩, k7⟩ := D.def_ 7 (d := dd_7) rfl
  rcases dv7 with ⟨_, rfl⟩ | ⟨z, _⟩
  rotate_left
  · exact absurd rfl z
  have F7 := fun_mk (st := s_law_whole_row) l7 e7 k7
  have a__law_whole_row : PySem.W.nsIn K mainGlobals "_law_whole_row" = some (some (.ref (He.ga K "_law_whole_row"))) := (He.eqO_ok (exget c 15 rfl))
  have g__law_whole_row : mg "_law_whole_row" = some (.ref (He.ga K "_law_whole_row")) := PySem.W.mg_of X G a__law_whole_row
  have b7 := F7.binds (ps := ["_law_purse_here", "_law_some", "_law_deep_here", "_law_targets"]) fun _ _ _ _ _ _ us hl => match us, hl with | [_, _, _, _], _ => rfl
  have c_law_whole_row : Cal l.prog w K mg base CX0 9 (He.ga K "_law_whole_row") _ "_law_whole_row" ["_law_purse_here", "_law_some", "_law_deep_here", "_law_targets"] (sp_law_whole_row K) := ⟨ok_law_whole_row F7 m_len m_range c_law_draw c_law_grown, g__law_whole_row, k7, b7⟩
  obtain ⟨_, ⟨_, _, dV8, kV8, _, _, _, _, _, _, rfl, l8, e8, dv8, kw8⟩, k8⟩ := D.def_ 8 (d := dd_8) rfl
  rcases dv8 with ⟨_, rfl⟩ | ⟨z, _⟩
  rotate_left
  · exact absurd rfl z
  have F8 := fun_mk (st := s_law_module) l8 e8 k8
  have a__law_module : PySem.W.nsIn K mainGlobals "_law_module" = some (some (.ref (He.ga K "_law_module"))) := (He.eqO_ok (exget c 16 rfl))
  have g__law_module : mg "_law_module" = some (.ref (He.ga K "_law_module")) := PySem.W.mg_of X G a__law_module
  have b8 := F8.binds (ps := ["_law_purse_here"]) fun _ _ _ _ _ _ us hl => match us, hl with | [_], _ => rfl
  have c_law_module : Cal l.prog w K mg base CX0 10 (He.ga K "_law_module") _ "_law_module" ["_law_purse_here"] (sp_law_module K) := ⟨ok_law_module F8 m_range m_sum m_tuple c_law_draw c_law_names c_law_whole_row c_law_mixed, g__law_module, k8, b8⟩
  obtain ⟨_, ⟨_, _, dV9, kV9, _, _, _, _, _, _, rfl, l9, e9, dv9, kw9⟩, k9⟩ := D.def_ 9 (d := dd_9) rfl
  rcases dv9 with ⟨_, rfl⟩ | ⟨z, _⟩
  rotate_left
  · exact absurd rfl z
  have F9 := fun_mk (st := s_law_deep) l9 e9 k9
  have a__law_deep : PySem.W.nsIn K mainGlobals "_law_deep" = some (some (.ref (He.ga K "_law_deep"))) := (He.eqO_ok (exget c 17 rfl))
  have g__law_deep : mg "_law_deep" = some (.ref (He.ga K "_law_deep")) := PySem.W.mg_of X G a__law_deep
  have b9 := F9.binds (ps := ["_law_piece"]) fun _ _ _ _ _ _ us hl => match us, hl with | [_], _ => rfl
  have c_law_deep : Cal l.prog w K mg base CX0 14 (He.ga K "_law_deep") _ "_law_deep" ["_law_piece"] (sp_law_deep K) := ⟨ok_law_deep g__law_deep F9 m_isinstance m_list m_tuple, g__law_deep, k9, b9⟩
  have m_enumerate : mg "enumerate" = none := PySem.W.mg_none_of X G (He.eqO_ok (exget c 18 rfl))
  have m_bool : mg "bool" = none := PySem.W.mg_none_of X G (He.eqO_ok (exget c 19 rfl))
  obtain ⟨_, ⟨_, _, dV10, kV10, _, _, _, _, _, _, rfl, l10, e10, dv10, kw10⟩, k10⟩ := D.def_ 10 (d := dd_10) rfl
  rcases dv10 with ⟨_, rfl⟩ | ⟨z, _⟩
  rotate_left
  · exact absurd rfl z
  have F10 := fun_mk (st := s_law_is_atom) l10 e10 k10
  have a__law_is_atom : PySem.W.nsIn K mainGlobals "_law_is_atom" = some (some (.ref (He.ga K "_law_is_atom"))) := (He.eqO_ok (exget c 20 rfl))
  have g__law_is_atom : mg "_law_is_atom" = some (.ref (He.ga K "_law_is_atom")) := PySem.W.mg_of X G a__law_is_atom
  have b10 := F10.binds (ps := ["_law_piece"]) fun _ _ _ _ _ _ us hl => match us, hl with | [_], _ => rfl
  have c_law_is_atom : Cal l.prog w K mg base CX0 1 (He.ga K "_law_is_atom") _ "_law_is_atom" ["_law_piece"] (sp_law_is_atom K) := ⟨ok_law_is_atom F10 m_bool m_int m_isinstance m_len m_tuple, g__law_is_atom, k10, b10⟩
  obtain ⟨_, ⟨_, _, dV11, kV11, _, _, _, _, _, _, rfl, l11, e11, dv11, kw11⟩, k11⟩ := D.def_ 11 (d := dd_11) rfl
  rcases dv11 with ⟨_, rfl⟩ | ⟨z, _⟩
  rotate_left
  · exact absurd rfl z
  have F11 := fun_mk (st := s_law_is_name) l11 e11 k11
  have a__law_is_name : PySem.W.nsIn K mainGlobals "_law_is_name" = some (some (.ref (He.ga K "_law_is_name"))) := (He.eqO_ok (exget c 21 rfl))
  have g__law_is_name : mg "_law_is_name" = some (.ref (He.ga K "_law_is_name")) := PySem.W.mg_of X G a__law_is_name
  have b11 := F11.binds (ps := ["_law_piece"]) fun _ _ _ _ _ _ us hl => match us, hl with | [_], _ => rfl
  have c_law_is_name : Cal l.prog w K mg base CX0 1 (He.ga K "_law_is_name") _ "_law_is_name" ["_law_piece"] (sp_law_is_name K) := ⟨ok_law_is_name F11 m_isinstance m_len m_str, g__law_is_name, k11, b11⟩
  obtain ⟨_, ⟨_, _, dV12, kV12, _, _, _, _, _, _, rfl, l12, e12, dv12, kw12⟩, k12⟩ := D.def_ 12 (d := dd_12) rfl
  rcases dv12 with ⟨_, rfl⟩ | ⟨z, _⟩
  rotate_left
  · exact absurd rfl z
  have F12 := fun_mk (st := s_law_is_signs) l12 e12 k12
  have a__law_is_signs : PySem.W.nsIn K mainGlobals "_law_is_signs" = some (some (.ref (He.ga K "_law_is_signs"))) := (He.eqO_ok (exget c 22 rfl))
  have g__law_is_signs : mg "_law_is_signs" = some (.ref (He.ga K "_law_is_signs")) := PySem.W.mg_of X G a__law_is_signs
  have b12 := F12.binds (ps := ["_law_piece", "_law_least"]) fun _ _ _ _ _ _ us hl => match us, hl with | [_, _], _ => rfl
  have c_law_is_signs : Cal l.prog w K mg base CX0 1 (He.ga K "_law_is_signs") _ "_law_is_signs" ["_law_piece", "_law_least"] (sp_law_is_signs K) := ⟨ok_law_is_signs F12 m_isinstance m_len m_str, g__law_is_signs, k12, b12⟩
  obtain ⟨_, ⟨_, _, dV13, kV13, _, _, _, _, _, _, rfl, l13, e13, dv13, kw13⟩, k13⟩ := D.def_ 13 (d := dd_13) rfl
  rcases dv13 with ⟨_, rfl⟩ | ⟨z, _⟩
  rotate_left
  · exact absurd rfl z
  have F13 := fun_mk (st := s_law_fits) l13 e13 k13
  have a__law_fits : PySem.W.nsIn K mainGlobals "_law_fits" = some (some (.ref (He.ga K "_law_fits"))) := (He.eqO_ok (exget c 23 rfl))
  have g__law_fits : mg "_law_fits" = some (.ref (He.ga K "_law_fits")) := PySem.W.mg_of X G a__law_fits
  have b13 := F13.binds (ps := ["_law_piece"]) fun _ _ _ _ _ _ us hl => match us, hl with | [_], _ => rfl
  have c_law_fits : Cal l.prog w K mg base CX0 2 (He.ga K "_law_fits") _ "_law_fits" ["_law_piece"] (sp_law_fits K) := ⟨ok_law_fits F13 m_bool m_int m_isinstance m_len m_list m_str m_tuple c_law_is_atom c_law_is_name c_law_is_signs, g__law_fits, k13, b13⟩
  obtain ⟨_, ⟨_, _, dV14, kV14, _, _, _, _, _, _, rfl, l14, e14, dv14, kw14⟩, k14⟩ := D.def_ 14 (d := dd_14) rfl
  rcases dv14 with ⟨_, rfl⟩ | ⟨z, _⟩
  rotate_left
  · exact absurd rfl z
  have F14 := fun_mk (st := s_law_under) l14 e14 k14
  have a__law_under : PySem.W.nsIn K mainGlobals "_law_under" = some (some (.ref (He.ga K "_law_under"))) := (He.eqO_ok (exget c 24 rfl))
  have g__law_under : mg "_law_under" = some (.ref (He.ga K "_law_under")) := PySem.W.mg_of X G a__law_under
  have b14 := F14.binds (ps := ["_law_piece"]) fun _ _ _ _ _ _ us hl => match us, hl with | [_], _ => rfl
  have c_law_under : Cal l.prog w K mg base CX0 1 (He.ga K "_law_under") _ "_law_under" ["_law_piece"] (sp_law_under K) := ⟨ok_law_under F14 m_list, g__law_under, k14, b14⟩
  obtain ⟨_, ⟨_, _, dV15, kV15, _, _, _, _, _, _, rfl, l15, e15, dv15, kw15⟩, k15⟩ := D.def_ 15 (d := dd_15) rfl
  rcases dv15 with ⟨_, rfl⟩ | ⟨z, _⟩
  rotate_left
  · exact absurd rfl z
  have F15 := fun_mk (st := s_law_all) l15 e15 k15
  have a__law_all : PySem.W.nsIn K mainGlobals "_law_all" = some (some (.ref (He.ga K "_law_all"))) := (He.eqO_ok (exget c 25 rfl))
  have g__law_all : mg "_law_all" = some (.ref (He.ga K "_law_all")) := PySem.W.mg_of X G a__law_all
  have b15 := F15.binds (ps := ["_law_body"]) fun _ _ _ _ _ _ us hl => match us, hl with | [_], _ => rfl
  have c_law_all : Cal l.prog w K mg base CX0 3 (He.ga K "_law_all") _ "_law_all" ["_law_body"] (sp_law_all K) := ⟨ok_law_all F15 m_enumerate m_len m_range c_law_fits c_law_under, g__law_all, k15, b15⟩
  obtain ⟨_, ⟨_, _, dV16, kV16, _, _, _, _, _, _, rfl, l16, e16, dv16, kw16⟩, k16⟩ := D.def_ 16 (d := dd_16) rfl
  rcases dv16 with ⟨_, rfl⟩ | ⟨z, _⟩
  rotate_left
  · exact absurd rfl z
  have F16 := fun_mk (st := s_law_words) l16 e16 k16
  have a__law_words : PySem.W.nsIn K mainGlobals "_law_words" = some (some (.ref (He.ga K "_law_words"))) := (He.eqO_ok (exget c 26 rfl))
  have g__law_words : mg "_law_words" = some (.ref (He.ga K "_law_words")) := PySem.W.mg_of X G a__law_words
  have b16 := F16.binds (ps := ["_law_purse_here"]) fun _ _ _ _ _ _ us hl => match us, hl with | [_], _ => rfl
  have c_law_words : Cal l.prog w K mg base CX0 2 (He.ga K "_law_words") _ "_law_words" ["_law_purse_here"] (sp_law_words K) := ⟨ok_law_words F16 m_range m_tuple c_law_draw, g__law_words, k16, b16⟩
  obtain ⟨_, ⟨_, _, dV17, kV17, _, _, _, _, _, _, rfl, l17, e17, dv17, kw17⟩, k17⟩ := D.def_ 17 (d := dd_17) rfl
  rcases dv17 with ⟨_, rfl⟩ | ⟨z, _⟩
  rotate_left
  · exact absurd rfl z
  have F17 := fun_mk (st := s_frame_wrong) l17 e17 k17
  have a__frame_wrong : PySem.W.nsIn K mainGlobals "_frame_wrong" = some (some (.ref (He.ga K "_frame_wrong"))) := (He.eqO_ok (exget c 27 rfl))
  have g__frame_wrong : mg "_frame_wrong" = some (.ref (He.ga K "_frame_wrong")) := PySem.W.mg_of X G a__frame_wrong
  have b17 := F17.binds (ps := ["thing"]) fun _ _ _ _ _ _ us hl => match us, hl with | [_], _ => rfl
  have c_frame_wrong : Cal l.prog w K mg base CX0 1 (He.ga K "_frame_wrong") _ "_frame_wrong" ["thing"] (sp_frame_wrong K) := ⟨ok_frame_wrong F17 m_isinstance m_len m_list m_tuple, g__frame_wrong, k17, b17⟩
  have s_SMALL : ∃ t, mg "SMALL" = some (.str "abcdefghijklmnopqrstuvwxyz" t) := by
    obtain ⟨t, e⟩ := strB_ok (exget c 28 rfl)
    exact ⟨t, PySem.W.mg_of X G e⟩
  obtain ⟨_, ⟨_, _, dV18, kV18, _, _, _, _, _, _, rfl, l18, e18, dv18, kw18⟩, k18⟩ := D.def_ 18 (d := dd_18) rfl
  rcases dv18 with ⟨_, rfl⟩ | ⟨z, _⟩
  rotate_left
  · exact absurd rfl z
  have F18 := fun_mk (st := s_is_name) l18 e18 k18
  have a_is_name : PySem.W.nsIn K mainGlobals "is_name" = some (some (.ref (He.ga K "is_name"))) := (He.eqO_ok (exget c 29 rfl))
  have g_is_name : mg "is_name" = some (.ref (He.ga K "is_name")) := PySem.W.mg_of X G a_is_name
  have b18 := F18.binds (ps := ["thing"]) fun _ _ _ _ _ _ us hl => match us, hl with | [_], _ => rfl
  have c_is_name : Cal l.prog w K mg base CX0 1 (He.ga K "is_name") _ "is_name" ["thing"] (sp_is_name K) := ⟨ok_is_name F18 m_isinstance m_len m_str s_SMALL, g_is_name, k18, b18⟩
  have m_all : mg "all" = none := PySem.W.mg_none_of X G (He.eqO_ok (exget c 30 rfl))
  have m_set : mg "set" = none := PySem.W.mg_none_of X G (He.eqO_ok (exget c 31 rfl))
  have ig_MOST_DOORS : ∃ t, mg "MOST_DOORS" = some (.int 8 t) := by
    obtain ⟨t, e⟩ := intB_ok (exget c 32 rfl)
    exact ⟨t, PySem.W.mg_of X G e⟩
  obtain ⟨_, ⟨_, _, dV19, kV19, _, _, _, _, _, _, rfl, l19, e19, dv19, kw19⟩, k19⟩ := D.def_ 19 (d := dd_19) rfl
  rcases dv19 with ⟨_, rfl⟩ | ⟨z, _⟩
  rotate_left
  · exact absurd rfl z
  have F19 := fun_mk (st := s_are_doors) l19 e19 k19
  have a__are_doors : PySem.W.nsIn K mainGlobals "_are_doors" = some (some (.ref (He.ga K "_are_doors"))) := (He.eqO_ok (exget c 33 rfl))
  have g__are_doors : mg "_are_doors" = some (.ref (He.ga K "_are_doors")) := PySem.W.mg_of X G a__are_doors
  have b19 := F19.binds (ps := ["names"]) fun _ _ _ _ _ _ us hl => match us, hl with | [_], _ => rfl
  have c_are_doors : Cal l.prog w K mg base CX0 3 (He.ga K "_are_doors") _ "_are_doors" ["names"] (sp_are_doors K) := ⟨ok_are_doors F19 m_all m_len m_set ig_MOST_DOORS c_is_name, g__are_doors, k19, b19⟩
  obtain ⟨_, ⟨_, _, dV20, kV20, _, _, _, _, _, _, rfl, l20, e20, dv20, kw20⟩, k20⟩ := D.def_ 20 (d := dd_20) rfl
  rcases dv20 with ⟨_, rfl⟩ | ⟨z, _⟩
  rotate_left
  · exact absurd rfl z
  have F20 := fun_mk (st := s_head_wrong) l20 e20 k20
  have a__head_wrong : PySem.W.nsIn K mainGlobals "_head_wrong" = some (some (.ref (He.ga K "_head_wrong"))) := (He.eqO_ok (exget c 34 rfl))
  have g__head_wrong : mg "_head_wrong" = some (.ref (He.ga K "_head_wrong")) := PySem.W.mg_of X G a__head_wrong
  have b20 := F20.binds (ps := ["thing"]) fun _ _ _ _ _ _ us hl => match us, hl with | [_], _ => rfl
  have c_head_wrong : Cal l.prog w K mg base CX0 4 (He.ga K "_head_wrong") _ "_head_wrong" ["thing"] (sp_head_wrong K) := ⟨ok_head_wrong F20 c_is_name c_are_doors, g__head_wrong, k20, b20⟩
  have ig_MOST_ROWS : ∃ t, mg "MOST_ROWS" = some (.int 60 t) := by
    obtain ⟨t, e⟩ := intB_ok (exget c 35 rfl)
    exact ⟨t, PySem.W.mg_of X G e⟩
  obtain ⟨_, ⟨_, _, dV21, kV21, _, _, _, _, _, _, rfl, l21, e21, dv21, kw21⟩, k21⟩ := D.def_ 21 (d := dd_21) rfl
  rcases dv21 with ⟨_, rfl⟩ | ⟨z, _⟩
  rotate_left
  · exact absurd rfl z
  have F21 := fun_mk (st := s_is_row) l21 e21 k21
  have a__is_row : PySem.W.nsIn K mainGlobals "_is_row" = some (some (.ref (He.ga K "_is_row"))) := (He.eqO_ok (exget c 36 rfl))
  have g__is_row : mg "_is_row" = some (.ref (He.ga K "_is_row")) := PySem.W.mg_of X G a__is_row
  have b21 := F21.binds (ps := ["thing"]) fun _ _ _ _ _ _ us hl => match us, hl with | [_], _ => rfl
  have c_is_row : Cal l.prog w K mg base CX0 2 (He.ga K "_is_row") _ "_is_row" ["thing"] (sp_is_row K) := ⟨ok_is_row F21 m_isinstance m_len m_tuple c_is_name, g__is_row, k21, b21⟩
  obtain ⟨_, ⟨_, _, dV22, kV22, _, _, _, _, _, _, rfl, l22, e22, dv22, kw22⟩, k22⟩ := D.def_ 22 (d := dd_22) rfl
  rcases dv22 with ⟨_, rfl⟩ | ⟨z, _⟩
  rotate_left
  · exact absurd rfl z
  have F22 := fun_mk (st := s_rows_wrong) l22 e22 k22
  have a__rows_wrong : PySem.W.nsIn K mainGlobals "_rows_wrong" = some (some (.ref (He.ga K "_rows_wrong"))) := (He.eqO_ok (exget c 37 rfl))
  have g__rows_wrong : mg "_rows_wrong" = some (.ref (He.ga K "_rows_wrong")) := PySem.W.mg_of X G a__rows_wrong
  have b22 := F22.binds (ps := ["rows"]) fun _ _ _ _ _ _ us hl => match us, hl with | [_], _ => rfl
  have c_rows_wrong : Cal l.prog w K mg base CX0 3 (He.ga K "_rows_wrong") _ "_rows_wrong" ["rows"] (sp_rows_wrong K) := ⟨ok_rows_wrong F22 m_enumerate m_len ig_MOST_ROWS c_is_row, g__rows_wrong, k22, b22⟩
  obtain ⟨_, ⟨_, _, dV23, kV23, _, _, _, _, _, _, rfl, l23, e23, dv23, kw23⟩, k23⟩ := D.def_ 23 (d := dd_23) rfl
  rcases dv23 with ⟨_, rfl⟩ | ⟨z, _⟩
  rotate_left
  · exact absurd rfl z
  have F23 := fun_mk (st := s_outer_wrong) l23 e23 k23
  have a_outer_wrong : PySem.W.nsIn K mainGlobals "outer_wrong" = some (some (.ref (He.ga K "outer_wrong"))) := (He.eqO_ok (exget c 38 rfl))
  have g_outer_wrong : mg "outer_wrong" = some (.ref (He.ga K "outer_wrong")) := PySem.W.mg_of X G a_outer_wrong
  have b23 := F23.binds (ps := ["thing"]) fun _ _ _ _ _ _ us hl => match us, hl with | [_], _ => rfl
  have c_outer_wrong : Cal l.prog w K mg base CX0 5 (He.ga K "outer_wrong") _ "outer_wrong" ["thing"] (sp_outer_wrong K) := ⟨ok_outer_wrong F23 c_frame_wrong c_head_wrong c_rows_wrong, g_outer_wrong, k23, b23⟩
  obtain ⟨_, ⟨_, _, dV24, kV24, _, _, _, _, _, _, rfl, l24, e24, dv24, kw24⟩, k24⟩ := D.def_ 24 (d := dd_24) rfl
  rcases dv24 with ⟨_, rfl⟩ | ⟨z, _⟩
  rotate_left
  · exact absurd rfl z
  have F24 := fun_mk (st := s_targets_of) l24 e24 k24
  have a_targets_of : PySem.W.nsIn K mainGlobals "targets_of" = some (some (.ref (He.ga K "targets_of"))) := (He.eqO_ok (exget c 39 rfl))
  have g_targets_of : mg "targets_of" = some (.ref (He.ga K "targets_of")) := PySem.W.mg_of X G a_targets_of
  have b24 := F24.binds (ps := ["module"]) fun _ _ _ _ _ _ us hl => match us, hl with | [_], _ => rfl
  have c_targets_of : Cal l.prog w K mg base CX0 1 (He.ga K "targets_of") _ "targets_of" ["module"] (sp_targets_of K) := ⟨ok_targets_of F24, g_targets_of, k24, b24⟩
  obtain ⟨_, ⟨_, _, dV25, kV25, _, _, _, _, _, _, rfl, l25, e25, dv25, kw25⟩, k25⟩ := D.def_ 25 (d := dd_25) rfl
  rcases dv25 with ⟨_, rfl⟩ | ⟨z, _⟩
  rotate_left
  · exact absurd rfl z
  have F25 := fun_mk (st := s_flows_of) l25 e25 k25
  have a_flows_of : PySem.W.nsIn K mainGlobals "flows_of" = some (some (.ref (He.ga K "flows_of"))) := (He.eqO_ok (exget c 40 rfl))
  have g_flows_of : mg "flows_of" = some (.ref (He.ga K "flows_of")) := PySem.W.mg_of X G a_flows_of
  have b25 := F25.binds (ps := ["module"]) fun _ _ _ _ _ _ us hl => match us, hl with | [_], _ => rfl
  have c_flows_of : Cal l.prog w K mg base CX0 2 (He.ga K "flows_of") _ "flows_of" ["module"] (sp_flows_of K) := ⟨ok_flows_of F25 m_list c_targets_of, g_flows_of, k25, b25⟩
  obtain ⟨_, ⟨_, _, dV26, kV26, _, _, _, _, _, _, rfl, l26, e26, dv26, kw26⟩, k26⟩ := D.def_ 26 (d := dd_26) rfl
  rcases dv26 with ⟨_, rfl⟩ | ⟨z, _⟩
  rotate_left
  · exact absurd rfl z
  have F26 := fun_mk (st := s_outs_wrong) l26 e26 k26
  have a__outs_wrong : PySem.W.nsIn K mainGlobals "_outs_wrong" = some (some (.ref (He.ga K "_outs_wrong"))) := (He.eqO_ok (exget c 41 rfl))
  have g__outs_wrong : mg "_outs_wrong" = some (.ref (He.ga K "_outs_wrong")) := PySem.W.mg_of X G a__outs_wrong
  have b26 := F26.binds (ps := ["module"]) fun _ _ _ _ _ _ us hl => match us, hl with | [_], _ => rfl
  have c_outs_wrong : Cal l.prog w K mg base CX0 2 (He.ga K "_outs_wrong") _ "_outs_wrong" ["module"] (sp_outs_wrong K) := ⟨ok_outs_wrong F26 c_targets_of, g__outs_wrong, k26, b26⟩
  have ig_MOST_EXPRESSIONS : ∃ t, mg "MOST_EXPRESSIONS" = some (.int 200 t) := by
    obtain ⟨t, e⟩ := intB_ok (exget c 42 rfl)
    exact ⟨t, PySem.W.mg_of X G e⟩
  have ig_MOST_WITHIN : ∃ t, mg "MOST_WITHIN" = some (.int 8 t) := by
    obtain ⟨t, e⟩ := intB_ok (exget c 43 rfl)
    exact ⟨t, PySem.W.mg_of X G e⟩
  have a_NAME_SPOTS : PySem.W.nsIn K mainGlobals "NAME_SPOTS" = some (some (.ref (He.ga K "NAME_SPOTS"))) := (He.eqO_ok (exget c 44 rfl))
  have g_NAME_SPOTS : mg "NAME_SPOTS" = some (.ref (He.ga K "NAME_SPOTS")) := PySem.W.mg_of X G a_NAME_SPOTS
  have t_NAME_SPOTS : TabD K w mg "NAME_SPOTS" (He.ga K "NAME_SPOTS") kvs_NAME_SPOTS := ⟨g_NAME_SPOTS, cc.t.tab 0 rfl, tabB_ok (exget c 45 rfl)⟩
  have a_PART_SPOTS : PySem.W.nsIn K mainGlobals "PART_SPOTS" = some (some (.ref (He.ga K "PART_SPOTS"))) := (He.eqO_ok (exget c 46 rfl))
  have g_PART_SPOTS : mg "PART_SPOTS" = some (.ref (He.ga K "PART_SPOTS")) := PySem.W.mg_of X G a_PART_SPOTS
  have t_PART_SPOTS : TabD K w mg "PART_SPOTS" (He.ga K "PART_SPOTS") kvs_PART_SPOTS := ⟨g_PART_SPOTS, cc.t.tab 1 rfl, tabB_ok (exget c 47 rfl)⟩
  have a_SIZES : PySem.W.nsIn K mainGlobals "SIZES" = some (some (.ref (He.ga K "SIZES"))) := (He.eqO_ok (exget c 48 rfl))
  have g_SIZES : mg "SIZES" = some (.ref (He.ga K "SIZES")) := PySem.W.mg_of X G a_SIZES
  have t_SIZES : TabD K w mg "SIZES" (He.ga K "SIZES") kvs_SIZES := ⟨g_SIZES, cc.t.tab 2 rfl, tabB_ok (exget c 49 rfl)⟩
  obtain ⟨_, ⟨_, _, dV27, kV27, _, _, _, _, _, _, rfl, l27, e27, dv27, kw27⟩, k27⟩ := D.def_ 27 (d := dd_27) rfl
  rcases dv27 with ⟨_, rfl⟩ | ⟨z, _⟩
  rotate_left
  · exact absurd rfl z
  have F27 := fun_mk (st := s_is_whole) l27 e27 k27
  have a_is_whole : PySem.W.nsIn K mainGlobals "is_whole" = some (some (.ref (He.ga K "is_whole"))) := (He.eqO_ok (exget c 50 rfl))
  have g_is_whole : mg "is_whole" = some (.ref (He.ga K "is_whole")) := PySem.W.mg_of X G a_is_whole
  have b27 := F27.binds (ps := ["thing"]) fun _ _ _ _ _ _ us hl => match us, hl with | [_], _ => rfl
  have c_is_whole : Cal l.prog w K mg base CX0 1 (He.ga K "is_whole") _ "is_whole" ["thing"] (sp_is_whole K) := ⟨ok_is_whole F27 m_bool m_int m_isinstance, g_is_whole, k27, b27⟩
  obtain ⟨_, ⟨_, _, dV28, kV28, _, _, _, _, _, _, rfl, l28, e28, dv28, kw28⟩, k28⟩ := D.def_ 28 (d := dd_28) rfl
  rcases dv28 with ⟨_, rfl⟩ | ⟨z, _⟩
  rotate_left
  · exact absurd rfl z
  have F28 := fun_mk (st := s_num_by_form) l28 e28 k28
  have a__num_by_form : PySem.W.nsIn K mainGlobals "_num_by_form" = some (some (.ref (He.ga K "_num_by_form"))) := (He.eqO_ok (exget c 51 rfl))
  have g__num_by_form : mg "_num_by_form" = some (.ref (He.ga K "_num_by_form")) := PySem.W.mg_of X G a__num_by_form
  have b28 := F28.binds (ps := ["e"]) fun _ _ _ _ _ _ us hl => match us, hl with | [_], _ => rfl
  have c_num_by_form : Cal l.prog w K mg base CX0 2 (He.ga K "_num_by_form") _ "_num_by_form" ["e"] (sp_num_by_form K) := ⟨ok_num_by_form F28 c_is_whole, g__num_by_form, k28, b28⟩
  obtain ⟨_, ⟨_, _, dV29, kV29, _, _, _, _, _, _, rfl, l29, e29, dv29, kw29⟩, k29⟩ := D.def_ 29 (d := dd_29) rfl
  rcases dv29 with ⟨_, rfl⟩ | ⟨z, _⟩
  rotate_left
  · exact absurd rfl z
  have F29 := fun_mk (st := s_truth_by_form) l29 e29 k29
  have a__truth_by_form : PySem.W.nsIn K mainGlobals "_truth_by_form" = some (some (.ref (He.ga K "_truth_by_form"))) := (He.eqO_ok (exget c 52 rfl))
  have g__truth_by_form : mg "_truth_by_form" = some (.ref (He.ga K "_truth_by_form")) := PySem.W.mg_of X G a__truth_by_form
  have b29 := F29.binds (ps := ["e"]) fun _ _ _ _ _ _ us hl => match us, hl with | [_], _ => rfl
  have c_truth_by_form : Cal l.prog w K mg base CX0 1 (He.ga K "_truth_by_form") _ "_truth_by_form" ["e"] (sp_truth_by_form K) := ⟨ok_truth_by_form F29 m_bool m_isinstance, g__truth_by_form, k29, b29⟩
  obtain ⟨_, ⟨_, _, dV30, kV30, _, _, _, _, _, _, rfl, l30, e30, dv30, kw30⟩, k30⟩ := D.def_ 30 (d := dd_30) rfl
  rcases dv30 with ⟨_, rfl⟩ | ⟨z, _⟩
  rotate_left
  · exact absurd rfl z
  have F30 := fun_mk (st := s_flow_by_form) l30 e30 k30
  have a__flow_by_form : PySem.W.nsIn K mainGlobals "_flow_by_form" = some (some (.ref (He.ga K "_flow_by_form"))) := (He.eqO_ok (exget c 53 rfl))
  have g__flow_by_form : mg "_flow_by_form" = some (.ref (He.ga K "_flow_by_form")) := PySem.W.mg_of X G a__flow_by_form
  have b30 := F30.binds (ps := ["e"]) fun _ _ _ _ _ _ us hl => match us, hl with | [_], _ => rfl
  have c_flow_by_form : Cal l.prog w K mg base CX0 2 (He.ga K "_flow_by_form") _ "_flow_by_form" ["e"] (sp_flow_by_form K) := ⟨ok_flow_by_form F30 c_is_name, g__flow_by_form, k30, b30⟩
  obtain ⟨_, ⟨_, _, dV31, kV31, _, _, _, _, _, _, rfl, l31, e31, dv31, kw31⟩, k31⟩ := D.def_ 31 (d := dd_31) rfl
  rcases dv31 with ⟨_, rfl⟩ | ⟨z, _⟩
  rotate_left
  · exact absurd rfl z
  have F31 := fun_mk (st := s_then_by_form) l31 e31 k31
  have a__then_by_form : PySem.W.nsIn K mainGlobals "_then_by_form" = some (some (.ref (He.ga K "_then_by_form"))) := (He.eqO_ok (exget c 54 rfl))
  have g__then_by_form : mg "_then_by_form" = some (.ref (He.ga K "_then_by_form")) := PySem.W.mg_of X G a__then_by_form
  have b31 := F31.binds (ps := ["e"]) fun _ _ _ _ _ _ us hl => match us, hl with | [_], _ => rfl
  have c_then_by_form : Cal l.prog w K mg base CX0 3 (He.ga K "_then_by_form") _ "_then_by_form" ["e"] (sp_then_by_form K) := ⟨ok_then_by_form F31 m_isinstance m_len m_tuple c_num_by_form c_truth_by_form, g__then_by_form, k31, b31⟩
  obtain ⟨_, ⟨_, _, dV32, kV32, _, _, _, _, _, _, rfl, l32, e32, dv32, kw32⟩, k32⟩ := D.def_ 32 (d := dd_32) rfl
  rcases dv32 with ⟨_, rfl⟩ | ⟨z, _⟩
  rotate_left
  · exact absurd rfl z
  have F32 := fun_mk (st := s_when_by_form) l32 e32 k32
  have a__when_by_form : PySem.W.nsIn K mainGlobals "_when_by_form" = some (some (.ref (He.ga K "_when_by_form"))) := (He.eqO_ok (exget c 55 rfl))
  have g__when_by_form : mg "_when_by_form" = some (.ref (He.ga K "_when_by_form")) := PySem.W.mg_of X G a__when_by_form
  have b32 := F32.binds (ps := ["e"]) fun _ _ _ _ _ _ us hl => match us, hl with | [_], _ => rfl
  have c_when_by_form : Cal l.prog w K mg base CX0 2 (He.ga K "_when_by_form") _ "_when_by_form" ["e"] (sp_when_by_form K) := ⟨ok_when_by_form F32 m_bool m_isinstance c_is_name, g__when_by_form, k32, b32⟩
  obtain ⟨_, ⟨_, _, dV33, kV33, _, _, _, _, _, _, rfl, l33, e33, dv33, kw33⟩, k33⟩ := D.def_ 33 (d := dd_33) rfl
  rcases dv33 with ⟨_, rfl⟩ | ⟨z, _⟩
  rotate_left
  · exact absurd rfl z
  have F33 := fun_mk (st := s_is_signs) l33 e33 k33
  have a_is_signs : PySem.W.nsIn K mainGlobals "is_signs" = some (some (.ref (He.ga K "is_signs"))) := (He.eqO_ok (exget c 56 rfl))
  have g_is_signs : mg "is_signs" = some (.ref (He.ga K "is_signs")) := PySem.W.mg_of X G a_is_signs
  have b33 := F33.binds (ps := ["thing"]) fun _ _ _ _ _ _ us hl => match us, hl with | [_], _ => rfl
  have c_is_signs : Cal l.prog w K mg base CX0 1 (He.ga K "is_signs") _ "is_signs" ["thing"] (sp_is_signs K) := ⟨ok_is_signs F33 m_isinstance m_str, g_is_signs, k33, b33⟩
  obtain ⟨_, ⟨_, _, dV34, kV34, _, _, _, _, _, _, rfl, l34, e34, dv34, kw34⟩, k34⟩ := D.def_ 34 (d := dd_34) rfl
  rcases dv34 with ⟨_, rfl⟩ | ⟨z, _⟩
  rotate_left
  · exact absurd rfl z
  have F34 := fun_mk (st := s_beats_by_form) l34 e34 k34
  have a__beats_by_form : PySem.W.nsIn K mainGlobals "_beats_by_form" = some (some (.ref (He.ga K "_beats_by_form"))) := (He.eqO_ok (exget c 57 rfl))
  have g__beats_by_form : mg "_beats_by_form" = some (.ref (He.ga K "_beats_by_form")) := PySem.W.mg_of X G a__beats_by_form
  have b34 := F34.binds (ps := ["e"]) fun _ _ _ _ _ _ us hl => match us, hl with | [_], _ => rfl
  have c_beats_by_form : Cal l.prog w K mg base CX0 2 (He.ga K "_beats_by_form") _ "_beats_by_form" ["e"] (sp_beats_by_form K) := ⟨ok_beats_by_form F34 m_len c_is_signs, g__beats_by_form, k34, b34⟩
  obtain ⟨_, ⟨_, _, dV35, kV35, _, _, _, _, _, _, rfl, l35, e35, dv35, kw35⟩, k35⟩ := D.def_ 35 (d := dd_35) rfl
  rcases dv35 with ⟨_, rfl⟩ | ⟨z, _⟩
  rotate_left
  · exact absurd rfl z
  have F35 := fun_mk (st := s_call_by_form) l35 e35 k35
  have a__call_by_form : PySem.W.nsIn K mainGlobals "_call_by_form" = some (some (.ref (He.ga K "_call_by_form"))) := (He.eqO_ok (exget c 58 rfl))
  have g__call_by_form : mg "_call_by_form" = some (.ref (He.ga K "_call_by_form")) := PySem.W.mg_of X G a__call_by_form
  have b35 := F35.binds (ps := ["e"]) fun _ _ _ _ _ _ us hl => match us, hl with | [_], _ => rfl
  have c_call_by_form : Cal l.prog w K mg base CX0 2 (He.ga K "_call_by_form") _ "_call_by_form" ["e"] (sp_call_by_form K) := ⟨ok_call_by_form F35 m_isinstance m_len m_list c_is_name, g__call_by_form, k35, b35⟩
  have a_OWN_FORMS : PySem.W.nsIn K mainGlobals "OWN_FORMS" = some (some (.ref (He.ga K "OWN_FORMS"))) := (He.eqO_ok (exget c 59 rfl))
  have g_OWN_FORMS : mg "OWN_FORMS" = some (.ref (He.ga K "OWN_FORMS")) := PySem.W.mg_of X G a_OWN_FORMS
  have nq_1_0 : ¬ (He.ga K "_truth_by_form") = (He.ga K "_num_by_form") := of_decide_eq_true (exget c 68 rfl)
  have nq_2_0 : ¬ (He.ga K "_flow_by_form") = (He.ga K "_num_by_form") := of_decide_eq_true (exget c 69 rfl)
  have nq_2_1 : ¬ (He.ga K "_flow_by_form") = (He.ga K "_truth_by_form") := of_decide_eq_true (exget c 70 rfl)
  have nq_3_0 : ¬ (He.ga K "_then_by_form") = (He.ga K "_num_by_form") := of_decide_eq_true (exget c 71 rfl)
  have nq_3_1 : ¬ (He.ga K "_then_by_form") = (He.ga K "_truth_by_form") := of_decide_eq_true (exget c 72 rfl)
  have nq_3_2 : ¬ (He.ga K "_then_by_form") = (He.ga K "_flow_by_form") := of_decide_eq_true (exget c 73 rfl)
  have nq_4_0 : ¬ (He.ga K "_when_by_form") = (He.ga K "_num_by_form") := of_decide_eq_true (exget c 74 rfl)
  have nq_4_1 : ¬ (He.ga K "_when_by_form") = (He.ga K "_truth_by_form") := of_decide_eq_true (exget c 75 rfl)
  have nq_4_2 : ¬ (He.ga K "_when_by_form") = (He.ga K "_flow_by_form") := of_decide_eq_true (exget c 76 rfl)
  have nq_4_3 : ¬ (He.ga K "_when_by_form") = (He.ga K "_then_by_form") := of_decide_eq_true (exget c 77 rfl)
  have nq_5_0 : ¬ (He.ga K "_beats_by_form") = (He.ga K "_num_by_form") := of_decide_eq_true (exget c 78 rfl)
  have nq_5_1 : ¬ (He.ga K "_beats_by_form") = (He.ga K "_truth_by_form") := of_decide_eq_true (exget c 79 rfl)
  have nq_5_2 : ¬ (He.ga K "_beats_by_form") = (He.ga K "_flow_by_form") := of_decide_eq_true (exget c 80 rfl)
  have nq_5_3 : ¬ (He.ga K "_beats_by_form") = (He.ga K "_then_by_form") := of_decide_eq_true (exget c 81 rfl)
  have nq_5_4 : ¬ (He.ga K "_beats_by_form") = (He.ga K "_when_by_form") := of_decide_eq_true (exget c 82 rfl)
  have nq_6_0 : ¬ (He.ga K "_call_by_form") = (He.ga K "_num_by_form") := of_decide_eq_true (exget c 83 rfl)
  have nq_6_1 : ¬ (He.ga K "_call_by_form") = (He.ga K "_truth_by_form") := of_decide_eq_true (exget c 84 rfl)
  have nq_6_2 : ¬ (He.ga K "_call_by_form") = (He.ga K "_flow_by_form") := of_decide_eq_true (exget c 85 rfl)
  have nq_6_3 : ¬ (He.ga K "_call_by_form") = (He.ga K "_then_by_form") := of_decide_eq_true (exget c 86 rfl)
  have nq_6_4 : ¬ (He.ga K "_call_by_form") = (He.ga K "_when_by_form") := of_decide_eq_true (exget c 87 rfl)
  have nq_6_5 : ¬ (He.ga K "_call_by_form") = (He.ga K "_beats_by_form") := of_decide_eq_true (exget c 88 rfl)
  have ft_OWN_FORMS : FTabD l.prog w K mg base 4 "OWN_FORMS" (He.ga K "OWN_FORMS") fs_OWN_FORMS := by
    refine ⟨g_OWN_FORMS, cc.t.tab 3 rfl, fun a => if a = (He.ga K "_num_by_form") then some (spD 1 f_num_by_form K) else if a = (He.ga K "_truth_by_form") then some (spD 1 f_truth_by_form K) else if a = (He.ga K "_flow_by_form") then some (spD 1 f_flow_by_form K) else if a = (He.ga K "_then_by_form") then some (spD 1 f_then_by_form K) else if a = (He.ga K "_when_by_form") then some (spD 1 f_when_by_form K) else if a = (He.ga K "_beats_by_form") then some (spD 1 f_beats_by_form K) else if a = (He.ga K "_call_by_form") then some (spD 1 f_call_by_form K) else none, ⟨fun x f hx => ?_⟩, fun a sp hs => ?_⟩
    · have hx := fs_OWN_FORMS_in hx
      rcases hx with ⟨rfl, rfl⟩ | ⟨rfl, rfl⟩ | ⟨rfl, rfl⟩ | ⟨rfl, rfl⟩ | ⟨rfl, rfl⟩ | ⟨rfl, rfl⟩ | ⟨rfl, rfl⟩ | ⟨rfl, rfl⟩
      · exact ⟨(He.ga K "_num_by_form"), (He.eqO_ok (exget c 60 rfl)), by show (if (He.ga K "_num_by_form") = (He.ga K "_num_by_form") then _ else _) = _; rw [if_pos rfl]⟩
      · exact ⟨(He.ga K "_truth_by_form"), (He.eqO_ok (exget c 61 rfl)), by show (if (He.ga K "_truth_by_form") = (He.ga K "_num_by_form") then _ else _) = _; rw [if_neg nq_1_0, if_pos rfl]⟩
      · exact ⟨(He.ga K "_flow_by_form"), (He.eqO_ok (exget c 62 rfl)), by show (if (He.ga K "_flow_by_form") = (He.ga K "_num_by_form") then _ else _) = _; rw [if_neg nq_2_0, if_neg nq_2_1, if_pos rfl]⟩
      · exact ⟨(He.ga K "_then_by_form"), (He.eqO_ok (exget c 63 rfl)), by show (if (He.ga K "_then_by_form") = (He.ga K "_num_by_form") then _ else _) = _; rw [if_neg nq_3_0, if_neg nq_3_1, if_neg nq_3_2, if_pos rfl]⟩
      · exact ⟨(He.ga K "_when_by_form"), (He.eqO_ok (exget c 64 rfl)), by show (if (He.ga K "_when_by_form") = (He.ga K "_num_by_form") then _ else _) = _; rw [if_neg nq_4_0, if_neg nq_4_1, if_neg nq_4_2, if_neg nq_4_3, if_pos rfl]⟩
      · exact ⟨(He.ga K "_flow_by_form"), (He.eqO_ok (exget c 65 rfl)), by show (if (He.ga K "_flow_by_form") = (He.ga K "_num_by_form") then _ else _) = _; rw [if_neg nq_2_0, if_neg nq_2_1, if_pos rfl]⟩
      · exact ⟨(He.ga K "_beats_by_form"), (He.eqO_ok (exget c 66 rfl)), by show (if (He.ga K "_beats_by_form") = (He.ga K "_num_by_form") then _ else _) = _; rw [if_neg nq_5_0, if_neg nq_5_1, if_neg nq_5_2, if_neg nq_5_3, if_neg nq_5_4, if_pos rfl]⟩
      · exact ⟨(He.ga K "_call_by_form"), (He.eqO_ok (exget c 67 rfl)), by show (if (He.ga K "_call_by_form") = (He.ga K "_num_by_form") then _ else _) = _; rw [if_neg nq_6_0, if_neg nq_6_1, if_neg nq_6_2, if_neg nq_6_3, if_neg nq_6_4, if_neg nq_6_5, if_pos rfl]⟩
    · simp only at hs
      split at hs
      · rename_i e
        subst e
        cases hs
        exact ⟨_, _, c_num_by_form.G.mono (by decide), c_num_by_form.kp, c_num_by_form.b⟩
      split at hs
      · rename_i e
        subst e
        cases hs
        exact ⟨_, _, c_truth_by_form.G.mono (by decide), c_truth_by_form.kp, c_truth_by_form.b⟩
      split at hs
      · rename_i e
        subst e
        cases hs
        exact ⟨_, _, c_flow_by_form.G.mono (by decide), c_flow_by_form.kp, c_flow_by_form.b⟩
      split at hs
      · rename_i e
        subst e
        cases hs
        exact ⟨_, _, c_then_by_form.G.mono (by decide), c_then_by_form.kp, c_then_by_form.b⟩
      split at hs
      · rename_i e
        subst e
        cases hs
        exact ⟨_, _, c_when_by_form.G.mono (by decide), c_when_by_form.kp, c_when_by_form.b⟩
      split at hs
      · rename_i e
        subst e
        cases hs
        exact ⟨_, _, c_beats_by_form.G.mono (by decide), c_beats_by_form.kp, c_beats_by_form.b⟩
      split at hs
      · rename_i e
        subst e
        cases hs
        exact ⟨_, _, c_call_by_form.G.mono (by decide), c_call_by_form.kp, c_call_by_form.b⟩
      cases hs
  obtain ⟨_, ⟨_, _, dV36, kV36, _, _, _, _, _, _, rfl, l36, e36, dv36, kw36⟩, k36⟩ := D.def_ 36 (d := dd_36) rfl
  rcases dv36 with ⟨_, rfl⟩ | ⟨z, _⟩
  rotate_left
  · exact absurd rfl z
  have F36 := fun_mk (st := s_own_parts) l36 e36 k36
  have a__own_parts : PySem.W.nsIn K mainGlobals "_own_parts" = some (some (.ref (He.ga K "_own_parts"))) := (He.eqO_ok (exget c 89 rfl))
  have g__own_parts : mg "_own_parts" = some (.ref (He.ga K "_own_parts")) := PySem.W.mg_of X G a__own_parts
  have b36 := F36.binds (ps := ["e", "word", "known"]) fun _ _ _ _ _ _ us hl => match us, hl with | [_, _, _], _ => rfl
  have c_own_parts : Cal l.prog w K mg base CX0 5 (He.ga K "_own_parts") _ "_own_parts" ["e", "word", "known"] (sp_own_parts K) := ⟨ok_own_parts F36 m_len t_NAME_SPOTS t_PART_SPOTS t_SIZES ft_OWN_FORMS, g__own_parts, k36, b36⟩
  have a_ALL_PARTS : PySem.W.nsIn K mainGlobals "ALL_PARTS" = some (some (.ref (He.ga K "ALL_PARTS"))) := (He.eqO_ok (exget c 90 rfl))
  have g_ALL_PARTS : mg "ALL_PARTS" = some (.ref (He.ga K "ALL_PARTS")) := PySem.W.mg_of X G a_ALL_PARTS
  have t_ALL_PARTS : TabD K w mg "ALL_PARTS" (He.ga K "ALL_PARTS") kvs_ALL_PARTS := ⟨g_ALL_PARTS, cc.t.tab 4 rfl, tabB_ok (exget c 91 rfl)⟩
  obtain ⟨_, ⟨_, _, dV37, kV37, _, _, _, _, _, _, rfl, l37, e37, dv37, kw37⟩, k37⟩ := D.def_ 37 (d := dd_37) rfl
  rcases dv37 with ⟨_, rfl⟩ | ⟨z, _⟩
  rotate_left
  · exact absurd rfl z
  have F37 := fun_mk (st := s_all_parts) l37 e37 k37
  have a__all_parts : PySem.W.nsIn K mainGlobals "_all_parts" = some (some (.ref (He.ga K "_all_parts"))) := (He.eqO_ok (exget c 92 rfl))
  have g__all_parts : mg "_all_parts" = some (.ref (He.ga K "_all_parts")) := PySem.W.mg_of X G a__all_parts
  have b37 := F37.binds (ps := ["level", "known", "may_call"]) fun _ _ _ _ _ _ us hl => match us, hl with | [_, _, _], _ => rfl
  have c_all_parts : Cal l.prog w K mg base CX0 6 (He.ga K "_all_parts") _ "_all_parts" ["level", "known", "may_call"] (sp_all_parts K) := ⟨ok_all_parts F37 m_isinstance m_len m_str m_tuple c_own_parts t_ALL_PARTS, g__all_parts, k37, b37⟩
  obtain ⟨_, ⟨_, _, dV38, kV38, _, _, _, _, _, _, rfl, l38, e38, dv38, kw38⟩, k38⟩ := D.def_ 38 (d := dd_38) rfl
  rcases dv38 with ⟨_, rfl⟩ | ⟨z, _⟩
  rotate_left
  · exact absurd rfl z
  have F38 := fun_mk (st := s_many_fitting) l38 e38 k38
  have a_many_fitting : PySem.W.nsIn K mainGlobals "many_fitting" = some (some (.ref (He.ga K "many_fitting"))) := (He.eqO_ok (exget c 93 rfl))
  have g_many_fitting : mg "many_fitting" = some (.ref (He.ga K "many_fitting")) := PySem.W.mg_of X G a_many_fitting
  have b38 := F38.binds (ps := ["rows", "known"]) fun _ _ _ _ _ _ us hl => match us, hl with | [_, _], _ => rfl
  have c_many_fitting : Cal l.prog w K mg base CX0 7 (He.ga K "many_fitting") _ "many_fitting" ["rows", "known"] (sp_many_fitting K) := ⟨ok_many_fitting F38 m_isinstance m_len m_tuple ig_MOST_EXPRESSIONS ig_MOST_WITHIN c_all_parts, g_many_fitting, k38, b38⟩
  obtain ⟨_, ⟨_, _, dV39, kV39, _, _, _, _, _, _, rfl, l39, e39, dv39, kw39⟩, k39⟩ := D.def_ 39 (d := dd_39) rfl
  rcases dv39 with ⟨_, rfl⟩ | ⟨z, _⟩
  rotate_left
  · exact absurd rfl z
  have F39 := fun_mk (st := s_many_right) l39 e39 k39
  have a_many_right : PySem.W.nsIn K mainGlobals "many_right" = some (some (.ref (He.ga K "many_right"))) := (He.eqO_ok (exget c 94 rfl))
  have g_many_right : mg "many_right" = some (.ref (He.ga K "many_right")) := PySem.W.mg_of X G a_many_right
  have b39 := F39.binds (ps := ["module"]) fun _ _ _ _ _ _ us hl => match us, hl with | [_], _ => rfl
  have c_many_right : Cal l.prog w K mg base CX0 8 (He.ga K "many_right") _ "many_right" ["module"] (sp_many_right K) := ⟨ok_many_right F39 m_len c_flows_of c_outs_wrong c_many_fitting, g_many_right, k39, b39⟩
  obtain ⟨_, ⟨_, _, dV40, kV40, _, _, _, _, _, _, rfl, l40, e40, dv40, kw40⟩, k40⟩ := D.def_ 40 (d := dd_40) rfl
  rcases dv40 with ⟨_, rfl⟩ | ⟨z, _⟩
  rotate_left
  · exact absurd rfl z
  have F40 := fun_mk (st := s_looked_at) l40 e40 k40
  have a__looked_at : PySem.W.nsIn K mainGlobals "_looked_at" = some (some (.ref (He.ga K "_looked_at"))) := (He.eqO_ok (exget c 95 rfl))
  have g__looked_at : mg "_looked_at" = some (.ref (He.ga K "_looked_at")) := PySem.W.mg_of X G a__looked_at
  have b40 := F40.binds (ps := ["thing"]) fun _ _ _ _ _ _ us hl => match us, hl with | [_], _ => rfl
  have c_looked_at : Cal l.prog w K mg base CX0 9 (He.ga K "_looked_at") _ "_looked_at" ["thing"] (sp_looked_at K) := ⟨ok_looked_at F40 c_outer_wrong c_many_right, g__looked_at, k40, b40⟩
  obtain ⟨_, ⟨_, _, dV41, kV41, _, _, _, _, _, _, rfl, l41, e41, dv41, kw41⟩, k41⟩ := D.def_ 41 (d := dd_41) rfl
  rcases dv41 with ⟨_, rfl⟩ | ⟨z, _⟩
  rotate_left
  · exact absurd rfl z
  have F41 := fun_mk (st := s_check_module) l41 e41 k41
  have a_check_module : PySem.W.nsIn K mainGlobals "check_module" = some (some (.ref (He.ga K "check_module"))) := (He.eqO_ok (exget c 96 rfl))
  have g_check_module : mg "check_module" = some (.ref (He.ga K "check_module")) := PySem.W.mg_of X G a_check_module
  have b41 := F41.binds (ps := ["thing"]) fun _ _ _ _ _ _ us hl => match us, hl with | [_], _ => rfl
  have c_check_module : Cal l.prog w K mg base CX0 10 (He.ga K "check_module") _ "check_module" ["thing"] (sp_check_module K) := ⟨ok_check_module F41 c_looked_at, g_check_module, k41, b41⟩
  obtain ⟨_, ⟨_, _, dV42, kV42, _, _, _, _, _, _, rfl, l42, e42, dv42, kw42⟩, k42⟩ := D.def_ 42 (d := dd_42) rfl
  rcases dv42 with ⟨_, rfl⟩ | ⟨z, _⟩
  rotate_left
  · exact absurd rfl z
  have F42 := fun_mk (st := s_flows) l42 e42 k42
  have a_flows : PySem.W.nsIn K mainGlobals "flows" = some (some (.ref (He.ga K "flows"))) := (He.eqO_ok (exget c 97 rfl))
  have g_flows : mg "flows" = some (.ref (He.ga K "flows")) := PySem.W.mg_of X G a_flows
  have b42 := F42.binds (ps := ["module"]) fun _ _ _ _ _ _ us hl => match us, hl with | [_], _ => rfl
  have c_flows : Cal l.prog w K mg base CX0 11 (He.ga K "flows") _ "flows" ["module"] (sp_flows K) := ⟨ok_flows F42 c_check_module c_flows_of, g_flows, k42, b42⟩
  obtain ⟨_, ⟨_, _, dV43, kV43, _, _, _, _, _, _, rfl, l43, e43, dv43, kw43⟩, k43⟩ := D.def_ 43 (d := dd_43) rfl
  rcases dv43 with ⟨_, rfl⟩ | ⟨z, _⟩
  rotate_left
  · exact absurd rfl z
  have F43 := fun_mk (st := s_law_flows) l43 e43 k43
  have a__law_flows : PySem.W.nsIn K mainGlobals "_law_flows" = some (some (.ref (He.ga K "_law_flows"))) := (He.eqO_ok (exget c 98 rfl))
  have g__law_flows : mg "_law_flows" = some (.ref (He.ga K "_law_flows")) := PySem.W.mg_of X G a__law_flows
  have b43 := F43.binds (ps := ["_law_piece"]) fun _ _ _ _ _ _ us hl => match us, hl with | [_], _ => rfl
  have c_law_flows : Cal l.prog w K mg base CX0 1 (He.ga K "_law_flows") _ "_law_flows" ["_law_piece"] (sp_law_flows K) := ⟨ok_law_flows F43 m_list, g__law_flows, k43, b43⟩
  obtain ⟨_, ⟨_, _, dV44, kV44, _, _, _, _, _, _, rfl, l44, e44, dv44, kw44⟩, k44⟩ := D.def_ 44 (d := dd_44) rfl
  rcases dv44 with ⟨_, rfl⟩ | ⟨z, _⟩
  rotate_left
  · exact absurd rfl z
  have F44 := fun_mk (st := s_law_odd) l44 e44 k44
  have a__law_odd : PySem.W.nsIn K mainGlobals "_law_odd" = some (some (.ref (He.ga K "_law_odd"))) := (He.eqO_ok (exget c 99 rfl))
  have g__law_odd : mg "_law_odd" = some (.ref (He.ga K "_law_odd")) := PySem.W.mg_of X G a__law_odd
  have b44 := F44.binds (ps := ["_law_purse_here", "_law_spot", "_law_many"]) fun _ _ _ _ _ _ us hl => match us, hl with | [_, _, _], _ => rfl
  have c_law_odd : Cal l.prog w K mg base CX0 2 (He.ga K "_law_odd") _ "_law_odd" ["_law_purse_here", "_law_spot", "_law_many"] (sp_law_odd K) := ⟨ok_law_odd F44 m_bool m_list m_tuple c_law_draw, g__law_odd, k44, b44⟩
  obtain ⟨_, ⟨_, _, dV45, kV45, _, _, _, _, _, _, rfl, l45, e45, dv45, kw45⟩, k45⟩ := D.def_ 45 (d := dd_45) rfl
  rcases dv45 with ⟨_, rfl⟩ | ⟨z, _⟩
  rotate_left
  · exact absurd rfl z
  have F45 := fun_mk (st := s_law_there) l45 e45 k45
  have a__law_there : PySem.W.nsIn K mainGlobals "_law_there" = some (some (.ref (He.ga K "_law_there"))) := (He.eqO_ok (exget c 100 rfl))
  have g__law_there : mg "_law_there" = some (.ref (He.ga K "_law_there")) := PySem.W.mg_of X G a__law_there
  have b45 := F45.binds (ps := ["_law_spots", "_law_place"]) fun _ _ _ _ _ _ us hl => match us, hl with | [_, _], _ => rfl
  have c_law_there : CalG l.prog w K mg base CX0 1 (He.ga K "_law_there") _ "_law_there" ["_law_spots", "_law_place"] (sp_law_there K) := ⟨ok_law_there F45 m_str, g__law_there, k45, b45⟩
  have m_ValueError : mg "ValueError" = none := PySem.W.mg_none_of X G (He.eqO_ok (exget c 101 rfl))
  obtain ⟨_, ⟨_, _, dV46, kV46, _, _, _, _, _, _, rfl, l46, e46, dv46, kw46⟩, k46⟩ := D.def_ 46 (d := dd_46) rfl
  rcases dv46 with ⟨_, rfl⟩ | ⟨z, _⟩
  rotate_left
  · exact absurd rfl z
  have F46 := fun_mk (st := s_is_spot) l46 e46 k46
  have a_is_spot : PySem.W.nsIn K mainGlobals "is_spot" = some (some (.ref (He.ga K "is_spot"))) := (He.eqO_ok (exget c 102 rfl))
  have g_is_spot : mg "is_spot" = some (.ref (He.ga K "is_spot")) := PySem.W.mg_of X G a_is_spot
  have b46 := F46.binds (ps := ["thing"]) fun _ _ _ _ _ _ us hl => match us, hl with | [_], _ => rfl
  have c_is_spot : Cal l.prog w K mg base CX0 2 (He.ga K "is_spot") _ "is_spot" ["thing"] (sp_is_spot K) := ⟨ok_is_spot F46 m_all m_isinstance m_len m_tuple c_is_whole, g_is_spot, k46, b46⟩
  obtain ⟨_, ⟨_, _, dV47, kV47, _, _, _, _, _, _, rfl, l47, e47, dv47, kw47⟩, k47⟩ := D.def_ 47 (d := dd_47) rfl
  rcases dv47 with ⟨_, rfl⟩ | ⟨z, _⟩
  rotate_left
  · exact absurd rfl z
  have F47 := fun_mk (st := s_parts_of) l47 e47 k47
  have a_parts_of : PySem.W.nsIn K mainGlobals "parts_of" = some (some (.ref (He.ga K "parts_of"))) := (He.eqO_ok (exget c 103 rfl))
  have g_parts_of : mg "parts_of" = some (.ref (He.ga K "parts_of")) := PySem.W.mg_of X G a_parts_of
  have b47 := F47.binds (ps := ["e"]) fun _ _ _ _ _ _ us hl => match us, hl with | [_], _ => rfl
  have c_parts_of : Cal l.prog w K mg base CX0 1 (He.ga K "parts_of") _ "parts_of" ["e"] (sp_parts_of K) := ⟨ok_parts_of F47 m_list t_PART_SPOTS, g_parts_of, k47, b47⟩
  obtain ⟨_, ⟨_, _, dV48, kV48, _, _, _, _, _, _, rfl, l48, e48, dv48, kw48⟩, k48⟩ := D.def_ 48 (d := dd_48) rfl
  rcases dv48 with ⟨_, rfl⟩ | ⟨z, _⟩
  rotate_left
  · exact absurd rfl z
  have F48 := fun_mk (st := s_part_at) l48 e48 k48
  have a_part_at : PySem.W.nsIn K mainGlobals "part_at" = some (some (.ref (He.ga K "part_at"))) := (He.eqO_ok (exget c 104 rfl))
  have g_part_at : mg "part_at" = some (.ref (He.ga K "part_at")) := PySem.W.mg_of X G a_part_at
  have b48 := F48.binds (ps := ["e", "path"]) fun _ _ _ _ _ _ us hl => match us, hl with | [_, _], _ => rfl
  have c_part_at : Cal l.prog w K mg base CX0 2 (He.ga K "part_at") _ "part_at" ["e", "path"] (sp_part_at K) := ⟨ok_part_at F48 m_len c_parts_of, g_part_at, k48, b48⟩
  obtain ⟨_, ⟨_, _, dV49, kV49, _, _, _, _, _, _, rfl, l49, e49, dv49, kw49⟩, k49⟩ := D.def_ 49 (d := dd_49) rfl
  rcases dv49 with ⟨_, rfl⟩ | ⟨z, _⟩
  rotate_left
  · exact absurd rfl z
  have F49 := fun_mk (st := s_found) l49 e49 k49
  have a__found : PySem.W.nsIn K mainGlobals "_found" = some (some (.ref (He.ga K "_found"))) := (He.eqO_ok (exget c 105 rfl))
  have g__found : mg "_found" = some (.ref (He.ga K "_found")) := PySem.W.mg_of X G a__found
  have b49 := F49.binds (ps := ["module", "place"]) fun _ _ _ _ _ _ us hl => match us, hl with | [_, _], _ => rfl
  have c_found : Cal l.prog w K mg base CX0 3 (He.ga K "_found") _ "_found" ["module", "place"] (sp_found K) := ⟨ok_found F49 m_len c_is_spot c_part_at, g__found, k49, b49⟩
  obtain ⟨_, ⟨_, _, dV50, kV50, _, _, _, _, _, _, rfl, l50, e50, dv50, kw50⟩, k50⟩ := D.def_ 50 (d := dd_50) rfl
  rcases dv50 with ⟨_, rfl⟩ | ⟨z, _⟩
  rotate_left
  · exact absurd rfl z
  have F50 := fun_mk (st := s_copied_e) l50 e50 k50
  have a_copied_e : PySem.W.nsIn K mainGlobals "copied_e" = some (some (.ref (He.ga K "copied_e"))) := (He.eqO_ok (exget c 106 rfl))
  have g_copied_e : mg "copied_e" = some (.ref (He.ga K "copied_e")) := PySem.W.mg_of X G a_copied_e
  have b50 := F50.binds (ps := ["e"]) fun _ _ _ _ _ _ us hl => match us, hl with | [_], _ => rfl
  have c_copied_e : Cal l.prog w K mg base CX0 1 (He.ga K "copied_e") _ "copied_e" ["e"] (sp_copied_e K) := ⟨ok_copied_e F50 m_list, g_copied_e, k50, b50⟩
  have a_NoPlace : PySem.W.nsIn K mainGlobals "NoPlace" = some (some (.ref (He.ga K "NoPlace"))) := (He.eqO_ok (exget c 107 rfl))
  have g_NoPlace : mg "NoPlace" = some (.ref (He.ga K "NoPlace")) := PySem.W.mg_of X G a_NoPlace
  have hs_NoPlace : PySem.W.subIn K (.ref (He.ga K "NoPlace")) (.type "BaseException") = some true := (of_decide_eq_true (exget c 108 rfl))
  have ty_NoPlace : PySem.W.typeIn K (.ref (He.ga K "NoPlace")) = some (.type "type") := (of_decide_eq_true (exget c 109 rfl))
  have m_dict : mg "dict" = none := PySem.W.mg_none_of X G (He.eqO_ok (exget c 110 rfl))
  obtain ⟨_, ⟨_, _, dV51, kV51, _, _, _, _, _, _, rfl, l51, e51, dv51, kw51⟩, k51⟩ := D.def_ 51 (d := dd_51) rfl
  rcases dv51 with ⟨_, rfl⟩ | ⟨z, _⟩
  rotate_left
  · exact absurd rfl z
  have F51 := fun_mk (st := s_fresh) l51 e51 k51
  have a_fresh : PySem.W.nsIn K mainGlobals "fresh" = some (some (.ref (He.ga K "fresh"))) := (He.eqO_ok (exget c 111 rfl))
  have g_fresh : mg "fresh" = some (.ref (He.ga K "fresh")) := PySem.W.mg_of X G a_fresh
  have b51 := F51.binds (ps := ["thing"]) fun _ _ _ _ _ _ us hl => match us, hl with | [_], _ => rfl
  have c_fresh : Cal l.prog w K mg base CX0 12 (He.ga K "fresh") _ "fresh" ["thing"] (sp_fresh K) := ⟨ok_fresh g_fresh F51 m_dict m_isinstance m_list m_tuple, g_fresh, k51, b51⟩
  obtain ⟨_, ⟨_, _, dV52, kV52, _, _, _, _, _, _, rfl, l52, e52, dv52, kw52⟩, k52⟩ := D.def_ 52 (d := dd_52) rfl
  rcases dv52 with ⟨_, rfl⟩ | ⟨z, _⟩
  rotate_left
  · exact absurd rfl z
  have F52 := fun_mk (st := s_NoPlace_init) l52 e52 k52
  obtain ⟨_, _, _, _, _, _, _, _, _, _, _, _, _, _, _, xl_NoPlace, xb_NoPlace⟩ := excB_ok (exget c 112 rfl)
  have b52 := F52.binds (ps := ["self", "place"]) fun _ _ _ _ _ _ us hl => match us, hl with | [_, _], _ => rfl
  have n_NoPlace_place : PySem.W.findIn K (.ref (He.ga K "NoPlace")) "place" = some none := (He.eqO_ok (exget c 115 rfl))
  have x_NoPlace : XCal l.prog w K mg base 13 "NoPlace" (He.ga K "NoPlace") (He.ma K (He.ga K "NoPlace") "__init__") _ ["self", "place"] ["place"] (sp_NoPlace_init K) := ⟨⟨⟨_, _, _, _, _, _, _, _, _, _, _, _, _, _, _, xl_NoPlace, xb_NoPlace⟩, (He.eqO_ok (exget c 116 rfl)), hs_NoPlace, ty_NoPlace, (exget c 117 rfl)⟩, (He.eqO_ok (exget c 113 rfl)), (of_decide_eq_true (exget c 114 rfl)), ok_NoPlace_init F52 c_fresh, b52, g_NoPlace, a_NoPlace, fun f hf => by
      simp only [List.mem_cons, List.not_mem_nil, or_false] at hf
      rcases hf with rfl
      · exact n_NoPlace_place, kb_of (fun s u z => .of_eq rfl)⟩
  obtain ⟨_, ⟨_, _, dV53, kV53, _, _, _, _, _, _, rfl, l53, e53, dv53, kw53⟩, k53⟩ := D.def_ 53 (d := dd_53) rfl
  rcases dv53 with ⟨_, rfl⟩ | ⟨z, _⟩
  rotate_left
  · exact absurd rfl z
  have F53 := fun_mk (st := s_e_at) l53 e53 k53
  have a_e_at : PySem.W.nsIn K mainGlobals "e_at" = some (some (.ref (He.ga K "e_at"))) := (He.eqO_ok (exget c 118 rfl))
  have g_e_at : mg "e_at" = some (.ref (He.ga K "e_at")) := PySem.W.mg_of X G a_e_at
  have b53 := F53.binds (ps := ["module", "place"]) fun _ _ _ _ _ _ us hl => match us, hl with | [_, _], _ => rfl
  have c_e_at : Cal l.prog w K mg base (L2.CX l.prog w) 15 (He.ga K "e_at") _ "e_at" ["module", "place"] (sp_e_at K) := ⟨ok_e_at F53 c_check_module c_found c_copied_e x_NoPlace, g_e_at, k53, b53⟩
  have a_LoomError : PySem.W.nsIn K mainGlobals "LoomError" = some (some (.ref (He.ga K "LoomError"))) := (He.eqO_ok (exget c 119 rfl))
  have g_LoomError : mg "LoomError" = some (.ref (He.ga K "LoomError")) := PySem.W.mg_of X G a_LoomError
  have hs_LoomError : PySem.W.subIn K (.ref (He.ga K "LoomError")) (.type "BaseException") = some true := (of_decide_eq_true (exget c 120 rfl))
  have ty_LoomError : PySem.W.typeIn K (.ref (He.ga K "LoomError")) = some (.type "type") := (of_decide_eq_true (exget c 121 rfl))
  have e_LoomError : ECal K mg "LoomError" (He.ga K "LoomError") := ⟨g_LoomError, a_LoomError, ⟨(He.eqO_ok (exget c 124 rfl)), (He.eqO_ok (exget c 125 rfl)), hs_LoomError, (exget c 126 rfl), (He.eqO_ok (exget c 127 rfl)), (He.eqO_ok (exget c 122 rfl)), (of_decide_eq_true (exget c 123 rfl)), (of_decide_eq_true (exget c 128 rfl))⟩, ty_LoomError, (of_decide_eq_true (exget c 129 rfl))⟩
  have a_NoModule : PySem.W.nsIn K mainGlobals "NoModule" = some (some (.ref (He.ga K "NoModule"))) := (He.eqO_ok (exget c 130 rfl))
  have g_NoModule : mg "NoModule" = some (.ref (He.ga K "NoModule")) := PySem.W.mg_of X G a_NoModule
  have hs_NoModule : PySem.W.subIn K (.ref (He.ga K "NoModule")) (.type "BaseException") = some true := (of_decide_eq_true (exget c 131 rfl))
  have ty_NoModule : PySem.W.typeIn K (.ref (He.ga K "NoModule")) = some (.type "type") := (of_decide_eq_true (exget c 132 rfl))
  have e_NoModule : ECal K mg "NoModule" (He.ga K "NoModule") := ⟨g_NoModule, a_NoModule, ⟨(He.eqO_ok (exget c 133 rfl)), (He.eqO_ok (exget c 134 rfl)), hs_NoModule, (exget c 135 rfl), (He.eqO_ok (exget c 136 rfl)), (He.eqO_ok (exget c 122 rfl)), (of_decide_eq_true (exget c 123 rfl)), (of_decide_eq_true (exget c 137 rfl))⟩, ty_NoModule, (of_decide_eq_true (exget c 138 rfl))⟩
  have e_NoPlace : ECal K mg "NoPlace" (He.ga K "NoPlace") := ⟨g_NoPlace, a_NoPlace, ⟨(He.eqO_ok (exget c 139 rfl)), (He.eqO_ok (exget c 140 rfl)), hs_NoPlace, (exget c 141 rfl), (He.eqO_ok (exget c 142 rfl)), (He.eqO_ok (exget c 122 rfl)), (of_decide_eq_true (exget c 123 rfl)), (of_decide_eq_true (exget c 143 rfl))⟩, ty_NoPlace, (of_decide_eq_true (exget c 144 rfl))⟩
  have u_NoPlace_LoomError : PySem.W.subIn K (.ref (He.ga K "NoPlace")) (.ref (He.ga K "LoomError")) = some true := (of_decide_eq_true (exget c 145 rfl))
  have u_NoPlace_NoModule : PySem.W.subIn K (.ref (He.ga K "NoPlace")) (.ref (He.ga K "NoModule")) = some false := (of_decide_eq_true (exget c 146 rfl))
  have u_NoPlace_NoPlace : PySem.W.subIn K (.ref (He.ga K "NoPlace")) (.ref (He.ga K "NoPlace")) = some true := (of_decide_eq_true (exget c 147 rfl))
  obtain ⟨_, ⟨_, _, dV54, kV54, _, _, _, _, _, _, rfl, l54, e54, dv54, kw54⟩, k54⟩ := D.def_ 54 (d := dd_54) rfl
  rcases dv54 with ⟨_, rfl⟩ | ⟨z, _⟩
  rotate_left
  · exact absurd rfl z
  have F54 := fun_mk (st := s_law_refused) l54 e54 k54
  have a__law_refused : PySem.W.nsIn K mainGlobals "_law_refused" = some (some (.ref (He.ga K "_law_refused"))) := (He.eqO_ok (exget c 148 rfl))
  have g__law_refused : mg "_law_refused" = some (.ref (He.ga K "_law_refused")) := PySem.W.mg_of X G a__law_refused
  have b54 := F54.binds (ps := ["_law_piece", "_law_place"]) fun _ _ _ _ _ _ us hl => match us, hl with | [_, _], _ => rfl
  have c_law_refused : CalG l.prog w K mg base CX0 16 (He.ga K "_law_refused") _ "_law_refused" ["_law_piece", "_law_place"] (sp_law_refused K) := ⟨ok_law_refused F54 m_ValueError m_isinstance m_str c_e_at e_LoomError e_NoModule e_NoPlace n_NoPlace_place u_NoPlace_LoomError u_NoPlace_NoModule u_NoPlace_NoPlace, g__law_refused, k54, b54⟩
  obtain ⟨_, ⟨_, _, dV55, kV55, _, _, _, _, _, _, rfl, l55, e55, dv55, kw55⟩, k55⟩ := D.def_ 55 (d := dd_55) rfl
  rcases dv55 with ⟨_, rfl⟩ | ⟨z, _⟩
  rotate_left
  · exact absurd rfl z
  have F55 := fun_mk (st := s_law_marked) l55 e55 k55
  have a__law_marked : PySem.W.nsIn K mainGlobals "_law_marked" = some (some (.ref (He.ga K "_law_marked"))) := (He.eqO_ok (exget c 149 rfl))
  have g__law_marked : mg "_law_marked" = some (.ref (He.ga K "_law_marked")) := PySem.W.mg_of X G a__law_marked
  have b55 := F55.binds (ps := ["_law_piece"]) fun _ _ _ _ _ _ us hl => match us, hl with | [_], _ => rfl
  have c_law_marked : Cal l.prog w K mg base CX0 16 (He.ga K "_law_marked") _ "_law_marked" ["_law_piece"] (sp_law_marked K) := ⟨ok_law_marked g__law_marked F55 m_isinstance m_list m_tuple, g__law_marked, k55, b55⟩
  have c_copied_eN : Cal l.prog w K mg base CX0 1 (He.ga K "copied_e") _ "copied_e" ["e"] (sp_copied_eN K) := ⟨ok_copied_eN F50 m_list, g_copied_e, k50, b50⟩
  have c_e_atN : Cal l.prog w K mg base CX0 12 (He.ga K "e_at") _ "e_at" ["module", "place"] (sp_e_atN K) := ⟨ok_e_atN F53 c_check_module c_found c_copied_eN, g_e_at, k53, b53⟩
  have he0 : ∀ H : Hp, SqT K H (e0A K) [] := nilT_ok (exget c 150 rfl)
  obtain ⟨_, ⟨_, _, dV56, kV56, _, _, _, _, _, _, rfl, l56, e56, dv56, kw56⟩, k56⟩ := D.def_ 56 (d := dd_56) rfl
  rcases dv56 with ⟨_, rfl⟩ | ⟨z, _⟩
  rotate_left
  · exact absurd rfl z
  have F56 := fun_mk (st := s_walk_into) l56 e56 k56
  have a__walk_into : PySem.W.nsIn K mainGlobals "_walk_into" = some (some (.ref (He.ga K "_walk_into"))) := (He.eqO_ok (exget c 151 rfl))
  have g__walk_into : mg "_walk_into" = some (.ref (He.ga K "_walk_into")) := PySem.W.mg_of X G a__walk_into
  have b56 := F56.binds (ps := ["told", "k", "path", "e"]) fun _ _ _ _ _ _ us hl => match us, hl with | [_, _, _, _], _ => rfl
  have c_walk_into : Cal l.prog w K mg base CX0 12 (He.ga K "_walk_into") _ "_walk_into" ["told", "k", "path", "e"] (sp_walk_into K) := ⟨ok_walk_into g__walk_into F56 m_enumerate t_PART_SPOTS, g__walk_into, k56, b56⟩
  obtain ⟨_, ⟨_, _, dV57, kV57, _, _, _, _, _, _, rfl, l57, e57, dv57, kw57⟩, k57⟩ := D.def_ 57 (d := dd_57) rfl
  rcases dv57 with ⟨_, rfl⟩ | ⟨z, _⟩
  rotate_left
  · exact absurd rfl z
  have F57 := fun_mk (st := s_walk) l57 e57 k57
  have a_walk : PySem.W.nsIn K mainGlobals "walk" = some (some (.ref (He.ga K "walk"))) := (He.eqO_ok (exget c 152 rfl))
  have g_walk : mg "walk" = some (.ref (He.ga K "walk")) := PySem.W.mg_of X G a_walk
  have b57 := F57.binds (ps := ["rows"]) fun _ _ _ _ _ _ us hl => match us, hl with | [_], _ => rfl
  have c_walk : Cal l.prog w K mg base CX0 13 (He.ga K "walk") _ "walk" ["rows"] (sp_walk K) := ⟨ok_walk F57 m_enumerate c_walk_into, g_walk, k57, b57⟩
  obtain ⟨_, ⟨_, _, dV58, kV58, _, _, _, _, _, _, rfl, l58, e58, dv58, kw58⟩, k58⟩ := D.def_ 58 (d := dd_58) rfl
  rcases dv58 with ⟨_, rfl⟩ | ⟨z, _⟩
  rotate_left
  · exact absurd rfl z
  have F58 : FunD K "places" "places" (defArgs s_places) (defBody s_places) (defScope s_places) [] [("only", .ref (e0A K))] (He.ga K "places") _ := ⟨⟨_, _, _, _, _, _, _, _, _, _, rfl, l58, e58, .inl ⟨rfl, rfl⟩, kw58⟩, k58⟩
  have a_places : PySem.W.nsIn K mainGlobals "places" = some (some (.ref (He.ga K "places"))) := (He.eqO_ok (exget c 153 rfl))
  have g_places : mg "places" = some (.ref (He.ga K "places")) := PySem.W.mg_of X G a_places
  have c_placesL : KCal l.prog w K mg base CX0 14 (He.ga K "places") _ "places" ["module", "only"] (sp_placesL K) 1 ["only"] [V.ref (e0A K)] := ⟨ok_placesL F58 c_check_module c_walk, g_places, k58, kb_places F58, kk_places F58⟩
  obtain ⟨_, ⟨_, _, dV59, kV59, _, _, _, _, _, _, rfl, l59, e59, dv59, kw59⟩, k59⟩ := D.def_ 59 (d := dd_59) rfl
  rcases dv59 with ⟨_, rfl⟩ | ⟨z, _⟩
  rotate_left
  · exact absurd rfl z
  have F59 := fun_mk (st := s_law) l59 e59 k59
  have a_law : PySem.W.nsIn K mainGlobals "law" = some (some (.ref (He.ga K "law"))) := (He.eqO_ok (exget c 154 rfl))
  have g_law : mg "law" = some (.ref (He.ga K "law")) := PySem.W.mg_of X G a_law
  exact ok_law F59 m_isinstance m_len m_list m_range m_str c_law_purse c_law_draw c_law_module c_law_deep c_law_all c_law_words c_flows c_law_flows c_law_odd c_law_there c_law_refused c_law_marked c_e_atN he0 c_placesL law_w (fun s v => .of_eq rfl)
end WK
open PySem PySem.W PySem.Calls PyProof.Rows
set_option maxRecDepth 100000 in
set_option maxHeartbeats 0 in
theorem PySem.Challenge.cw_clockloom_k11_places_of_modules_holds : PySem.Challenge.rw_clockloom_k11_places_of_modules.Holds := by
  w_on; o_law
  refine HandSHeadRun.head_imp (r := OpenLaw.row PySem.Challenge.rw_clockloom_k11_places_of_modules) (q := view (OpenLaw.row PySem.Challenge.rw_clockloom_k11_places_of_modules).prog [88]) (H := WK.hkX) (ob := WK.obX) (M := 14000) (loose := WK.nm_all) (d := HandSHeadRun.topDef (OpenLaw.row PySem.Challenge.rw_clockloom_k11_places_of_modules).prog 88) (kwd := []) WK.obX_eq
    WK.runX (by kernel_rfl) (by kernel_rfl) (by kernel_rfl) (by rfl) (by first | assumption | decide +kernel) (by decide +kernel) ⟨rfl, rfl, rfl, rfl, rfl, by decide +kernel⟩ ?hw ?hc
  case hw => w_witness2
  case hc =>
    refine WX.walk_at (l := PySem.Challenge.rw_clockloom_k11_places_of_modules) (n := 63) rfl (by decide) (by kernel_rfl) ?F
    case F =>
      intro w mg fa h Y G hmg0
      obtain ⟨K, KX, c⟩ := Y
      have hmg : mg ("law" : PySem.Str) = some (.ref fa) := by
        have e : (HandSHeadRun.topDef (OpenLaw.row PySem.Challenge.rw_clockloom_k11_places_of_modules).prog 88).name = ("law" : PySem.Str) := by kernel_rfl
        rw [← e]
        exact hmg0
      exact ⟨K, KX, WK.factsX (l := PySem.Challenge.rw_clockloom_k11_places_of_modules) KX G hmg c⟩
