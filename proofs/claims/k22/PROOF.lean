import PyProof.Rows.All
import Wide.All
import OpenK.AllK
import Wide.FinOn
import HandS.ForMost
import HandS.Evl
import HandS.Wide
import HandS.Gcd
import HandS.IsInst
import HandS.Deep
import HandS.Dict
import HandS.Small
import HandS.Style
import HandS.Defaults
import HandS.Head0
import HandS.Head1
import HandS.Head2
import HandS.HeadEnd
import HandS.HeadHook1
import HandS.HeadHook2
import HandS.NoneIn
import HandS.SortRule
import KE.KMathGC
import HandS.List
import HandS.Walk
import PyProof.EnumMake
import PyProof.Draws
import KE.GoesMore
import HandS.MakeKwOnly
import HandS.Flow
import HandS.TupAny
import KE.KRevSl
import PyProof.TupleOfSeq
import HandS.Conv
import HandS.RepeatKit
import PyProof.Rows.Range3
import HandS.SetFor
import PySem.Challenge.RW_meshcore_k22_whole_levels_and_edges
set_option Elab.async false
set_option linter.all false
set_option maxRecDepth 100000
/-! Rf: a calculus over data. What a def does with data (numbers, texts, tuples, lists that nobody changes) is said of the data alone; the heap is carried behind. -/
namespace Rf
open PySem L2 Evl
abbrev D := PyData
/-! ### data in the heap: tuples are plain ones -/
mutual
inductive Dp (K : PySem.W.Frag) (H : Hp) : V → PyData → Prop
  | non : Dp K H .non .none
  | bl (b : Bool) : Dp K H (.bl b) (.bool b)
  | int (i : Int) : Dp K H (.int i) (.int i)
  | str (x : Str) : Dp K H (.str x) (.str x)
  | lst {a : Addr} {xs : List V} {ds : List PyData} : SqL K H a xs → DpAll K H xs ds → H a = some (.lst xs) → Dp K H (.ref a) (.list ds)
  | tup {a : Addr} {xs : List V} {ds : List PyData} : H a = some (.tup xs) → DpAll K H xs ds → Dp K H (.ref a) (.tuple ds)
  | dct {a : Addr} : H a = some (.dT []) → Dp K H (.ref a) (.dict [])
inductive DpAll (K : PySem.W.Frag) (H : Hp) : List V → List PyData → Prop
  | nil : DpAll K H [] []
  | cons {v : V} {vs : List V} {d : PyData} {ds : List PyData} : Dp K H v d → DpAll K H vs ds → DpAll K H (v :: vs) (d :: ds)
end
mutual
theorem Dp.old {K : PySem.W.Frag} {H : Hp} : ∀ {d : D} {v : V}, PyData.canLay0 d = true → Dp K H v d → L2.Dp K H v d
  | .none, _, _, h => by cases h; exact .non
  | .bool b, _, _, h => by cases h; exact .bl b
  | .int i, _, _, h => by cases h; exact .int i
  | .str x, _, _, h => by cases h; exact .str x
  | .list ds, _, c, h => by
    cases h with
    | lst hs ha => exact .lst hs (DpAll.old (by rw [PyData.canLay0] at c; exact c) ha)
  | .tuple ds, _, c, h => by
    cases h with
    | tup hs ha => exact .tup (SqT.of hs) (DpAll.old (by rw [PyData.canLay0] at c; exact c) ha)
  | .dict _, _, c, h => by simp [PyData.canLay0] at c
theorem DpAll.old {K : PySem.W.Frag} {H : Hp} : ∀ {ds : List D} {vs : List V}, PyData.canLayAll0 ds = true → DpAll K H vs ds → L2.DpAll K H vs ds
  | [], _, _, h => by cases h; exact .nil
  | d :: ds, _, c, h => by
    rw [PyData.canLayAll0, Bool.and_eq_true] at c
    cases h with
    | cons h1 h2 => exact .cons (Dp.old c.1 h1) (DpAll.old c.2 h2)
end
theorem ex_tp {K : PySem.W.Frag} {S H : Hp} {a : Addr} {xs : List V} (e : Ex S H) (h : S a = some (.tup xs)) : SqT K H a xs := SqT.of (e a _ h)
/-! ### data stay -/
mutual
theorem dp_mono {K : PySem.W.Frag} {H H' : Hp} (e : Ex H H') : ∀ (d : D) (v : V), Dp K H v d → Dp K H' v d
  | .none, _, h => by cases h; exact .non
  | .bool b, _, h => by cases h; exact .bl b
  | .int i, _, h => by cases h; exact .int i
  | .str x, _, h => by cases h; exact .str x
  | .list ds, _, h => by
    cases h with
    | lst hs ha hp => exact .lst (ex_l e hs) (dpAll_mono e ds _ ha) (e _ _ hp)
  | .tuple ds, _, h => by
    cases h with
    | tup hs ha => exact .tup (e _ _ hs) (dpAll_mono e ds _ ha)
  | .dict _, _, h => by
    cases h with
    | dct hs => exact .dct (e _ _ hs)
theorem dpAll_mono {K : PySem.W.Frag} {H H' : Hp} (e : Ex H H') : ∀ (ds : List D) (vs : List V), DpAll K H vs ds → DpAll K H' vs ds
  | [], _, h => by cases h; exact .nil
  | d :: ds, _, h => by
    cases h with
    | cons h1 h2 => exact .cons (dp_mono e d _ h1) (dpAll_mono e ds _ h2)
end
section
variable {K : PySem.W.Frag} {S H S' H' S2 H2 : Hp}
theorem dpa_len : ∀ {vs : List V} {ds : List D}, DpAll K S vs ds → vs.length = ds.length
  | _, _, .nil => rfl
  | _, _, .cons _ t => congrArg Nat.succ (dpa_len t)
theorem dpa_get : ∀ {vs : List V} {ds : List D} {i : Nat} {d : D}, DpAll K S vs ds → ds[i]? = some d → ∃ v, vs[i]? = some v ∧ Dp K S v d
  | _, _, _, _, .nil, e => by simp at e
  | _, _, 0, _, .cons r _, e => by simp at e; subst e; exact ⟨_, rfl, r⟩
  | _, _, i + 1, x, .cons _ t, e => by
    obtain ⟨u, h1, h2⟩ := dpa_get (i := i) (d := x) t (by simpa using e)
    exact ⟨u, by simpa using h1, h2⟩
theorem dpa_getV : ∀ {vs : List V} {ds : List D} {i : Nat} {v : V}, DpAll K S vs ds → vs[i]? = some v → ∃ d, ds[i]? = some d ∧ Dp K S v d
  | _, _, _, _, .nil, e => by simp at e
  | _, _, 0, _, .cons r _, e => by simp at e; subst e; exact ⟨_, rfl, r⟩
  | _, _, i + 1, x, .cons _ t, e => by
    obtain ⟨u, h1, h2⟩ := dpa_getV (i := i) (v := x) t (by simpa using e)
    exact ⟨u, by simpa using h1, h2⟩
theorem dpa_app : ∀ {xs ys : List V} {us ws : List D}, DpAll K S xs us → DpAll K S ys ws → DpAll K S (xs ++ ys) (us ++ ws)
  | _, _, _, _, .nil, s => s
  | _, _, _, _, .cons r t, s => .cons r (dpa_app t s)
/-- a step that only adds: S what is known, H all -/
structure Step (S H S' H' : Hp) : Prop where
  s : Ex S S'
  k : Ex S' H'
  h : Ex H H'
  hid : ∀ b o, H b = some o → (∀ xs, o ≠ .tup xs) → S b = none → S' b = none
theorem Step.refl (e : Ex S H) : Step S H S H := ⟨Ex.refl S, e, Ex.refl H, fun _ _ _ _ n => n⟩
theorem Step.trans (a : Step S H S' H') (b : Step S' H' S2 H2) : Step S H S2 H2 :=
  ⟨a.s.trans b.s, b.k, a.h.trans b.h, fun c o q t n => b.hid c o (a.h c o q) t (a.hid c o q t n)⟩
theorem ex_none (e : Ex S H) {p : Addr} (h : H p = none) : S p = none := by
  cases q : S p with
  | none => rfl
  | some o => rw [e p o q] at h; cases h
theorem ex_upd (e : Ex S H) {p : Addr} {o : HO} : Ex (upd S p o) (upd H p o) := fun a u h => by
  by_cases hp : a = p
  · subst hp; rw [upd_same] at h ⊢; exact h
  · rw [upd_ne hp] at h ⊢; exact e a u h
theorem Step.new (e : Ex S H) {p : Addr} {o : HO} (h : H p = none) : Step S H (upd S p o) (upd H p o) :=
  ⟨Ex.new (ex_none e h), ex_upd e, Ex.new h, fun b u q _ n => by rw [upd_ne (ne_of_none q h)]; exact n⟩
theorem dp_tup {p : Addr} {vs : List V} {ds : List D} (h : S p = none) (a : DpAll K S vs ds) : Dp K (upd S p (.tup vs)) (.ref p) (.tuple ds) :=
  .tup upd_same (dpAll_mono (Ex.new h) ds vs a)
theorem dp_lst {p : Addr} {vs : List V} {ds : List D} (h : S p = none) (a : DpAll K S vs ds) : Dp K (upd S p (.lst vs)) (.ref p) (.list ds) :=
  .lst (SqL.of upd_same) (dpAll_mono (Ex.new h) ds vs a) upd_same
end
/-! ### the frame of a def -/
/-- the drawing's own list: [script, place, number, rest] -/
def RowOk (K : PySem.W.Frag) (S H : Hp) (R : Addr) : Prop := S R = none ∧ ∃ (A : Addr) (ns : List Int) (i m r : Int),
  H R = some (.lst [.ref A, .int i, .int m, .int r]) ∧ SqL K S A (ns.map V.int) ∧ 0 ≤ i ∧ 0 ≤ m ∧ m < 2147483647 ∧ 0 ≤ r
/-- R: the row, where there is one; H0, S0: the entry -/
structure Fm where
  R : Option Addr
  H0 : Hp
  S0 : Hp
structure Base (K : PySem.W.Frag) (C : Fm) (S H : Hp) : Prop where
  ex : Ex S H
  fr : ∀ a o, C.R ≠ some a → C.H0 a = some o → H a = some o
  hid : ∀ a o, C.H0 a = some o → (∀ xs, o ≠ .tup xs) → C.S0 a = none → S a = none
  s0 : Ex C.S0 S
  row : ∀ r, C.R = some r → RowOk K S H r
section
variable {K : PySem.W.Frag} {C : Fm} {S H S' H' : Hp}
theorem RowOk.step {R : Addr} (r : RowOk K S H R) (s : Step S H S' H') : RowOk K S' H' R := by
  obtain ⟨n, A, ns, i, m, q, h1, h2, h3⟩ := r
  exact ⟨s.hid R _ h1 (fun _ z => nomatch z) n, A, ns, i, m, q, s.h _ _ h1, ex_l s.s h2, h3⟩
/-- a step of this def: the row may have been drawn from -/
structure Stp (K : PySem.W.Frag) (C : Fm) (S H S' H' : Hp) : Prop where
  s : Ex S S'
  k : Ex S' H'
  h : ∀ a o, C.R ≠ some a → H a = some o → H' a = some o
  hid : ∀ b o, H b = some o → (∀ xs, o ≠ .tup xs) → S b = none → S' b = none
  row : ∀ r, C.R = some r → RowOk K S' H' r
theorem Step.stp (s : Step S H S' H') (b : Base K C S H) : Stp K C S H S' H' := ⟨s.s, s.k, fun a o _ q => s.h a o q, s.hid, fun r e => (b.row r e).step s⟩
theorem Stp.refl (b : Base K C S H) : Stp K C S H S H := (Step.refl b.ex).stp b
theorem Stp.trans {S2 H2 : Hp} (a : Stp K C S H S' H') (b : Stp K C S' H' S2 H2) : Stp K C S H S2 H2 :=
  ⟨a.s.trans b.s, b.k, fun c o n q => b.h c o n (a.h c o n q), fun c o q t n => by
    by_cases hr : C.R = some c
    · exact (b.row c hr).1
    · exact b.hid c o (a.h c o hr q) t (a.hid c o q t n), b.row⟩
theorem Base.step (b : Base K C S H) (s : Stp K C S H S' H') : Base K C S' H' where
  ex := s.k
  fr := fun a o n q => s.h a o n (b.fr a o n q)
  hid := fun a o q t n => by
    by_cases hr : C.R = some a
    · exact (s.row a hr).1
    · exact s.hid a o (b.fr a o hr q) t (b.hid a o q t n)
  s0 := b.s0.trans s.s
  row := s.row
end
/-! ### slots -/
inductive Sc where
  | dat (d : D)
  | own (ds : List D)
  | row
  | dic (f : List Key → Option D) (n : Nat)
abbrev En := List (Option Sc)
/-- what a dict of the def's own holds, and what is told of it -/
def OptD (K : PySem.W.Frag) (S : Hp) : Option V → Option D → Prop
  | none, none => True
  | some v, some d => Dp K S v d
  | _, _ => False
theorem OptD.mono {K : PySem.W.Frag} {S S' : Hp} (e : Ex S S') : ∀ {v : Option V} {d : Option D}, OptD K S v d → OptD K S' v d
  | none, none, _ => True.intro
  | some v, some d, h => dp_mono e d v h
  | none, some _, h => h.elim
  | some _, none, h => h.elim
def SlotOk (K : PySem.W.Frag) (C : Fm) (S H : Hp) (v : V) : Sc → Prop
  | .dat d => Dp K S v d
  | .own ds => ∃ a xs, v = .ref a ∧ S a = none ∧ C.H0 a = none ∧ C.R ≠ some a ∧ H a = some (.lst xs) ∧ DpAll K S xs ds
  | .row => ∃ r, C.R = some r ∧ v = .ref r
  | .dic f n => ∃ (a : Addr) (ws : List (List Key × V)), v = .ref a ∧ S a = none ∧ C.H0 a = none ∧ C.R ≠ some a ∧ H a = some (.dT ws) ∧ (ws.length ≤ n ∧ (ws.map fun p => p.1).Nodup) ∧ ∀ k, OptD K S (valV ws k) (f k)
structure Rep (K : PySem.W.Frag) (C : Fm) (S : Hp) (env : En) (σ : L2.St) (H : Hp) : Prop where
  base : Base K C S H
  len : σ.length = env.length
  slot : ∀ (i : Nat) (c : Sc), env[i]? = some (some c) → ∃ v, σ[i]? = some (some v) ∧ SlotOk K C S H v c
  apart : ∀ (i j : Nat) (ds es : List D) (v : V), i ≠ j → env[i]? = some (some (.own ds)) → env[j]? = some (some (.own es)) → σ[i]? = some (some v) → σ[j]? ≠ some (some v)
  apartD : ∀ (i j : Nat) (f g : List Key → Option D) (n m : Nat) (v : V), i ≠ j → env[i]? = some (some (.dic f n)) → env[j]? = some (some (.dic g m)) → σ[i]? = some (some v) → σ[j]? ≠ some (some v)
section
variable {K : PySem.W.Frag} {C : Fm} {S H S' H' : Hp} {env : En} {σ : L2.St}
theorem SlotOk.step {v : V} {c : Sc} (q : SlotOk K C S H v c) (s : Stp K C S H S' H') : SlotOk K C S' H' v c := by
  cases c with
  | dat d => exact dp_mono s.s d v q
  | own ds =>
    obtain ⟨a, xs, e, n, n0, nr, h1, h2⟩ := q
    exact ⟨a, xs, e, s.hid a _ h1 (fun _ z => nomatch z) n, n0, nr, s.h _ _ nr h1, dpAll_mono s.s ds xs h2⟩
  | row => exact q
  | dic f n =>
    obtain ⟨a, ws, e, n1, n0, nr, h1, h2, h3⟩ := q
    exact ⟨a, ws, e, s.hid a _ h1 (fun _ z => nomatch z) n1, n0, nr, s.h _ _ nr h1, h2, fun k => (h3 k).mono s.s⟩
theorem Rep.step (r : Rep K C S env σ H) (s : Stp K C S H S' H') : Rep K C S' env σ H' where
  base := r.base.step s
  len := r.len
  slot := fun i c e => let ⟨v, h1, h2⟩ := r.slot i c e; ⟨v, h1, h2.step s⟩
  apart := r.apart
  apartD := r.apartD
/-- a slot is given data -/
theorem Rep.set (r : Rep K C S env σ H) (i : Nat) {v : V} {d : D} (q : Dp K S v d) : Rep K C S (env.set i (some (.dat d))) (σ.set i (some v)) H where
  base := r.base
  len := by rw [List.length_set, List.length_set]; exact r.len
  slot := fun j c e => by
    by_cases hj : i = j
    · subst hj
      by_cases hl : i < env.length
      · rw [List.getElem?_set_self hl] at e
        have e' : Sc.dat d = c := Option.some.inj (Option.some.inj e)
        subst e'
        exact ⟨v, List.getElem?_set_self (by rw [r.len]; exact hl), q⟩
      · rw [List.getElem?_eq_none (by rw [List.length_set]; omega)] at e
        cases e
    · rw [List.getElem?_set_ne hj] at e
      obtain ⟨w, h1, h2⟩ := r.slot j c e
      exact ⟨w, by rw [List.getElem?_set_ne hj]; exact h1, h2⟩
  apart := fun a b ds es w hab e1 e2 e3 => by
    have na : i ≠ a := fun q' => by
      subst q'
      by_cases hl : i < env.length
      · rw [List.getElem?_set_self hl] at e1; cases e1
      · rw [List.getElem?_eq_none (by rw [List.length_set]; omega)] at e1; cases e1
    have nb : i ≠ b := fun q' => by
      subst q'
      by_cases hl : i < env.length
      · rw [List.getElem?_set_self hl] at e2; cases e2
      · rw [List.getElem?_eq_none (by rw [List.length_set]; omega)] at e2; cases e2
    rw [List.getElem?_set_ne na] at e1 e3
    rw [List.getElem?_set_ne nb] at e2
    rw [List.getElem?_set_ne nb]
    exact r.apart a b ds es w hab e1 e2 e3
  apartD := fun a b f g n m w hab e1 e2 e3 => by
    have na : i ≠ a := fun q' => by
      subst q'
      by_cases hl : i < env.length
      · rw [List.getElem?_set_self hl] at e1; cases e1
      · rw [List.getElem?_eq_none (by rw [List.length_set]; omega)] at e1; cases e1
    have nb : i ≠ b := fun q' => by
      subst q'
      by_cases hl : i < env.length
      · rw [List.getElem?_set_self hl] at e2; cases e2
      · rw [List.getElem?_eq_none (by rw [List.length_set]; omega)] at e2; cases e2
    rw [List.getElem?_set_ne na] at e1 e3
    rw [List.getElem?_set_ne nb] at e2
    rw [List.getElem?_set_ne nb]
    exact r.apartD a b f g n m w hab e1 e2 e3
/-- a slot is forgotten -/
theorem Rep.unset (r : Rep K C S env σ H) (i : Nat) : Rep K C S (env.set i none) (σ.set i none) H where
  base := r.base
  len := by rw [List.length_set, List.length_set]; exact r.len
  slot := fun j c e => by
    by_cases hj : i = j
    · subst hj
      by_cases hl : i < env.length
      · rw [List.getElem?_set_self hl] at e; cases e
      · rw [List.getElem?_eq_none (by rw [List.length_set]; omega)] at e; cases e
    · rw [List.getElem?_set_ne hj] at e
      obtain ⟨w, h1, h2⟩ := r.slot j c e
      exact ⟨w, by rw [List.getElem?_set_ne hj]; exact h1, h2⟩
  apart := fun a b ds es w hab e1 e2 e3 => by
    have na : i ≠ a := fun q' => by
      subst q'
      by_cases hl : i < env.length
      · rw [List.getElem?_set_self hl] at e1; cases e1
      · rw [List.getElem?_eq_none (by rw [List.length_set]; omega)] at e1; cases e1
    have nb : i ≠ b := fun q' => by
      subst q'
      by_cases hl : i < env.length
      · rw [List.getElem?_set_self hl] at e2; cases e2
      · rw [List.getElem?_eq_none (by rw [List.length_set]; omega)] at e2; cases e2
    rw [List.getElem?_set_ne na] at e1 e3
    rw [List.getElem?_set_ne nb] at e2
    rw [List.getElem?_set_ne nb]
    exact r.apart a b ds es w hab e1 e2 e3
  apartD := fun a b f g n m w hab e1 e2 e3 => by
    have na : i ≠ a := fun q' => by
      subst q'
      by_cases hl : i < env.length
      · rw [List.getElem?_set_self hl] at e1; cases e1
      · rw [List.getElem?_eq_none (by rw [List.length_set]; omega)] at e1; cases e1
    have nb : i ≠ b := fun q' => by
      subst q'
      by_cases hl : i < env.length
      · rw [List.getElem?_set_self hl] at e2; cases e2
      · rw [List.getElem?_eq_none (by rw [List.length_set]; omega)] at e2; cases e2
    rw [List.getElem?_set_ne na] at e1 e3
    rw [List.getElem?_set_ne nb] at e2
    rw [List.getElem?_set_ne nb]
    exact r.apartD a b f g n m w hab e1 e2 e3
end
/-! ### expressions -/
def WE (K : PySem.W.Frag) (C : Fm) (te : TE) (env : En) (Φ : D → Prop) : Prop := ∀ S σ H, Rep K C S env σ H → ∀ Q : VK, (∀ d v S' H', Stp K C S H S' H' → Dp K S' v d → Φ d → Q v H') → te σ H Q
def WT (K : PySem.W.Frag) (C : Fm) (tt : TT) (env : En) (Φ : Bool → Prop) : Prop := ∀ S σ H, Rep K C S env σ H → ∀ Q : Bool → Hp → Prop, (∀ b S' H', Stp K C S H S' H' → Φ b → Q b H') → tt σ H Q
def WA (K : PySem.W.Frag) (C : Fm) (ta : TA) (env : En) (Φ : List D → Prop) : Prop := ∀ S σ H, Rep K C S env σ H → ∀ Q : List V → Hp → Prop, (∀ ds vs S' H', Stp K C S H S' H' → DpAll K S' vs ds → Φ ds → Q vs H') → ta σ H Q
/-- a two-place operation on data, a call of a built-in, a one-place one -/
def RD (K : PySem.W.Frag) (r : R2) (x y : D) (Φ : D → Prop) : Prop := ∀ S H v w, Ex S H → Dp K S v x → Dp K S w y → ∀ Q : VK, (∀ d z S' H', Step S H S' H' → Dp K S' z d → Φ d → Q z H') → r v w H Q
def CD (K : PySem.W.Frag) (r : List V → Hp → VK → Prop) (ds : List D) (Φ : D → Prop) : Prop := ∀ S H vs, Ex S H → DpAll K S vs ds → ∀ Q : VK, (∀ d z S' H', Step S H S' H' → Dp K S' z d → Φ d → Q z H') → r vs H Q
def UD (K : PySem.W.Frag) (r : V → Hp → VK → Prop) (x : D) (Φ : D → Prop) : Prop := ∀ S H v, Ex S H → Dp K S v x → ∀ Q : VK, (∀ d z S' H', Step S H S' H' → Dp K S' z d → Φ d → Q z H') → r v H Q
section
variable {K : PySem.W.Frag} {C : Fm} {env : En} {ta tb te tx tc : TE} {t u : TT} {r r' : R2} {Φ Ψ : D → Prop}
theorem WE.imp (h : WE K C te env Ψ) (i : ∀ d, Ψ d → Φ d) : WE K C te env Φ := fun S σ H p Q q => h S σ H p Q fun d v S' H' a b c => q d v S' H' a b (i d c)
theorem WT.imp {Φ Ψ : Bool → Prop} (h : WT K C t env Ψ) (i : ∀ d, Ψ d → Φ d) : WT K C t env Φ := fun S σ H p Q q => h S σ H p Q fun d S' H' a b => q d S' H' a (i d b)
theorem WA.imp {tr : TA} {Φ Ψ : List D → Prop} (h : WA K C tr env Ψ) (i : ∀ d, Ψ d → Φ d) : WA K C tr env Φ := fun S σ H p Q q => h S σ H p Q fun d v S' H' a b c => q d v S' H' a b (i d c)
theorem we_var {i : Nat} {d : D} (h : env[i]? = some (some (.dat d))) (q : Φ d) : WE K C (tVar i) env Φ := fun S σ H p Q k => by
  obtain ⟨v, h1, h2⟩ := p.slot i _ h
  exact ⟨v, h1, k d v S H (Stp.refl p.base) h2 q⟩
theorem we_int {i : Int} (q : Φ (.int i)) : WE K C (tC (.int i)) env Φ := fun S σ H p Q k => k _ _ S H (Stp.refl p.base) (.int i) q
theorem we_bl {b : Bool} (q : Φ (.bool b)) : WE K C (tC (.bl b)) env Φ := fun S σ H p Q k => k _ _ S H (Stp.refl p.base) (.bl b) q
theorem we_non (q : Φ .none) : WE K C (tC .non) env Φ := fun S σ H p Q k => k _ _ S H (Stp.refl p.base) .non q
theorem we_str {x : Str} (q : Φ (.str x)) : WE K C (tC (.str x)) env Φ := fun S σ H p Q k => k _ _ S H (Stp.refl p.base) (.str x) q
theorem we_op (h : WE K C ta env fun x => WE K C tb env fun y => RD K r x y Φ) : WE K C (tOp r ta tb) env Φ := fun S σ H p Q k =>
  h S σ H p _ fun x v S1 H1 s1 d1 h1 => h1 S1 σ H1 (p.step s1) _ fun y w S2 H2 s2 d2 h2 =>
    h2 S2 H2 v w s2.k (dp_mono s2.s x v d1) d2 Q fun d z S3 H3 s3 d3 q3 => k d z S3 H3 ((s1.trans s2).trans (s3.stp ((p.step s1).step s2).base)) d3 q3
theorem we_un {r : V → Hp → VK → Prop} (h : WE K C ta env fun x => UD K r x Φ) : WE K C (tUn r ta) env Φ := fun S σ H p Q k =>
  h S σ H p _ fun x v S1 H1 s1 d1 h1 => h1 S1 H1 v s1.k d1 Q fun d z S3 H3 s3 d3 q3 => k d z S3 H3 (s1.trans (s3.stp (p.step s1).base)) d3 q3
theorem wa_nil {Φ : List D → Prop} (q : Φ []) : WA K C tNil env Φ := fun S σ H p Q k => k [] [] S H (Stp.refl p.base) .nil q
theorem wa_cons {tr : TA} {Φ : List D → Prop} (h : WE K C ta env fun x => WA K C tr env fun xs => Φ (x :: xs)) : WA K C (tCons ta tr) env Φ := fun S σ H p Q k =>
  h S σ H p _ fun x v S1 H1 s1 d1 h1 => h1 S1 σ H1 (p.step s1) _ fun xs vs S2 H2 s2 d2 h2 => k (x :: xs) (v :: vs) S2 H2 (s1.trans s2) (.cons (dp_mono s2.s x v d1) d2) h2
theorem line_of {n : Nat} (h : n ≤ 100000) : n ≤ sizeLine := Nat.le_trans h (by decide)
theorem line_lt {n : Nat} (h : n < 100000) : n < sizeLine := Nat.lt_of_lt_of_le h (by decide)
theorem we_tup {tr : TA} (h : WA K C tr env fun ds => ds.length ≤ 100000 ∧ Φ (.tuple ds)) : WE K C (tTup tr) env Φ := fun S σ H p Q k =>
  h S σ H p _ fun ds vs S1 H1 s1 d1 ⟨l, h1⟩ => ⟨by rw [dpa_len d1]; exact line_of l, fun a ha => k _ _ _ _ (s1.trans ((Step.new s1.k ha).stp (p.step s1).base)) (dp_tup (ex_none s1.k ha) d1) h1⟩
theorem we_lst {tr : TA} (h : WA K C tr env fun ds => ds.length ≤ 100000 ∧ Φ (.list ds)) : WE K C (tLst tr) env Φ := fun S σ H p Q k =>
  h S σ H p _ fun ds vs S1 H1 s1 d1 ⟨l, h1⟩ => ⟨by rw [dpa_len d1]; exact line_of l, fun a ha => k _ _ _ _ (s1.trans ((Step.new s1.k ha).stp (p.step s1).base)) (dp_lst (ex_none s1.k ha) d1) h1⟩
theorem we_CB {tr : TA} {r : List V → Hp → VK → Prop} (h : WA K C tr env fun ds => CD K r ds Φ) : WE K C (tCB r tr) env Φ := fun S σ H p Q k =>
  h S σ H p _ fun ds vs S1 H1 s1 d1 h1 => h1 S1 H1 vs s1.k d1 Q fun d z S3 H3 s3 d3 q3 => k d z S3 H3 (s1.trans (s3.stp (p.step s1).base)) d3 q3
theorem we_if (h : WT K C t env fun b => (b = true → WE K C ta env Φ) ∧ (b = false → WE K C tb env Φ)) : WE K C (tIf t ta tb) env Φ := fun S σ H p Q k =>
  h S σ H p _ fun b S1 H1 s1 ⟨h1, h2⟩ => by
    cases b with
    | true =>
      show ta σ H1 Q
      exact h1 rfl S1 σ H1 (p.step s1) Q fun d v S2 H2 s2 => k d v S2 H2 (s1.trans s2)
    | false =>
      show tb σ H1 Q
      exact h2 rfl S1 σ H1 (p.step s1) Q fun d v S2 H2 s2 => k d v S2 H2 (s1.trans s2)
theorem wt_test {Φ : Bool → Prop} (h : WE K C te env fun d => ∃ b, d = .bool b ∧ Φ b) : WT K C (tTest te) env Φ := fun S σ H p Q k =>
  h S σ H p _ fun d v S1 H1 s1 d1 ⟨b, e, h1⟩ => by
    subst e
    cases d1
    exact ⟨b, rfl, k b S1 H1 s1 h1⟩
theorem wt_B {Φ : Bool → Prop} (h : WE K C te env fun d => ∃ b, d = .bool b ∧ Φ b) : WT K C (tB te) env Φ := fun S σ H p Q k =>
  h S σ H p _ fun d v S1 H1 s1 d1 ⟨b, e, h1⟩ => by
    subst e
    cases d1
    exact ⟨b, rfl, k b S1 H1 s1 h1⟩
theorem wt_and {Φ : Bool → Prop} (h : WT K C t env fun a => (a = true → WT K C u env Φ) ∧ (a = false → Φ false)) : WT K C (tAnd t u) env Φ := fun S σ H p Q k =>
  h S σ H p _ fun b S1 H1 s1 ⟨h1, h2⟩ => by
    cases b with
    | true =>
      show u σ H1 Q
      exact h1 rfl S1 σ H1 (p.step s1) Q fun d S2 H2 s2 => k d S2 H2 (s1.trans s2)
    | false =>
      show Q false H1
      exact k false S1 H1 s1 (h2 rfl)
theorem wt_or {Φ : Bool → Prop} (h : WT K C t env fun a => (a = true → Φ true) ∧ (a = false → WT K C u env Φ)) : WT K C (tOr t u) env Φ := fun S σ H p Q k =>
  h S σ H p _ fun b S1 H1 s1 ⟨h1, h2⟩ => by
    cases b with
    | true =>
      show Q true H1
      exact k true S1 H1 s1 (h1 rfl)
    | false =>
      show u σ H1 Q
      exact h2 rfl S1 σ H1 (p.step s1) Q fun d S2 H2 s2 => k d S2 H2 (s1.trans s2)
theorem wt_not {Φ : Bool → Prop} (h : WT K C t env fun a => Φ (!a)) : WT K C (tNot t) env Φ := fun S σ H p Q k => h S σ H p _ fun b S1 H1 s1 h1 => k _ S1 H1 s1 h1
theorem we_andV (h : WE K C ta env fun d => ∃ a, d = .bool a ∧ (a = true → WE K C tb env Φ) ∧ (a = false → Φ (.bool false))) : WE K C (tAndV ta tb) env Φ := fun S σ H p Q k =>
  h S σ H p _ fun d v S1 H1 s1 d1 ⟨b, e, h1, h2⟩ => by
    subst e
    cases d1
    refine ⟨b, rfl, ?_⟩
    cases b with
    | true =>
      show tb σ H1 Q
      exact h1 rfl S1 σ H1 (p.step s1) Q fun d v S2 H2 s2 => k d v S2 H2 (s1.trans s2)
    | false =>
      show Q (.bl false) H1
      exact k _ _ S1 H1 s1 (.bl false) (h2 rfl)
theorem we_orV (h : WE K C ta env fun d => ∃ a, d = .bool a ∧ (a = true → Φ (.bool true)) ∧ (a = false → WE K C tb env Φ)) : WE K C (tOrV ta tb) env Φ := fun S σ H p Q k =>
  h S σ H p _ fun d v S1 H1 s1 d1 ⟨b, e, h1, h2⟩ => by
    subst e
    cases d1
    refine ⟨b, rfl, ?_⟩
    cases b with
    | true =>
      show Q (.bl true) H1
      exact k _ _ S1 H1 s1 (.bl true) (h1 rfl)
    | false =>
      show tb σ H1 Q
      exact h2 rfl S1 σ H1 (p.step s1) Q fun d v S2 H2 s2 => k d v S2 H2 (s1.trans s2)
theorem we_notV (h : WE K C ta env fun d => ∃ a, d = .bool a ∧ Φ (.bool (!a))) : WE K C (tNotV ta) env Φ := fun S σ H p Q k =>
  h S σ H p _ fun d v S1 H1 s1 d1 ⟨b, e, h1⟩ => by
    subst e
    cases d1
    exact ⟨b, rfl, k _ _ S1 H1 s1 (.bl _) h1⟩
theorem we_chain (h : WE K C ta env fun x => WE K C tb env fun y => RD K r x y fun z => ∃ b, z = .bool b ∧ (b = true → WE K C tc env fun w => RD K r' y w Φ) ∧ (b = false → Φ (.bool false))) : WE K C (tChain r r' ta tb tc) env Φ := fun S σ H p Q k =>
  h S σ H p _ fun x v S1 H1 s1 d1 h1 => h1 S1 σ H1 (p.step s1) _ fun y w S2 H2 s2 d2 h2 =>
    h2 S2 H2 v w s2.k (dp_mono s2.s x v d1) d2 _ fun d z S3 H3 s3 d3 ⟨b, e, h3, h4⟩ => by
      subst e
      cases d3
      have p3 := ((p.step s1).step s2).step (s3.stp ((p.step s1).step s2).base)
      have s := (s1.trans s2).trans (s3.stp ((p.step s1).step s2).base)
      refine ⟨b, rfl, ?_⟩
      cases b with
      | true =>
        show tc σ H3 _
        exact h3 rfl S3 σ H3 p3 _ fun w' z' S4 H4 s4 d4 h5 => h5 S4 H4 w z' s4.k (dp_mono (s3.s.trans s4.s) y w d2) d4 Q fun d5 z5 S5 H5 s5 dd5 q5 => k d5 z5 S5 H5 ((s.trans s4).trans (s5.stp (p3.step s4).base)) dd5 q5
      | false =>
        show Q (.bl false) H3
        exact k _ _ S3 H3 s (.bl false) (h4 rfl)
end
end Rf
set_option Elab.async false
set_option linter.all false
set_option maxRecDepth 100000
namespace Rf
open PySem L2 Evl
/-! ### operators -/
section
variable {K : PySem.W.Frag} {C : Fm} {env : En} {ta tb te tx tc : TE} {t u : TT} {r r' : R2} {Φ Ψ : D → Prop}
theorem rd_I0i {f : Int → Int → Int} {i j : Int} (q : Φ (.int (f i j))) : RD K (rI0 fun i j => .int (f i j)) (.int i) (.int j) Φ := fun S H v w e d1 d2 Q k => by
  cases d1; cases d2
  exact ⟨i, j, rfl, rfl, k _ _ S H (Step.refl e) (.int _) q⟩
theorem rd_I0b {f : Int → Int → Bool} {i j : Int} (q : Φ (.bool (f i j))) : RD K (rI0 fun i j => .bl (f i j)) (.int i) (.int j) Φ := fun S H v w e d1 d2 Q k => by
  cases d1; cases d2
  exact ⟨i, j, rfl, rfl, k _ _ S H (Step.refl e) (.bl _) q⟩
theorem rd_Ii {P : Int → Int → Prop} {f : Int → Int → Int} {i j : Int} (h : P i j) (q : Φ (.int (f i j))) : RD K (rI P fun i j => .int (f i j)) (.int i) (.int j) Φ := fun S H v w e d1 d2 Q k => by
  cases d1; cases d2
  exact ⟨i, j, rfl, rfl, h, k _ _ S H (Step.refl e) (.int _) q⟩
theorem ud_U {f : Int → Int} {i : Int} (q : Φ (.int (f i))) : UD K (rU fun i => .int (f i)) (.int i) Φ := fun S H v e d1 Q k => by
  cases d1
  exact ⟨i, rfl, k _ _ S H (Step.refl e) (.int _) q⟩
theorem rd_eqD {x y : D} (s1 : SeqAt.shaped x = true) (s2 : SeqAt.shaped y = true) (q : Φ (.bool (PyData.eqv x y))) : RD K (rEqD K) x y Φ := fun S H v w e d1 d2 Q k =>
  ⟨x, y, (dp_mono e x v d1).old (SeqAt.canLay_of_shaped s1), (dp_mono e y w d2).old (SeqAt.canLay_of_shaped s2), s1, s2, k _ _ S H (Step.refl e) (.bl _) q⟩
theorem rd_neD {x y : D} (s1 : SeqAt.shaped x = true) (s2 : SeqAt.shaped y = true) (q : Φ (.bool (!PyData.eqv x y))) : RD K (rNeD K) x y Φ := fun S H v w e d1 d2 Q k =>
  ⟨x, y, (dp_mono e x v d1).old (SeqAt.canLay_of_shaped s1), (dp_mono e y w d2).old (SeqAt.canLay_of_shaped s2), s1, s2, k _ _ S H (Step.refl e) (.bl _) q⟩
theorem rd_inD {x : D} {ys : List D} (s1 : SeqAt.shaped x = true) (s2 : SeqAt.shaped (.list ys) = true) (q : Φ (.bool (ys.any fun z => PyData.eqv z x))) : RD K (rInD K) x (.list ys) Φ := fun S H v w e d1 d2 Q k =>
  ⟨x, ys, (dp_mono e x v d1).old (SeqAt.canLay_of_shaped s1), (dp_mono e _ w d2).old (SeqAt.canLay_of_shaped s2), s1, s2, k _ _ S H (Step.refl e) (.bl _) q⟩
theorem rd_notInD {x : D} {ys : List D} (s1 : SeqAt.shaped x = true) (s2 : SeqAt.shaped (.list ys) = true) (q : Φ (.bool (!ys.any fun z => PyData.eqv z x))) : RD K (rNotInD K) x (.list ys) Φ := fun S H v w e d1 d2 Q k =>
  ⟨x, ys, (dp_mono e x v d1).old (SeqAt.canLay_of_shaped s1), (dp_mono e _ w d2).old (SeqAt.canLay_of_shaped s2), s1, s2, k _ _ S H (Step.refl e) (.bl _) q⟩
/-- is None, is not None -/
def isNoneD : D → Bool | .none => true | _ => false
theorem isNone_of {S : Hp} {v : V} {d : D} (h : Dp K S v d) : decide (v = .non) = isNoneD d := by
  cases h <;> first | rfl | exact decide_eq_false (fun q => nomatch q)
theorem rd_isN {x y : D} (hy : y = .none) (q : Φ (.bool (isNoneD x))) : RD K (fun x y H Q => y = .non ∧ Q (.bl (decide (x = .non))) H) x y Φ := fun S H v w e d1 d2 Q k => by
  subst hy; cases d2
  exact ⟨rfl, by rw [isNone_of d1]; exact k _ _ S H (Step.refl e) (.bl _) q⟩
theorem rd_notN {x y : D} (hy : y = .none) (q : Φ (.bool (!isNoneD x))) : RD K (fun x y H Q => y = .non ∧ Q (.bl (!decide (x = .non))) H) x y Φ := fun S H v w e d1 d2 Q k => by
  subst hy; cases d2
  exact ⟨rfl, by rw [isNone_of d1]; exact k _ _ S H (Step.refl e) (.bl _) q⟩
/-- an item -/
theorem rd_ixT {ds : List D} {i : Int} {d : D} (h : atI ds i = some d) (q : Φ d) : RD K (rIxT K) (.tuple ds) (.int i) Φ := fun S H v w e d1 d2 Q k => by
  cases d2
  cases d1 with
  | @tup a xs _ hs ha =>
    have hl := dpa_len ha
    unfold atI at h
    cases e1 : ixN ds.length i with
    | none => rw [e1] at h; cases h
    | some j =>
      rw [e1] at h
      obtain ⟨z, hz, dz⟩ := dpa_get ha (show ds[j]? = some d from h)
      exact ⟨a, xs, i, z, rfl, rfl, ex_tp (K := K) e hs, by unfold atI; rw [hl, e1]; exact hz, k d z S H (Step.refl e) dz q⟩
theorem rd_ixL {ds : List D} {i : Int} {d : D} (h : atI ds i = some d) (q : Φ d) : RD K (rIxL K) (.list ds) (.int i) Φ := fun S H v w e d1 d2 Q k => by
  cases d2
  cases d1 with
  | @lst a xs _ hs ha =>
    have hl := dpa_len ha
    unfold atI at h
    cases e1 : ixN ds.length i with
    | none => rw [e1] at h; cases h
    | some j =>
      rw [e1] at h
      obtain ⟨z, hz, dz⟩ := dpa_get ha (show ds[j]? = some d from h)
      exact ⟨a, xs, i, z, rfl, rfl, ex_l e hs, by unfold atI; rw [hl, e1]; exact hz, k d z S H (Step.refl e) dz q⟩
/-- items of lists, tuples -/
theorem rd_ixS {ds : List D} {x : D} {i : Int} {d : D} (hx : x = .tuple ds ∨ x = .list ds) (h : atI ds i = some d) (q : Φ d) : RD K (rIx K) x (.int i) Φ := fun S H v w e d1 d2 Q k => by
  rcases hx with rfl | rfl
  · exact .inr (.inl (rd_ixT h q S H v w e d1 d2 Q k))
  · exact .inl (rd_ixL h q S H v w e d1 d2 Q k)
/-! ### isinstance -/
def tyN : D → String
  | .none => "NoneType" | .bool _ => "bool" | .int _ => "int" | .str _ => "str" | .list _ => "list" | .tuple _ => "tuple" | .dict _ => "dict"
theorem tyX_old {H : Hp} : ∀ {d : D} {v : V}, L2.Dp K H v d → TyX K H v (.type (tyN d))
  | _, _, .non => .base .non
  | _, _, .bl b => .base (.bl b)
  | _, _, .int i => .base (.int i)
  | _, _, .str x => .base (.str x)
  | _, _, .lst h _ => by
    rcases h with (h | ⟨o, h⟩) | ⟨o, its, n, h1, h2, _⟩
    · exact .base (.lst h)
    · exact .base (.frz h)
    · exact .kList h1 h2
  | _, _, .tup h _ => by
    rcases h with (h | ⟨o, h⟩) | ⟨o, its, n, h1, h2, _⟩
    · exact .base (.tup h)
    · exact .fTuple h
    · exact .kTuple h1 h2
theorem tyX_of {H : Hp} {d : D} {v : V} (h : Dp K H v d) : TyX K H v (.type (tyN d)) := by
  cases h with
  | non => exact .base .non
  | bl b => exact .base (.bl b)
  | int i => exact .base (.int i)
  | str x => exact .base (.str x)
  | lst hs ha =>
    rcases hs with (h | ⟨o, h⟩) | ⟨o, its, n, h1, h2, _⟩
    · exact .base (.lst h)
    · exact .base (.frz h)
    · exact .kList h1 h2
  | tup hs ha => exact .base (.tup hs)
  | dct hs => exact .base (.dT hs)
theorem we_isi {T : String} (h : WE K C ta env fun d => ∃ b, kitB (tyN d) T = some b ∧ Φ (.bool b)) : WE K C (tCB (rIsi K) (tCons ta (tCons (tC (.ty T)) tNil))) env Φ := fun S σ H p Q k =>
  h S σ H p _ fun d v S1 H1 s1 d1 ⟨b, hb, q⟩ => ⟨v, .ty T, .type (tyN d), .type T, b, rfl, .ty T, tyX_of (dp_mono s1.k d v d1), kit_ty hb, k _ _ S1 H1 s1 (.bl b) q⟩
theorem we_isi2 {T U : String} (h : WE K C ta env fun d => ∃ b, kitB (tyN d) T = some b ∧ (b = true → Φ (.bool true)) ∧ (b = false → ∃ c, kitB (tyN d) U = some c ∧ Φ (.bool c))) :
    WE K C (tCB (rIsiT K) (tCons ta (tCons (tTup (tCons (tC (.ty T)) (tCons (tC (.ty U)) tNil))) tNil))) env Φ := fun S σ H p Q k =>
  h S σ H p _ fun d v S1 H1 s1 d1 ⟨b, hb, q1, q2⟩ => ⟨(by show 2 ≤ sizeLine; decide), fun a ha => by
    have s2 : Stp K C S H S1 (upd H1 a (.tup [.ty T, .ty U])) := s1.trans (Step.stp ⟨Ex.refl S1, s1.k.trans (Ex.new ha), Ex.new ha, fun _ _ _ _ n => n⟩ (p.step s1).base)
    have ty : TyX K (upd H1 a (.tup [.ty T, .ty U])) v (.type (tyN d)) := tyX_of (dp_mono s2.k d v d1)
    cases b with
    | true => exact ⟨v, a, [.ty T, .ty U], .type (tyN d), [.type T, .type U], true, rfl, upd_same, .cons (.ty T) (.cons (.ty U) .nil), ty, kitAny_cons (kit_ty hb) (fun z => nomatch z) (fun _ => rfl), k _ _ S1 _ s2 (.bl true) (q1 rfl)⟩
    | false =>
      obtain ⟨c, hc, q⟩ := q2 rfl
      refine ⟨v, a, [.ty T, .ty U], .type (tyN d), [.type T, .type U], c, rfl, upd_same, .cons (.ty T) (.cons (.ty U) .nil), ty, kitAny_cons (kit_ty hb) (fun _ => kitAny_cons (kit_ty hc) (fun z => ?_) (fun z => z)) (fun z => nomatch z), k _ _ S1 _ s2 (.bl c) q⟩
      rw [z]
      exact kitAny_nil⟩
/-! ### built-ins -/
theorem cd_abs {i : Int} (q : Φ (.int (if i < 0 then -i else i))) : CD K (fun xs H Q => ∃ i, xs = [.int i] ∧ Q (.int (if i < 0 then -i else i)) H) [.int i] Φ := fun S H vs e a Q k => by
  cases a with
  | cons h t =>
    cases t; cases h
    exact ⟨i, rfl, k _ _ S H (Step.refl e) (.int _) q⟩
theorem cd_gcd {i j : Int} (q : Φ (.int ((Nat.gcd i.natAbs j.natAbs : Nat) : Int))) : CD K rGcd [.int i, .int j] Φ := fun S H vs e a Q k => by
  cases a with
  | cons h t =>
    cases h
    cases t with
    | cons h t =>
      cases t; cases h
      exact ⟨i, j, rfl, k _ _ S H (Step.refl e) (.int _) q⟩
theorem cd_int {i : Int} (q : Φ (.int i)) : CD K (fun xs H Q => (∃ i, xs = [.int i] ∧ Q (.int i) H) ∨ ∃ k, xs = [.bl k] ∧ Q (.int (if k then 1 else 0)) H) [.int i] Φ := fun S H vs e a Q k => by
  cases a with
  | cons h t =>
    cases t; cases h
    exact .inl ⟨i, rfl, k _ _ S H (Step.refl e) (.int _) q⟩
theorem cd_len {ds : List D} {x : D} (hx : x = .list ds ∨ x = .tuple ds) (q : Φ (.int ds.length)) : CD K (fun xs H Q => ∃ p ys, xs = [.ref p] ∧ (SqL K H p ys ∨ SqT K H p ys) ∧ Q (.int ys.length) H) [x] Φ := fun S H vs e a Q k => by
  cases a with
  | cons h t =>
    cases t
    rcases hx with rfl | rfl
    · cases h with
      | lst hs ha => exact ⟨_, _, rfl, .inl (ex_l e hs), k _ _ S H (Step.refl e) (.int _) (by rw [dpa_len ha]; exact q)⟩
    · cases h with
      | tup hs ha => exact ⟨_, _, rfl, .inr (ex_tp (K := K) e hs), k _ _ S H (Step.refl e) (.int _) (by rw [dpa_len ha]; exact q)⟩
theorem cd_tuple {ds : List D} {x : D} (hx : x = .list ds ∨ x = .tuple ds) (q : Φ (.tuple ds)) : CD K (fun xs H Q => ∃ p ys, xs = [.ref p] ∧ ((SqL K H p ys ∧ ∀ l, H l = none → Q (.ref l) (upd H l (.tup ys))) ∨ (SqT K H p ys ∧ Q (.ref p) H))) [x] Φ := fun S H vs e a Q k => by
  cases a with
  | cons h t =>
    cases t
    rcases hx with rfl | rfl
    · cases h with
      | lst hs ha => exact ⟨_, _, rfl, .inl ⟨ex_l e hs, fun l hl => k _ _ _ _ (Step.new e hl) (dp_tup (ex_none e hl) ha) q⟩⟩
    · cases h with
      | tup hs ha => exact ⟨_, _, rfl, .inr ⟨ex_tp (K := K) e hs, k _ _ S H (Step.refl e) (.tup hs ha) q⟩⟩
end
/-! ### what a def promises of data -/
/-- called with the data enc a, where Pr a: it hands back data d with Rl a d, and changes nothing -/
def spD (K : PySem.W.Frag) {α : Type} (enc : α → List D) (Pr : α → Prop) (Rl : α → D → Prop) : Sp := fun vs H Q _ => ∃ (a : α) (S : Hp), Ex S H ∧ DpAll K S vs (enc a) ∧ Pr a ∧
  ∀ d, Rl a d → ∀ v S' H', Step S H S' H' → Dp K S' v d → Q v H'
/-- .. with the row ahead, from which it may draw -/
def spR (K : PySem.W.Frag) {α : Type} (enc : α → List D) (Pr : α → Prop) (Rl : α → D → Prop) : Sp := fun vs H Q _ => ∃ (a : α) (S : Hp) (R : Addr) (rs : List V), vs = .ref R :: rs ∧ Ex S H ∧ RowOk K S H R ∧ DpAll K S rs (enc a) ∧ Pr a ∧
  ∀ d, Rl a d → ∀ v S' H', Stp K ⟨some R, H, S⟩ S H S' H' → Dp K S' v d → Q v H'
section
variable {K : PySem.W.Frag} {C : Fm} {env : En} {α : Type} {enc : α → List D} {Pr : α → Prop} {Rl : α → D → Prop} {Φ : D → Prop} {ta : TA}
theorem we_call (h : WA K C ta env fun ds => ∃ a, ds = enc a ∧ Pr a ∧ ∀ d, Rl a d → Φ d) : WE K C (tCall (spD K enc Pr Rl) [] E0 ta) env Φ := fun S σ H p Q k =>
  h S σ H p _ fun ds vs S1 H1 s1 d1 ⟨a, e, pr, q⟩ => by
    subst e
    show spD K enc Pr Rl (vs ++ []) H1 Q E0
    rw [List.append_nil]
    exact ⟨a, S1, s1.k, d1, pr, fun d r v S2 H2 s2 d2 => k d v S2 H2 (s1.trans (s2.stp (p.step s1).base)) d2 (q d r)⟩
theorem we_callR {i : Nat} (hi : env[i]? = some (some .row)) (h : WA K C ta env fun ds => ∃ a, ds = enc a ∧ Pr a ∧ ∀ d, Rl a d → Φ d) : WE K C (tCall (spR K enc Pr Rl) [] E0 (tCons (tVar i) ta)) env Φ := fun S σ H p Q k => by
  obtain ⟨v, h1, R, hR, rfl⟩ := p.slot i _ hi
  refine ⟨.ref R, h1, ?_⟩
  refine h S σ H p _ fun ds vs S1 H1 s1 d1 ⟨a, e, pr, q⟩ => ?_
  subst e
  show spR K enc Pr Rl ((.ref R :: vs) ++ []) H1 Q E0
  rw [List.append_nil]
  have b1 := (p.step s1).base
  refine ⟨a, S1, R, vs, rfl, s1.k, b1.row R hR, d1, pr, fun d r v S2 H2 s2 d2 => k d v S2 H2 (s1.trans ⟨s2.s, s2.k, fun a o n q => s2.h a o (by show (some R : Option Addr) ≠ some a; rw [← hR]; exact n) q, s2.hid, fun r' e' => ?_⟩) d2 (q d r)⟩
  have e2 : R = r' := Option.some.inj (hR.symm.trans e')
  subst e2
  exact s2.row R rfl
theorem wa_of1 {te : TE} {Φ : List D → Prop} (h : WE K C te env fun x => Φ [x]) : WA K C (tCons te tNil) env Φ := wa_cons (h.imp fun _ q => wa_nil q)
end
/-! ### statements -/
structure Po where
  nx : En → Prop
  rt : D → Prop
  bk : En → Prop := fun _ => False
  ct : En → Prop := fun _ => False
def WS (K : PySem.W.Frag) (C : Fm) (t : TS) (env : En) (P : Po) : Prop := ∀ S σ H, Rep K C S env σ H → ∀ X : Ends,
  (∀ e S' σ' H', Rep K C S' e σ' H' → Ex S S' → P.nx e → X.nx σ' H') → (∀ d v S' H', Base K C S' H' → Dp K S' v d → P.rt d → X.rt v H') →
  (∀ e S' σ' H', Rep K C S' e σ' H' → Ex S S' → P.bk e → X.bk σ' H') → (∀ e S' σ' H', Rep K C S' e σ' H' → Ex S S' → P.ct e → X.ct σ' H') → t X σ H
section
variable {K : PySem.W.Frag} {C : Fm} {env : En} {ta tb te tx tc : TE} {c : TT} {t u : TS} {P : Po}
theorem ws_seq (h : WS K C t env { P with nx := fun e => WS K C u e P }) : WS K C (tSeq t u) env P := fun S σ H p X k1 k2 k3 k4 =>
  h S σ H p { X with nx := u X } (fun e S' σ' H' p' x q => q S' σ' H' p' X (fun e S2 σ2 H2 p2 x2 => k1 e S2 σ2 H2 p2 (x.trans x2)) k2 (fun e S2 σ2 H2 p2 x2 => k3 e S2 σ2 H2 p2 (x.trans x2)) (fun e S2 σ2 H2 p2 x2 => k4 e S2 σ2 H2 p2 (x.trans x2))) k2 k3 k4
theorem ws_next (h : P.nx env) : WS K C tNext env P := fun S σ H p X k1 k2 k3 k4 => k1 env S σ H p (Ex.refl S) h
theorem ws_break (h : P.bk env) : WS K C tBreak env P := fun S σ H p X k1 k2 k3 k4 => k3 env S σ H p (Ex.refl S) h
theorem ws_cont (h : P.ct env) : WS K C tCont env P := fun S σ H p X k1 k2 k3 k4 => k4 env S σ H p (Ex.refl S) h
theorem ws_asg {i : Nat} (h : WE K C te env fun d => P.nx (env.set i (some (.dat d)))) : WS K C (tAsg te (gName i)) env P := fun S σ H p X k1 k2 k3 k4 =>
  h S σ H p _ fun d v S1 H1 s1 d1 q => k1 _ S1 _ H1 ((p.step s1).set i d1) s1.s q
theorem ws_drop (h : WE K C te env fun _ => P.nx env) : WS K C (tDrop te) env P := fun S σ H p X k1 k2 k3 k4 =>
  h S σ H p _ fun d v S1 H1 s1 d1 q => k1 _ S1 _ H1 (p.step s1) s1.s q
theorem ws_ret (h : WE K C te env P.rt) : WS K C (tRet te) env P := fun S σ H p X k1 k2 k3 k4 =>
  h S σ H p _ fun d v S1 H1 s1 d1 q => k2 d v S1 H1 (p.step s1).base d1 q
theorem ws_if (h : WT K C c env fun b => (b = true → WS K C t env P) ∧ (b = false → WS K C u env P)) : WS K C (tIfS c t u) env P := fun S σ H p X k1 k2 k3 k4 =>
  h S σ H p _ fun b S1 H1 s1 ⟨h1, h2⟩ => by
    cases b with
    | true =>
      show t X σ H1
      exact h1 rfl S1 σ H1 (p.step s1) X (fun e S2 σ2 H2 p2 x2 => k1 e S2 σ2 H2 p2 (s1.s.trans x2)) k2 (fun e S2 σ2 H2 p2 x2 => k3 e S2 σ2 H2 p2 (s1.s.trans x2)) (fun e S2 σ2 H2 p2 x2 => k4 e S2 σ2 H2 p2 (s1.s.trans x2))
    | false =>
      show u X σ H1
      exact h2 rfl S1 σ H1 (p.step s1) X (fun e S2 σ2 H2 p2 x2 => k1 e S2 σ2 H2 p2 (s1.s.trans x2)) k2 (fun e S2 σ2 H2 p2 x2 => k3 e S2 σ2 H2 p2 (s1.s.trans x2)) (fun e S2 σ2 H2 p2 x2 => k4 e S2 σ2 H2 p2 (s1.s.trans x2))
theorem ws_never (h : False) : WS K C t env P := h.elim
/-- a, b = x, y -/
theorem ws_par {i j : Nat} {tr : TA} (h : WA K C tr env fun ds => ∃ x y, ds = [x, y] ∧ P.nx ((env.set i (some (.dat x))).set j (some (.dat y)))) : WS K C (tPar i j tr) env P := fun S σ H p X k1 k2 k3 k4 =>
  h S σ H p _ fun ds vs S1 H1 s1 d1 ⟨x, y, e, q⟩ => by
    subst e
    cases d1 with
    | @cons v _ _ _ dx t =>
      cases t with
      | @cons w _ _ _ dy t =>
        cases t
        exact ⟨v, w, rfl, k1 _ S1 _ H1 (((p.step s1).set i dx).set j dy) s1.s q⟩
/-- targets: what a target does with data -/
def WG (K : PySem.W.Frag) (C : Fm) (g : TG) (d : D) (env : En) (Φ : En → Prop) : Prop := ∀ S σ H v, Rep K C S env σ H → Dp K S v d → ∀ Q : St → Hp → Prop, (∀ e σ', Rep K C S e σ' H → Φ e → Q σ' H) → g v σ H Q
def WGs (K : PySem.W.Frag) (C : Fm) (g : TGs) (ds : List D) (env : En) (Φ : En → Prop) : Prop := ∀ S σ H vs, Rep K C S env σ H → DpAll K S vs ds → ∀ Q : St → Hp → Prop, (∀ e σ', Rep K C S e σ' H → Φ e → Q σ' H) → g vs σ H Q
theorem wg_name {i : Nat} {d : D} {Φ : En → Prop} (h : Φ (env.set i (some (.dat d)))) : WG K C (gName i) d env Φ := fun S σ H v p dv Q k => k _ _ (p.set i dv) h
theorem wgs_nil {Φ : En → Prop} (h : Φ env) : WGs K C gNil [] env Φ := fun S σ H vs p dv Q k => by
  cases dv
  exact ⟨rfl, k _ _ p h⟩
theorem wgs_cons {g : TG} {gs : TGs} {d : D} {ds : List D} {Φ : En → Prop} (h : WG K C g d env fun e => WGs K C gs ds e Φ) : WGs K C (gCons g gs) (d :: ds) env Φ := fun S σ H vs p dv Q k => by
  cases dv with
  | @cons v vs _ _ d1 d2 => exact ⟨v, vs, rfl, h S σ H v p d1 _ fun e σ' p' q => q S σ' H vs p' d2 Q k⟩
theorem wg_tup {n : Nat} {gs : TGs} {ds : List D} {Φ : En → Prop} (hn : ds.length = n) (h : WGs K C gs ds env Φ) : WG K C (gTup K n gs) (.tuple ds) env Φ := fun S σ H v p dv Q k => by
  cases dv with
  | @tup a xs _ hs ha => exact ⟨a, xs, rfl, ex_tp (K := K) p.base.ex hs, (dpa_len ha).trans hn, h S σ H xs p ha Q k⟩
theorem ws_asgG {g : TG} (h : WE K C te env fun d => WG K C g d env P.nx) : WS K C (tAsg te g) env P := fun S σ H p X k1 k2 k3 k4 =>
  h S σ H p _ fun d v S1 H1 s1 d1 q => q S1 σ H1 v (p.step s1) d1 _ fun e σ' p' q' => k1 e S1 σ' H1 p' s1.s q'
/-- for over a tuple -/
theorem ws_forT {g : TG} {tl : TE} (h : WE K C tl env fun d => ∃ ds, d = .tuple ds ∧ ∃ I : Nat → En → Prop, I 0 env ∧
    (∀ i d e, ds[i]? = some d → I i e → WG K C g d e fun e' => WS K C t e' { nx := I (i + 1), ct := I (i + 1), rt := P.rt, bk := P.nx }) ∧ ∀ e, I ds.length e → P.nx e) : WS K C (tFor (iTup K tl) g t) env P := fun S σ H p X k1 k2 k3 k4 =>
  h S σ H p _ fun d v S1 H1 s1 d1 ⟨ds, e, I, i0, hs, hd⟩ => by
    subst e
    cases d1 with
    | @tup a xs _ hx ha =>
      have hl := dpa_len ha
      refine ⟨a, rfl, ⟨xs, ex_tp (K := K) s1.k hx⟩, for_tup (K := K) (a := a) (xs := xs) (fun i σ' H' => ∃ S' e, Rep K C S' e σ' H' ∧ Ex S1 S' ∧ I i e) ⟨S1, env, p.step s1, Ex.refl S1, i0⟩ (fun i σ' H' _ ⟨S', e, p', x', _⟩ => ex_tp (K := K) (x'.trans p'.base.ex) hx) ?_ ?_⟩
      · rintro i x σ' H' hi ⟨S', e, p', x', ie⟩
        obtain ⟨d, hd', dd⟩ := dpa_getV ha hi
        refine hs i d e hd' ie S' σ' H' x p' (dp_mono x' d x dd) _ fun e2 σ2 p2 q2 => ?_
        exact q2 S' σ2 H' p2 _ (fun e3 S3 σ3 H3 p3 x3 q3 => ⟨S3, e3, p3, x'.trans x3, q3⟩) k2 (fun e3 S3 σ3 H3 p3 x3 q3 => k1 e3 S3 σ3 H3 p3 ((s1.s.trans x').trans x3) q3) (fun e3 S3 σ3 H3 p3 x3 q3 => ⟨S3, e3, p3, x'.trans x3, q3⟩)
      · rintro σ' H' ⟨S', e, p', x', ie⟩
        exact k1 e S' σ' H' p' (s1.s.trans x') (hd e (by rw [← hl]; exact ie))
/-- for over a list that stays -/
theorem ws_forL {g : TG} {tl : TE} (h : WE K C tl env fun d => ∃ ds, d = .list ds ∧ ∃ I : Nat → En → Prop, I 0 env ∧
    (∀ i d e, ds[i]? = some d → I i e → WG K C g d e fun e' => WS K C t e' { nx := I (i + 1), ct := I (i + 1), rt := P.rt, bk := P.nx }) ∧ ∀ e, I ds.length e → P.nx e) : WS K C (tFor (iList K tl) g t) env P := fun S σ H p X k1 k2 k3 k4 =>
  h S σ H p _ fun d v S1 H1 s1 d1 ⟨ds, e, I, i0, hs, hd⟩ => by
    subst e
    cases d1 with
    | @lst a xs _ hx ha =>
      have hl := dpa_len ha
      refine ⟨a, rfl, ⟨xs, ex_l s1.k hx⟩, for_list (K := K) (a := a) (xs := xs) (fun i σ' H' => ∃ S' e, Rep K C S' e σ' H' ∧ Ex S1 S' ∧ I i e) ⟨S1, env, p.step s1, Ex.refl S1, i0⟩ (fun i σ' H' _ ⟨S', e, p', x', _⟩ => ex_l (x'.trans p'.base.ex) hx) ?_ ?_⟩
      · rintro i x σ' H' hi ⟨S', e, p', x', ie⟩
        obtain ⟨d, hd', dd⟩ := dpa_getV ha hi
        refine hs i d e hd' ie S' σ' H' x p' (dp_mono x' d x dd) _ fun e2 σ2 p2 q2 => ?_
        exact q2 S' σ2 H' p2 _ (fun e3 S3 σ3 H3 p3 x3 q3 => ⟨S3, e3, p3, x'.trans x3, q3⟩) k2 (fun e3 S3 σ3 H3 p3 x3 q3 => k1 e3 S3 σ3 H3 p3 ((s1.s.trans x').trans x3) q3) (fun e3 S3 σ3 H3 p3 x3 q3 => ⟨S3, e3, p3, x'.trans x3, q3⟩)
      · rintro σ' H' ⟨S', e, p', x', ie⟩
        exact k1 e S' σ' H' p' (s1.s.trans x') (hd e (by rw [← hl]; exact ie))
/-- for over range(n) -/
theorem ws_forR {j : Nat} {tr : TA} (h : WA K C tr env fun ds => ∃ n : Int, ds = [.int n] ∧ 0 ≤ n ∧ n ≤ 1000000 ∧ ∃ I : Nat → En → Prop, I 0 env ∧
    (∀ (i : Nat) e, (i : Int) < n → I i e → WS K C t (e.set j (some (.dat (.int (i : Int))))) { nx := I (i + 1), ct := I (i + 1), rt := P.rt, bk := P.nx }) ∧ ∀ e, I n.toNat e → P.nx e) : WS K C (tFor (iRng1 tr) (gName j) t) env P := fun S σ H p X k1 k2 k3 k4 =>
  h S σ H p _ fun ds vs S1 H1 s1 d1 ⟨n, e, n0, n1, I, i0, hs, hd⟩ => by
    subst e
    cases d1 with
    | cons d1 t1 =>
      cases t1; cases d1
      refine ⟨n, rfl, by omega, by omega, for_range (lo := 0) (n := n.toNat) (fun i σ' H' => ∃ S' e, Rep K C S' e σ' H' ∧ Ex S1 S' ∧ I i e) ⟨S1, env, p.step s1, Ex.refl S1, i0⟩ ?_ ?_⟩
      · rintro i σ' H' hi ⟨S', e, p', x', ie⟩
        have e0 : (0 : Int) + (i : Int) = (i : Int) := Int.zero_add _
        rw [e0]
        exact hs i e (by omega) ie S' _ H' (p'.set j (.int _)) _ (fun e3 S3 σ3 H3 p3 x3 q3 => ⟨S3, e3, p3, x'.trans x3, q3⟩) k2 (fun e3 S3 σ3 H3 p3 x3 q3 => k1 e3 S3 σ3 H3 p3 ((s1.s.trans x').trans x3) q3) (fun e3 S3 σ3 H3 p3 x3 q3 => ⟨S3, e3, p3, x'.trans x3, q3⟩)
      · rintro σ' H' ⟨S', e, p', x', ie⟩
        exact k1 e S' σ' H' p' (s1.s.trans x') (hd e ie)
/-- while -/
theorem ws_while (I : En → Prop) (m : En → Nat) (i0 : I env) (hs : ∀ e, I e → WT K C c e fun b => (b = true → WS K C t e { nx := fun e' => I e' ∧ m e' < m e, ct := fun e' => I e' ∧ m e' < m e, rt := P.rt, bk := P.nx }) ∧ (b = false → P.nx e)) :
    WS K C (tWhile c t) env P := fun S σ H p X k1 k2 k3 k4 => by
  refine ⟨fun n σ' H' => ∃ S' e, Rep K C S' e σ' H' ∧ Ex S S' ∧ I e ∧ n = m e, ⟨_, S, env, p, Ex.refl S, i0, rfl⟩, ?_⟩
  rintro n σ' H' ⟨S', e, p', x', ie, rfl⟩
  refine hs e ie S' σ' H' p' _ fun b S1 H1 s1 ⟨h1, h2⟩ => ?_
  cases b with
  | true =>
    refine ⟨fun σ2 H2 => ∃ S2 e2, Rep K C S2 e2 σ2 H2 ∧ Ex S S2 ∧ I e2 ∧ m e2 < m e, ?_, ?_⟩
    · rintro σ2 H2 ⟨S2, e2, p2, x2, i2, l2⟩
      exact ⟨m e2, l2, S2, e2, p2, x2, i2, rfl⟩
    · exact h1 rfl S1 σ' H1 (p'.step s1) _ (fun e3 S3 σ3 H3 p3 x3 q3 => ⟨S3, e3, p3, (x'.trans s1.s).trans x3, q3.1, q3.2⟩) k2 (fun e3 S3 σ3 H3 p3 x3 q3 => k1 e3 S3 σ3 H3 p3 ((x'.trans s1.s).trans x3) q3) (fun e3 S3 σ3 H3 p3 x3 q3 => ⟨S3, e3, p3, (x'.trans s1.s).trans x3, q3.1, q3.2⟩)
  | false => exact k1 e S1 σ' H1 (p'.step s1) (x'.trans s1.s) (h2 rfl)
/-! ### comprehensions -/
theorem wipe1 (σ : St) (j : Nat) (v : V) : wipe ((wipe σ [j]).set j (some v)) [j] = wipe σ [j] := by
  show (((σ.set j none).set j (some v)).set j none) = σ.set j none
  rw [List.set_set, List.set_set]
/-- [e for x in xs if t]: I by the turn and what is made -/
theorem we_lcR {j : Nat} {tr : TA} {tt : TT} {Φ : D → Prop} (h : WA K C tr env fun ds => ∃ n : Int, ds = [.int n] ∧ 0 ≤ n ∧ n ≤ 50000 ∧ ∃ I : Nat → List D → Prop, I 0 [] ∧
    (∀ (i : Nat) acc, (i : Int) < n → I i acc → WT K C tt ((env.set j none).set j (some (.dat (.int (i : Int))))) fun b => (b = true → WE K C te ((env.set j none).set j (some (.dat (.int (i : Int))))) fun y => I (i + 1) (acc ++ [y])) ∧ (b = false → I (i + 1) acc)) ∧
    (∀ i acc, I i acc → acc.length ≤ i) ∧ ∀ acc, I n.toNat acc → Φ (.list acc)) : WE K C (tLc (iRng1 tr) (gName j) tt te [j]) env Φ := fun S σ H p Q k =>
  h S σ H p _ fun ds vs S1 H1 s1 d1 ⟨n, e, n0, n1, I, i0, hs, hl, hd⟩ => by
    subst e
    cases d1 with
    | cons d1 t1 =>
      cases t1; cases d1
      refine ⟨n, rfl, by omega, by omega, fun L hL => ?_⟩
      refine lc_range (lo := 0) (n := n.toNat) (fun i H' => ∃ S' acc xs, Stp K C S1 H1 S' H' ∧ S' L = none ∧ H' L = some (.lst xs) ∧ DpAll K S' xs acc ∧ I i acc) ⟨S1, [], [], ⟨Ex.refl S1, s1.k.trans (Ex.new hL), fun a o _ q => Ex.new hL a o q, fun _ _ _ _ n => n, fun r e => ?_⟩, ex_none s1.k hL, upd_same, .nil, i0⟩ ?_ ?_
      · have rw0 := (p.step s1).base.row r e
        exact rw0.step ⟨Ex.refl S1, s1.k.trans (Ex.new hL), Ex.new hL, fun _ _ _ _ n => n⟩
      · rintro i H' hi ⟨S', acc, xs, st, n', h', a', ia⟩
        have e0 : (0 : Int) + (i : Int) = (i : Int) := Int.zero_add _
        rw [e0]
        refine ⟨wipe1 σ j _, ?_⟩
        have p1 : Rep K C S' ((env.set j none).set j (some (.dat (.int (i : Int))))) ((wipe σ [j]).set j (some (.int (i : Int)))) H' := (((p.step s1).step st).unset j).set j (.int _)
        refine hs i acc (by omega) ia S' _ H' p1 _ fun b S2 H2 s2 ⟨q1, q2⟩ => ?_
        have hRL : ∀ r, C.R = some r → r ≠ L := fun r e => by
          obtain ⟨_, A, ns, x1, x2, x3, q, _⟩ := (p.step s1).base.row r e
          exact ne_of_none q hL
        have nRL : C.R ≠ some L := fun e => hRL L e rfl
        cases b with
        | true =>
          refine q1 rfl S2 _ H2 (p1.step s2) _ fun y v S3 H3 s3 d3 i3 => ?_
          have s23 := s2.trans s3
          have hL3 : H3 L = some (.lst xs) := s23.h L _ nRL h'
          have n3 : S3 L = none := s23.hid L _ h' (fun _ z => nomatch z) n'
          have lx : xs.length = acc.length := dpa_len a'
          have := hl i acc ia
          refine ⟨xs, hL3, line_lt (by omega), S3, acc ++ [y], xs ++ [v], ?_, n3, upd_same, dpa_app (dpAll_mono s23.s acc xs a') (.cons d3 .nil), i3⟩
          have ss := st.trans s23
          refine ⟨ss.s, ?_, ?_, ss.hid, fun r e => ?_⟩
          · intro a o q
            rw [upd_ne (fun z => by rw [z] at q; rw [n3] at q; cases q)]
            exact ss.k a o q
          · intro a o nr q
            rw [upd_ne (ne_of_none q hL)]
            exact ss.h a o nr q
          · obtain ⟨z1, A, ns, x1, x2, x3, z2, z3⟩ := ss.row r e
            exact ⟨z1, A, ns, x1, x2, x3, by rw [upd_ne (hRL r e)]; exact z2, z3⟩
        | false =>
          have hL3 : H2 L = some (.lst xs) := s2.h L _ nRL h'
          exact ⟨S2, acc, xs, st.trans s2, s2.hid L _ h' (fun _ z => nomatch z) n', hL3, dpAll_mono s2.s acc xs a', q2 rfl⟩
      · rintro H' ⟨S', acc, xs, st, n', h', a', ia⟩
        have ss := s1.trans st
        refine k (.list acc) (.ref L) (upd S' L (.lst xs)) H' ⟨ss.s.trans (Ex.new n'), ?_, ss.h, ?_, fun r e => ?_⟩ (dp_lst n' a') (hd acc ia)
        · intro a o q
          by_cases z : a = L
          · subst z; rw [upd_same] at q; rw [h']; exact q
          · rw [upd_ne z] at q; exact st.k a o q
        · intro b o q tq nq
          have hb : b ≠ L := by
            by_cases hr : C.R = some b
            · obtain ⟨_, A, ns, x1, x2, x3, q', _⟩ := (p.step s1).base.row b hr
              exact ne_of_none q' hL
            · exact ne_of_none (s1.h b o hr q) hL
          rw [upd_ne hb]
          exact ss.hid b o q tq nq
        · obtain ⟨_, A, ns, x1, x2, x3, q', _⟩ := (p.step s1).base.row r e
          have hb : r ≠ L := ne_of_none q' hL
          obtain ⟨z1, A, ns, x1, x2, x3, z2, z3, z4⟩ := ss.row r e
          exact ⟨by rw [upd_ne hb]; exact z1, A, ns, x1, x2, x3, z2, ex_l (Ex.new n') z3, z4⟩
theorem wt_yes {Φ : Bool → Prop} (h : Φ true) : WT K C tYes env Φ := fun S σ H p Q k => k true S H (Stp.refl p.base) h
end
/-! ### a def's body -/
theorem rep_start {K : PySem.W.Frag} {N : List Str} {S H : Hp} {vs : List V} {ds : List D} (e : Ex S H) (a : DpAll K S vs ds) :
    Rep K ⟨none, H, S⟩ S (ds.map (fun d => some (Sc.dat d)) ++ List.replicate (N.length - ds.length) none) (L2.start N vs) H := by
  have hl := dpa_len a
  refine ⟨⟨e, fun _ _ _ q => q, fun _ _ _ _ q => q, Ex.refl S, fun r z => (nomatch z)⟩, ?_, fun i c h => ?_, fun i j x y v _ h => ?_, fun i j f g n' m' v _ h => ?_⟩
  · unfold L2.start
    rw [List.length_append, List.length_append, List.length_map, List.length_map, List.length_replicate, List.length_replicate, hl]
  · by_cases hi : i < ds.length
    · rw [List.getElem?_append_left (by simpa using hi), List.getElem?_map] at h
      cases e1 : ds[i]? with
      | none => rw [e1] at h; cases h
      | some d =>
        rw [e1] at h
        have e2 : Sc.dat d = c := Option.some.inj (Option.some.inj h)
        subst e2
        obtain ⟨v, hv, dv⟩ := dpa_get a e1
        refine ⟨v, ?_, dv⟩
        unfold L2.start
        rw [List.getElem?_append_left (by rw [List.length_map, hl]; exact hi), List.getElem?_map, hv]
        rfl
    · rw [List.getElem?_append_right (by simpa using hi), List.getElem?_replicate] at h
      split at h <;> cases h
  · by_cases hi : i < ds.length
    · rw [List.getElem?_append_left (by simpa using hi), List.getElem?_map] at h
      cases e1 : ds[i]? with
      | none => rw [e1] at h; cases h
      | some d => rw [e1] at h; cases h
    · rw [List.getElem?_append_right (by simpa using hi), List.getElem?_replicate] at h
      split at h <;> cases h
  · by_cases hi : i < ds.length
    · rw [List.getElem?_append_left (by simpa using hi), List.getElem?_map] at h
      cases e1 : ds[i]? with
      | none => rw [e1] at h; cases h
      | some d => rw [e1] at h; cases h
    · rw [List.getElem?_append_right (by simpa using hi), List.getElem?_replicate] at h
      split at h <;> cases h
theorem rep_startR {K : PySem.W.Frag} {N : List Str} {S H : Hp} {R : Addr} {vs : List V} {ds : List D} (e : Ex S H) (r : RowOk K S H R) (a : DpAll K S vs ds) :
    Rep K ⟨some R, H, S⟩ S (some Sc.row :: (ds.map (fun d => some (Sc.dat d)) ++ List.replicate (N.length - (ds.length + 1)) none)) (L2.start N (.ref R :: vs)) H := by
  have hl := dpa_len a
  have es : L2.start N (.ref R :: vs) = some (.ref R) :: (vs.map some ++ List.replicate (N.length - (vs.length + 1)) none) := rfl
  have key : ∀ (i : Nat) (c : Sc), (ds.map (fun d => some (Sc.dat d)) ++ List.replicate (N.length - (ds.length + 1)) none)[i]? = some (some c) → ∃ d, c = .dat d ∧ ds[i]? = some d := fun i c h => by
    by_cases hi : i < ds.length
    · rw [List.getElem?_append_left (by simpa using hi), List.getElem?_map] at h
      cases e1 : ds[i]? with
      | none => rw [e1] at h; cases h
      | some d =>
        rw [e1] at h
        have e2 : Sc.dat d = c := Option.some.inj (Option.some.inj h)
        exact ⟨d, e2.symm, rfl⟩
    · rw [List.getElem?_append_right (by simpa using hi), List.getElem?_replicate] at h
      split at h <;> cases h
  refine ⟨⟨e, fun _ _ _ q => q, fun _ _ _ _ q => q, Ex.refl S, fun r' z => ?_⟩, ?_, fun i c h => ?_, fun i j x y v _ h => ?_, fun i j f g n' m' v _ h => ?_⟩
  · have e2 : R = r' := Option.some.inj z
    subst e2
    exact r
  · rw [es]
    rw [List.length_cons, List.length_cons, List.length_append, List.length_append, List.length_map, List.length_map, List.length_replicate, List.length_replicate, hl]
  · rw [es]
    cases i with
    | zero =>
      have e2 : Sc.row = c := Option.some.inj (Option.some.inj (show some (some Sc.row) = some (some c) from h))
      subst e2
      exact ⟨.ref R, rfl, R, rfl, rfl⟩
    | succ i =>
      obtain ⟨d, rfl, e1⟩ := key i c (by simpa using h)
      obtain ⟨v, hv, dv⟩ := dpa_get a e1
      refine ⟨v, ?_, dv⟩
      have hi : i < vs.length := (List.getElem?_eq_some_iff.mp hv).1
      rw [List.getElem?_cons_succ, List.getElem?_append_left (by simpa using hi), List.getElem?_map, hv]
      rfl
  · cases i with
    | zero => cases (show some (some Sc.row) = some (some (Sc.own x)) from h)
    | succ i =>
      obtain ⟨d, e2, _⟩ := key i _ (by simpa using h)
      cases e2
  · cases i with
    | zero => cases (show some (some Sc.row) = some (some (Sc.dic f n')) from h)
    | succ i =>
      obtain ⟨d, e2, _⟩ := key i _ (by simpa using h)
      cases e2
section
variable {P : Program} {w : World} {K : PySem.W.Frag} {mg : Str → Option Value} {base : Heap} {x qual : Str} {st : Stmt} {params : Arguments} {body : List Stmt} {scope : Scope} {dvs : List V} {kws : List (Str × V)} {f : Addr} {fd : FuncData} {N ps : List Str} {k : Nat} {α : Type} {enc : α → List D} {Pr : α → Prop} {Rl : α → D → Prop}
theorem spD_len {vs : List V} {H : Hp} {Q : VK} {E : XK} {n : Nat} (h : spD K enc Pr Rl vs H Q E) (l : ∀ a, Pr a → (enc a).length = n) : vs.length = n := by
  obtain ⟨a, S, _, d, p, _⟩ := h
  exact (dpa_len d).trans (l a p)
theorem spR_len {vs : List V} {H : Hp} {Q : VK} {E : XK} {n : Nat} (h : spR K enc Pr Rl vs H Q E) (l : ∀ a, Pr a → (enc a).length + 1 = n) : vs.length = n := by
  obtain ⟨a, S, R, rs, rfl, _, _, d, p, _⟩ := h
  rw [List.length_cons, dpa_len d]
  exact l a p
/-- the reading of a def that is said of data -/
theorem spD_go {t : TS} {vs : List V} {H : Hp} {Q : VK} {E : XK} (h : spD K enc Pr Rl vs H Q E)
    (hb : ∀ a, Pr a → ∀ C : Fm, C.R = none → WS K C t ((enc a).map (fun d => some (Sc.dat d)) ++ List.replicate (N.length - (enc a).length) none) { nx := fun _ => Rl a .none, rt := Rl a }) :
    t { nx := fun _ H' => Q .non H', rt := Q } (L2.start N vs) H := by
  obtain ⟨a, S, e, d, p, q⟩ := h
  refine hb a p ⟨none, H, S⟩ rfl S (L2.start N vs) H (rep_start e d) _ (fun e' S' σ' H' p' x' r => ?_) (fun d' v S' H' b' dv r => ?_) (fun _ _ _ _ _ _ z => z.elim) (fun _ _ _ _ _ _ z => z.elim)
  · exact q .none r .non S' H' ⟨p'.base.s0, p'.base.ex, fun a o z => p'.base.fr a o (fun y => nomatch y) z, p'.base.hid⟩ .non
  · exact q d' r v S' H' ⟨b'.s0, b'.ex, fun a o z => b'.fr a o (fun y => nomatch y) z, b'.hid⟩ dv
theorem spR_go {t : TS} {vs : List V} {H : Hp} {Q : VK} {E : XK} (h : spR K enc Pr Rl vs H Q E)
    (hb : ∀ a, Pr a → ∀ C : Fm, WS K C t (some Sc.row :: ((enc a).map (fun d => some (Sc.dat d)) ++ List.replicate (N.length - ((enc a).length + 1)) none)) { nx := fun _ => Rl a .none, rt := Rl a }) :
    t { nx := fun _ H' => Q .non H', rt := Q } (L2.start N vs) H := by
  obtain ⟨a, S, R, rs, rfl, e, r0, d, p, q⟩ := h
  refine hb a p ⟨some R, H, S⟩ S (L2.start N (.ref R :: rs)) H (rep_startR e r0 d) _ (fun e' S' σ' H' p' x' r => ?_) (fun d' v S' H' b' dv r => ?_) (fun _ _ _ _ _ _ z => z.elim) (fun _ _ _ _ _ _ z => z.elim)
  · exact q .none r .non S' H' ⟨p'.base.s0, p'.base.ex, p'.base.fr, p'.base.hid, p'.base.row⟩ .non
  · exact q d' r v S' H' ⟨b'.s0, b'.ex, b'.fr, b'.hid, b'.row⟩ dv
end
end Rf
set_option Elab.async false
set_option linter.all false
set_option maxRecDepth 100000
namespace Rf
open PySem PySem.Spec PyProof.Rows L2 Evl
section
variable {K : PySem.W.Frag} {C : Fm} {env : En} {P : Po}
theorem ws_par3 {i j l : Nat} {tr : TA} (h : WA K C tr env fun ds => ∃ x y z, ds = [x, y, z] ∧ P.nx (((env.set i (some (.dat x))).set j (some (.dat y))).set l (some (.dat z)))) : WS K C (tPar3 i j l tr) env P := fun S σ H p X k1 k2 k3 k4 =>
  h S σ H p _ fun ds vs S1 H1 s1 d1 ⟨x, y, z, e, q⟩ => by
    subst e
    cases d1 with
    | @cons v _ _ _ dx t =>
      cases t with
      | @cons w _ _ _ dy t =>
        cases t with
        | @cons u _ _ _ dz t =>
          cases t
          exact ⟨v, w, u, rfl, k1 _ S1 _ H1 ((((p.step s1).set i dx).set j dy).set l dz) s1.s q⟩
end
section
variable {P : Program} {w : World} {K : PySem.W.Frag} {mg : Str → Option Value} {base : Heap} {x qual : Str} {params : Arguments} {body : List Stmt} {scope : Scope} {dvs : List V} {kws : List (Str × V)} {f : Addr} {fd : FuncData} {N ps : List Str} {k : Nat} {α : Type} {enc : α → List D} {Pr : α → Prop} {Rl : α → D → Prop}
theorem okD (F : FunD K x qual params body scope dvs kws f fd) (S : FnScope N ps scope) (len : ∀ a, Pr a → (enc a).length = ps.length)
    (hbody : ∀ (cdv : Value) (A : Around) (outer : List Env) (s : Shared) (H : Hp) (E : XK), Room k (A.deeper (envOfC qual scope s.heap.objs.size f cdv)) →
      ∃ t, PSs (cxOf CX0 P w K mg base N qual scope f cdv A outer s H E).nox body t ∧
        ∀ a, Pr a → ∀ C : Fm, C.R = none → WS K C t ((enc a).map (fun d => some (Sc.dat d)) ++ List.replicate (N.length - (enc a).length) none) { nx := fun _ => Rl a .none, rt := Rl a }) :
    FnOk P w K mg base CX0 (k + 1) f fd ps (spD K enc Pr Rl) :=
  F.ok S (fun vs H Q E h => spD_len h len) fun cdv A outer s H vs Q E hr h => by
    obtain ⟨t, ht, hb⟩ := hbody cdv A outer s H E hr
    exact ⟨t, PSs.nox ht, spD_go h hb⟩
theorem okR (F : FunD K x qual params body scope dvs kws f fd) (S : FnScope N ps scope) (len : ∀ a, Pr a → (enc a).length + 1 = ps.length)
    (hbody : ∀ (cdv : Value) (A : Around) (outer : List Env) (s : Shared) (H : Hp) (E : XK), Room k (A.deeper (envOfC qual scope s.heap.objs.size f cdv)) →
      ∃ t, PSs (cxOf CX0 P w K mg base N qual scope f cdv A outer s H E).nox body t ∧
        ∀ a, Pr a → ∀ C : Fm, WS K C t (some Sc.row :: ((enc a).map (fun d => some (Sc.dat d)) ++ List.replicate (N.length - ((enc a).length + 1)) none)) { nx := fun _ => Rl a .none, rt := Rl a }) :
    FnOk P w K mg base CX0 (k + 1) f fd ps (spR K enc Pr Rl) :=
  F.ok S (fun vs H Q E h => spR_len h len) fun cdv A outer s H vs Q E hr h => by
    obtain ⟨t, ht, hb⟩ := hbody cdv A outer s H E hr
    exact ⟨t, PSs.nox ht, spR_go h hb⟩
/-- a def by its reading itself -/
theorem okS {sp : Sp} (F : FunD K x qual params body scope dvs kws f fd) (S : FnScope N ps scope) (len : ∀ vs H Q E, sp vs H Q E → vs.length = ps.length)
    (hbody : ∀ (cdv : Value) (A : Around) (outer : List Env) (s : Shared) (H : Hp) (E : XK), Room k (A.deeper (envOfC qual scope s.heap.objs.size f cdv)) →
      ∃ t, PSs (cxOf CX0 P w K mg base N qual scope f cdv A outer s H E).nox body t ∧
        ∀ vs H Q E, sp vs H Q E → t { nx := fun _ H' => Q .non H', rt := Q } (L2.start N vs) H) :
    FnOk P w K mg base CX0 (k + 1) f fd ps sp :=
  F.ok S len fun cdv A outer s H vs Q E hr h => by
    obtain ⟨t, ht, hb⟩ := hbody cdv A outer s H E hr
    exact ⟨t, PSs.nox ht, hb vs H Q E h⟩
/-- the law's promise -/
def spLaw (K : PySem.W.Frag) : Sp := fun vs H Q _ => ∃ (a : Addr) (ns : List Int), vs = [.ref a] ∧ SqL K H a (ns.map V.int) ∧ ∀ H', Q (.bl true) H'
/-- the law's body: row = [script, 0, n, 0], then the rest over data -/
theorem law_go {u : TS} {n : Int} {N : List Str} (hn0 : 0 ≤ n) (hn1 : n < 2147483647) (hN : 2 ≤ N.length) (hb : ∀ C : Fm, WS K C u (none :: some .row :: List.replicate (N.length - 2) none) { nx := fun _ => False, rt := fun d => d = .bool true })
    {vs : List V} {H : Hp} {Q : VK} {E : XK} (h : spLaw K vs H Q E) :
    tSeq (tAsg (tLst (tCons (tVar 0) (tCons (tC (.int 0)) (tCons (tC (.int n)) (tCons (tC (.int 0)) tNil))))) (gName 1)) u { nx := fun _ H' => Q .non H', rt := Q } (L2.start N vs) H := by
  obtain ⟨a, ns, rfl, hS, q⟩ := h
  have es : L2.start N [.ref a] = some (.ref a) :: List.replicate (N.length - 1) none := rfl
  refine ⟨.ref a, by rw [es]; rfl, by show 4 ≤ sizeLine; decide, fun p hp => ?_⟩
  have e1 : (L2.start N [.ref a]).set 1 (some (.ref p)) = some (.ref a) :: some (.ref p) :: List.replicate (N.length - 2) none := by
    rw [es]
    obtain ⟨m, hm⟩ : ∃ m, N.length - 1 = m + 1 := ⟨N.length - 2, by omega⟩
    have hm2 : N.length - 2 = m := by omega
    rw [hm, hm2]
    rfl
  show u _ ((L2.start N [.ref a]).set 1 (some (.ref p))) (upd H p _)
  rw [e1]
  refine hb ⟨some p, upd H p (.lst [.ref a, .int 0, .int n, .int 0]), H⟩ H _ _ ⟨⟨Ex.new hp, fun _ _ _ q => q, fun b o q _ z => z, Ex.refl H, fun r e => ?_⟩, ?_, fun i c h => ?_, fun i j x y v _ h => ?_, fun i j f g n' m' v _ h => ?_⟩ _ (fun _ _ _ _ _ _ z => z.elim) (fun d v S' H' b' dv e => ?_) (fun _ _ _ _ _ _ z => z.elim) (fun _ _ _ _ _ _ z => z.elim)
  · have e2 : p = r := Option.some.inj e
    subst e2
    exact ⟨hp, a, ns, 0, n, 0, upd_same, hS, by omega, hn0, hn1, by omega⟩
  · simp
  · match i, h with
    | 0, h => cases h
    | 1, h =>
      have e2 : Sc.row = c := Option.some.inj (Option.some.inj (show some (some Sc.row) = some (some c) from h))
      subst e2
      exact ⟨.ref p, rfl, p, rfl, rfl⟩
    | i + 2, h =>
      have h' : (List.replicate (N.length - 2) (none : Option Sc))[i]? = some (some c) := h
      rw [List.getElem?_replicate] at h'
      split at h' <;> cases h'
  · match i, h with
    | 0, h => cases h
    | 1, h => cases (show some (some Sc.row) = some (some (Sc.own x)) from h)
    | i + 2, h =>
      have h' : (List.replicate (N.length - 2) (none : Option Sc))[i]? = some (some (Sc.own x)) := h
      rw [List.getElem?_replicate] at h'
      split at h' <;> cases h'
  · match i, h with
    | 0, h => cases h
    | 1, h => cases (show some (some Sc.row) = some (some (Sc.dic f n')) from h)
    | i + 2, h =>
      have h' : (List.replicate (N.length - 2) (none : Option Sc))[i]? = some (some (Sc.dic f n')) := h
      rw [List.getElem?_replicate] at h'
      split at h' <;> cases h'
  · subst e
    cases dv
    exact q H'
end
/-! ### isinstance, by what the data are -/
def isIntD : D → Bool | .int _ => true | .bool _ => true | _ => false
def isBoolD : D → Bool | .bool _ => true | _ => false
def isStrD : D → Bool | .str _ => true | _ => false
def isTupD : D → Bool | .tuple _ => true | _ => false
def isListD : D → Bool | .list _ => true | _ => false
theorem kit_int : ∀ d : D, kitB (tyN d) "int" = some (isIntD d)
  | .none => (by decide +kernel : kitB "NoneType" "int" = some false)
  | .bool _ => (by decide +kernel : kitB "bool" "int" = some true)
  | .int _ => (by decide +kernel : kitB "int" "int" = some true)
  | .str _ => (by decide +kernel : kitB "str" "int" = some false)
  | .list _ => (by decide +kernel : kitB "list" "int" = some false)
  | .tuple _ => (by decide +kernel : kitB "tuple" "int" = some false)
  | .dict _ => (by decide +kernel : kitB "dict" "int" = some false)
theorem kit_bool : ∀ d : D, kitB (tyN d) "bool" = some (isBoolD d)
  | .none => (by decide +kernel : kitB "NoneType" "bool" = some false)
  | .bool _ => (by decide +kernel : kitB "bool" "bool" = some true)
  | .int _ => (by decide +kernel : kitB "int" "bool" = some false)
  | .str _ => (by decide +kernel : kitB "str" "bool" = some false)
  | .list _ => (by decide +kernel : kitB "list" "bool" = some false)
  | .tuple _ => (by decide +kernel : kitB "tuple" "bool" = some false)
  | .dict _ => (by decide +kernel : kitB "dict" "bool" = some false)
theorem kit_str : ∀ d : D, kitB (tyN d) "str" = some (isStrD d)
  | .none => (by decide +kernel : kitB "NoneType" "str" = some false)
  | .bool _ => (by decide +kernel : kitB "bool" "str" = some false)
  | .int _ => (by decide +kernel : kitB "int" "str" = some false)
  | .str _ => (by decide +kernel : kitB "str" "str" = some true)
  | .list _ => (by decide +kernel : kitB "list" "str" = some false)
  | .tuple _ => (by decide +kernel : kitB "tuple" "str" = some false)
  | .dict _ => (by decide +kernel : kitB "dict" "str" = some false)
theorem kit_tup : ∀ d : D, kitB (tyN d) "tuple" = some (isTupD d)
  | .none => (by decide +kernel : kitB "NoneType" "tuple" = some false)
  | .bool _ => (by decide +kernel : kitB "bool" "tuple" = some false)
  | .int _ => (by decide +kernel : kitB "int" "tuple" = some false)
  | .str _ => (by decide +kernel : kitB "str" "tuple" = some false)
  | .list _ => (by decide +kernel : kitB "list" "tuple" = some false)
  | .tuple _ => (by decide +kernel : kitB "tuple" "tuple" = some true)
  | .dict _ => (by decide +kernel : kitB "dict" "tuple" = some false)
theorem kit_list : ∀ d : D, kitB (tyN d) "list" = some (isListD d)
  | .none => (by decide +kernel : kitB "NoneType" "list" = some false)
  | .bool _ => (by decide +kernel : kitB "bool" "list" = some false)
  | .int _ => (by decide +kernel : kitB "int" "list" = some false)
  | .str _ => (by decide +kernel : kitB "str" "list" = some false)
  | .list _ => (by decide +kernel : kitB "list" "list" = some true)
  | .tuple _ => (by decide +kernel : kitB "tuple" "list" = some false)
  | .dict _ => (by decide +kernel : kitB "dict" "list" = some false)
section
variable {K : PySem.W.Frag} {C : Fm} {env : En} {ta : TE} {Φ : D → Prop}
theorem we_isInt (h : WE K C ta env fun d => Φ (.bool (isIntD d))) : WE K C (tCB (rIsi K) (tCons ta (tCons (tC (.ty "int")) tNil))) env Φ := we_isi (h.imp fun d q => ⟨_, kit_int d, q⟩)
theorem we_isBool (h : WE K C ta env fun d => Φ (.bool (isBoolD d))) : WE K C (tCB (rIsi K) (tCons ta (tCons (tC (.ty "bool")) tNil))) env Φ := we_isi (h.imp fun d q => ⟨_, kit_bool d, q⟩)
theorem we_isStr (h : WE K C ta env fun d => Φ (.bool (isStrD d))) : WE K C (tCB (rIsi K) (tCons ta (tCons (tC (.ty "str")) tNil))) env Φ := we_isi (h.imp fun d q => ⟨_, kit_str d, q⟩)
theorem we_isTup (h : WE K C ta env fun d => Φ (.bool (isTupD d))) : WE K C (tCB (rIsi K) (tCons ta (tCons (tC (.ty "tuple")) tNil))) env Φ := we_isi (h.imp fun d q => ⟨_, kit_tup d, q⟩)
theorem we_isList (h : WE K C ta env fun d => Φ (.bool (isListD d))) : WE K C (tCB (rIsi K) (tCons ta (tCons (tC (.ty "list")) tNil))) env Φ := we_isi (h.imp fun d q => ⟨_, kit_list d, q⟩)
theorem we_isSeq (h : WE K C ta env fun d => Φ (.bool (isTupD d || isListD d))) : WE K C (tCB (rIsiT K) (tCons ta (tCons (tTup (tCons (tC (.ty "tuple")) (tCons (tC (.ty "list")) tNil))) tNil))) env Φ :=
  we_isi2 (h.imp fun d q => ⟨_, kit_tup d, fun e => by rw [e] at q; exact q, fun e => ⟨_, kit_list d, by rw [e] at q; exact q⟩⟩)
end
/-! ### a def's own datum -/
noncomputable def fdK (K : PySem.W.Frag) (x : Str) : FuncData := match K.lookup (He.fAd K (x, none)) with
  | some ⟨_, _, .func fd, _⟩ => fd
  | _ => PySem.W.fnOf "" "" (defArgs (.Pass ⟨0, 0, 0, 0⟩)) [] (defScope (.Pass ⟨0, 0, 0, 0⟩)) .none .none .none .none none .none .none
theorem funD_fdK {K : PySem.W.Frag} {x name qual : Str} {params : Arguments} {body : List Stmt} {scope : Scope} {dvs : List V} {kws : List (Str × V)} (h : ∃ fd, FunD K name qual params body scope dvs kws (He.fAd K (x, none)) fd) :
    FunD K name qual params body scope dvs kws (He.fAd K (x, none)) (fdK K x) := by
  obtain ⟨fd, F⟩ := h
  obtain ⟨oc, od, dV, kV, doc, pm, an, cdv, ct, osl, e, lk, r⟩ := F.ex
  have e2 : fdK K x = fd := by
    unfold fdK
    rw [lk]
  rw [e2]
  exact F
/-! ### the head's facts, built-in functions of imported modules among them -/
def bltB (K : PySem.W.Frag) (p : Str × Value) : Bool := decide (PySem.W.nsIn K mainGlobals p.1 = some (some p.2))
abbrev AlE : Type := Bool × He.AlD
def obsE (bs : List (Str × Value)) (fa : List He.Fa) (fn : List He.DefD) (K : PySem.W.Frag) : AlE := (bs.all (bltB K), He.obsD fa fn K)
def valE (fn : List He.DefD) : AlE := (true, He.valD fn)
def SaysE (bs : List (Str × Value)) (fa : List He.Fa) (fn : List He.DefD) (K : PySem.W.Frag) : Prop := obsE bs fa fn K = valE fn
def obsEG (n : Nat) (bs : List (Str × Value)) (fa : List He.Fa) (fn : List He.DefD) (g : Addr → Option Obj) : AlE := obsE bs fa fn (He.frG g (He.asD g n))
def hookE (n : Nat) (bs : List (Str × Value)) (fa : List He.Fa) (fn : List He.DefD) : PySem.W.Hook where
  α := AlE
  obs := fun s => obsEG n bs fa fn s.heap.get?
  val := fun _ => valE fn
  says := fun _ h => ∃ K : PySem.W.Frag, K.In h ∧ SaysE bs fa fn K
  of := fun _ _ e => ⟨_, He.frG_in, e⟩
  keeps := fun _ _ _ ⟨K, hK, c⟩ k => ⟨K, PySem.W.Frag.In.keeps hK k, c⟩
theorem obsEG_eq {n : Nat} {bs : List (Str × Value)} {fa : List He.Fa} {fn : List He.DefD} {g : Addr → Option Obj} {s : Shared} (h : ∀ a, g a = s.heap.get? a) : obsEG n bs fa fn g = (hookE n bs fa fn).obs s := by
  have e : g = s.heap.get? := funext h
  rw [e] <;> rfl
section
variable {bs : List (Str × Value)} {fa : List He.Fa} {fn : List He.DefD} {K : PySem.W.Frag}
theorem SaysE.d (c : SaysE bs fa fn K) : He.SaysD fa fn K := congrArg (fun z : AlE => z.2) c
theorem SaysE.blt (c : SaysE bs fa fn K) (i : Nat) {p : Str × Value} (h : bs[i]? = some p := by rfl) : PySem.W.nsIn K mainGlobals p.1 = some (some p.2) :=
  of_decide_eq_true (List.all_eq_true.mp (show bs.all (bltB K) = true from congrArg (fun z : AlE => z.1) c) p (List.mem_of_getElem? h))
end
/-! ### sizes -/
/-- |x| < 2 ^ n -/
def Bd (n : Nat) (x : Int) : Prop := x.natAbs < 2 ^ n
instance {n : Nat} {x : Int} : Decidable (Bd n x) := inferInstanceAs (Decidable (x.natAbs < 2 ^ n))
theorem Bd.mul {a b : Nat} {x y : Int} (h1 : Bd a x) (h2 : Bd b y) : Bd (a + b) (x * y) := wide_lt h1 h2
theorem Bd.mono {a b : Nat} {x : Int} (h1 : Bd a x) (h : a ≤ b) : Bd b x := Nat.lt_of_lt_of_le h1 (Nat.pow_le_pow_right (by decide) h)
theorem Bd.add {a b : Nat} {x y : Int} (h1 : Bd a x) (h2 : Bd b y) : Bd (max a b + 1) (x + y) := by
  have h3 := h1.mono (Nat.le_max_left a b)
  have h4 := h2.mono (Nat.le_max_right a b)
  unfold Bd at *
  rw [Nat.pow_succ]
  omega
theorem Bd.sub {a b : Nat} {x y : Int} (h1 : Bd a x) (h2 : Bd b y) : Bd (max a b + 1) (x - y) := by
  have h3 := h1.mono (Nat.le_max_left a b)
  have h4 := h2.mono (Nat.le_max_right a b)
  unfold Bd at *
  rw [Nat.pow_succ]
  omega
theorem Bd.neg {a : Nat} {x : Int} (h1 : Bd a x) : Bd a (-x) := by
  unfold Bd at *
  omega
theorem cmulW {i j : Int} {a b : Nat} (h1 : Bd a i) (h2 : Bd b j) (h : a + b ≤ 999000) : CMulW i j := wide_mul (a := a + 1) (b := b + 1) (h1.mono (by omega)) (h2.mono (by omega)) (by omega) (by omega) (by omega)
theorem cdivW {i j : Int} {b : Nat} (h : 0 < j) (h2 : Bd b j) (h3 : b ≤ 8900) : CDivW i j := wide_div (b := b + 1) h (h2.mono (by omega)) (by omega) (by omega)
/-! ### rules that name the written part -/
section
variable {X : Cx} {K : PySem.W.Frag} {tg : Expr}
theorem ix_seqK (h : X.K = K) : IxR X (rIx K) := by subst h; exact ix_seq
theorem ix_listK (h : X.K = K) : IxR X (rIxL K) := by subst h; exact ix_list
theorem op_eqDK (h : X.K = K) (hu : X.A.units + 64 < cLine) : OpR X (compareOp .Eq) (rEqD K) := by subst h; exact op_eqD hu
theorem op_neDK (h : X.K = K) (hu : X.A.units + 64 < cLine) : OpR X (compareOp .NotEq) (rNeD K) := by subst h; exact op_neD hu
theorem op_inDK (h : X.K = K) (hu : X.A.units + 65 < cLine) : OpR X (compareOp .In) (rInD K) := by subst h; exact op_inD hu
theorem op_notInDK (h : X.K = K) (hu : X.A.units + 65 < cLine) : OpR X (compareOp .NotIn) (rNotInD K) := by subst h; exact op_notInD hu
theorem call_isiK' (h : X.K = K) : CallR X (.builtin "isinstance") (rIsi K) := by subst h; exact call_isi
theorem call_isiTK (h : X.K = K) : CallR X (.builtin "isinstance") (rIsiT K) := by subst h; exact call_isiT
theorem call_lenK (h : X.K = K) : CallR X (.builtin "len") (fun xs H Q => ∃ p ys, xs = [.ref p] ∧ (SqL K H p ys ∨ SqT K H p ys) ∧ Q (.int ys.length) H) := by subst h; exact call_len_seq
theorem call_tupleK (h : X.K = K) : CallR X (.type "tuple") (fun xs H Q => ∃ p ys, xs = [.ref p] ∧ ((SqL K H p ys ∧ ∀ l, H l = none → Q (.ref l) (upd H l (.tup ys))) ∨ (SqT K H p ys ∧ Q (.ref p) H))) := by subst h; exact call_tuple_of
theorem pi_listK {l : Expr} {tl : TE} (h : X.K = K) (hl : PE X l tl) : PI X tg l (iList K tl) := by subst h; exact pi_list hl
theorem pi_tupK {l : Expr} {tl : TE} (h : X.K = K) (hl : PE X l tl) : PI X tg l (iTup K tl) := by subst h; exact pi_tup hl
theorem pg_tupK {es : List Expr} {k : Nat} {t : TGs} {n : Nat} {pos : Pos} (h : X.K = K) (hc : X.calm = true) (hg : PGs X es t) (hn : (assignEach es X.env).length = n := by rfl) (hst : (assignEach es X.env).findIdx? (·.1) = none := by rfl) : PG X (.Tuple es k pos) (gTup K n t) := by subst h; exact pg_tup hc hg hn hst
end
/-- // by any number that is not 0 -/
def CDivX (_ j : Int) : Prop := j ≠ 0 ∧ j.natAbs.log2 < 9000
theorem op_fdivX {X : Cx} : OpR X (binaryOp .FloorDiv) (rI CDivX fun i j => .int (i.fdiv j)) := opI fun i j _ _ _ _ _ hc q => floordiv_int hc.1 q (.inl (PyProof.noPylong_of_log2 hc.2))
theorem cdivX {i j : Int} {b : Nat} (h : j ≠ 0) (h2 : Bd b j) (h3 : b ≤ 8900) : CDivX i j := ⟨h, Nat.lt_of_lt_of_le (PySem.Flt.log2_lt_of (by omega) (h2.mono (Nat.le_add_right b 1))) (by omega)⟩
/-- a promise that nobody may ask for -/
theorem ok_false {P : Program} {w : World} {K : PySem.W.Frag} {mg : Str → Option Value} {base : Heap} {f : Addr} {fd : FuncData} {ps : List Str} : FnOk P w K mg base CX0 0 f fd ps (fun _ _ _ _ => False) :=
  ⟨fun _ _ _ _ h => h.elim, fun _ _ _ _ _ _ _ _ _ _ _ _ _ h => h.elim⟩
end Rf
set_option Elab.async false
set_option linter.all false
set_option maxRecDepth 100000
namespace Rf
open PySem PySem.Spec PyProof.Rows L2 Evl
/-! ### lists that only the def holds -/
theorem room65 {k : Nat} {A : Around} (h : Room k A) : A.units + 65 < cLine := by
  have := h.un
  omega
theorem upd_own {H : Hp} {a : Addr} {o : HO} (h : H a = some o) : upd H a o = H := by
  funext c
  by_cases q : c = a
  · subst q; rw [upd_same, h]
  · rw [upd_ne q]
theorem dpa_atI {K : PySem.W.Frag} {S : Hp} {xs : List V} {ds : List D} {i : Int} {d : D} (ha : DpAll K S xs ds) (h : atI ds i = some d) : ∃ z, atI xs i = some z ∧ Dp K S z d := by
  have hl := dpa_len ha
  unfold atI at h ⊢
  rw [hl]
  cases e1 : ixN ds.length i with
  | none => rw [e1] at h; cases h
  | some m =>
    rw [e1] at h
    obtain ⟨u, h1, h2⟩ := dpa_get ha (show ds[m]? = some d from h)
    exact ⟨u, h1, h2⟩
section
variable {K : PySem.W.Frag} {C : Fm} {S H S' H' : Hp} {env : En} {σ : L2.St}
theorem Base.none0 (b : Base K C S H) {a : Addr} (h : H a = none) : S a = none ∧ C.H0 a = none ∧ C.R ≠ some a := by
  have hR : C.R ≠ some a := fun e => by
    obtain ⟨_, _, _, _, _, _, h1, _⟩ := b.row a e
    rw [h1] at h; cases h
  refine ⟨ex_none b.ex h, ?_, hR⟩
  cases q : C.H0 a with
  | none => rfl
  | some o => rw [b.fr a o hR q] at h; cases h
/-- an object outside of all that is known is written -/
theorem Base.put (b : Base K C S H) {a : Addr} {o : HO} (hS : S a = none) (h0 : C.H0 a = none) (hR : C.R ≠ some a) : Base K C S (upd H a o) where
  ex := fun c u q => by rw [upd_ne (fun e => by rw [e, hS] at q; cases q)]; exact b.ex c u q
  fr := fun c u n q => by rw [upd_ne (fun e => by rw [e, h0] at q; cases q)]; exact b.fr c u n q
  hid := b.hid
  s0 := b.s0
  row := fun r e => by
    obtain ⟨n, A, ns, i, m, q, h1, h2⟩ := b.row r e
    exact ⟨n, A, ns, i, m, q, by rw [upd_ne (fun z => hR (by rw [← z]; exact e))]; exact h1, h2⟩
theorem nd_none {H : Hp} {a : Addr} (h : H a = none) : ∀ ws, H a ≠ some (.dT ws) := fun ws z => by rw [h] at z; cases z
theorem nd_lst {H : Hp} {a : Addr} {xs : List V} (h : H a = some (.lst xs)) : ∀ ws, H a ≠ some (.dT ws) := fun ws z => by rw [h] at z; cases z
/-- slot i holds a list of the def's own -/
theorem Rep.put (r : Rep K C S env σ H) (i : Nat) {a : Addr} {xs : List V} {ds : List D} (hS : S a = none) (h0 : C.H0 a = none) (hR : C.R ≠ some a) (hd : DpAll K S xs ds)
    (hap : ∀ (j : Nat) (es : List D), j ≠ i → env[j]? = some (some (.own es)) → σ[j]? ≠ some (some (.ref a))) (hnd : ∀ ws, H a ≠ some (.dT ws)) : Rep K C S (env.set i (some (.own ds))) (σ.set i (some (.ref a))) (upd H a (.lst xs)) where
  base := r.base.put hS h0 hR
  len := by rw [List.length_set, List.length_set]; exact r.len
  slot := fun j c e => by
    by_cases hj : i = j
    · subst hj
      by_cases hl : i < env.length
      · rw [List.getElem?_set_self hl] at e
        have e' : Sc.own ds = c := Option.some.inj (Option.some.inj e)
        subst e'
        exact ⟨_, List.getElem?_set_self (by rw [r.len]; exact hl), a, xs, rfl, hS, h0, hR, upd_same, hd⟩
      · rw [List.getElem?_eq_none (by rw [List.length_set]; omega)] at e
        cases e
    · rw [List.getElem?_set_ne hj] at e
      obtain ⟨w, h1, h2⟩ := r.slot j c e
      refine ⟨w, by rw [List.getElem?_set_ne hj]; exact h1, ?_⟩
      cases c with
      | dat d => exact h2
      | row => exact h2
      | own es =>
        obtain ⟨a2, ys, rfl, n, n0, nr, q1, q2⟩ := h2
        have ne : a2 ≠ a := fun z => by subst z; exact hap j es (fun z => hj z.symm) e h1
        exact ⟨a2, ys, rfl, n, n0, nr, by rw [upd_ne ne]; exact q1, q2⟩
      | dic f n =>
        obtain ⟨a2, ws, rfl, n, n0, nr, q1, q2⟩ := h2
        have ne : a2 ≠ a := fun z => by subst z; exact hnd ws q1
        exact ⟨a2, ws, rfl, n, n0, nr, by rw [upd_ne ne]; exact q1, q2⟩
  apart := fun x y us es w hab e1 e2 e3 => by
    by_cases hx : i = x
    · subst hx
      have hy : i ≠ y := hab
      rw [List.getElem?_set_ne hy] at e2 ⊢
      by_cases hl : i < σ.length
      · rw [List.getElem?_set_self hl] at e3
        have e4 : V.ref a = w := Option.some.inj (Option.some.inj e3)
        subst e4
        exact hap y es (fun z => hy z.symm) e2
      · rw [List.getElem?_eq_none (by rw [List.length_set]; omega)] at e3; cases e3
    · rw [List.getElem?_set_ne hx] at e1 e3
      by_cases hy : i = y
      · subst hy
        intro e5
        by_cases hl : i < σ.length
        · rw [List.getElem?_set_self hl] at e5
          have e4 : V.ref a = w := Option.some.inj (Option.some.inj e5)
          subst e4
          exact hap x us (fun z => hx z.symm) e1 e3
        · rw [List.getElem?_eq_none (by rw [List.length_set]; omega)] at e5; cases e5
      · rw [List.getElem?_set_ne hy] at e2 ⊢
        exact r.apart x y us es w hab e1 e2 e3
  apartD := fun x y f g n m w hab e1 e2 e3 => by
    have hl : ∀ z, i = z → (env.set i (some (.own ds)))[z]? ≠ some (some (.dic f n)) ∧ (env.set i (some (.own ds)))[z]? ≠ some (some (.dic g m)) := fun z q => by
      subst q
      by_cases hl : i < env.length
      · rw [List.getElem?_set_self hl]
        exact ⟨(fun z => by cases z), (fun z => by cases z)⟩
      · rw [List.getElem?_eq_none (by rw [List.length_set]; omega)]
        exact ⟨(fun z => by cases z), (fun z => by cases z)⟩
    have hx : i ≠ x := fun q => (hl x q).1 e1
    have hy : i ≠ y := fun q => (hl y q).2 e2
    rw [List.getElem?_set_ne hx] at e1 e3
    rw [List.getElem?_set_ne hy] at e2 ⊢
    exact r.apartD x y f g n m w hab e1 e2 e3
/-- a new object -/
theorem Rep.fresh (r : Rep K C S env σ H) {a : Addr} (h : H a = none) (j : Nat) {c : Sc} (es : List D) (e : env[j]? = some (some (.own es))) : σ[j]? ≠ some (some (.ref a)) := fun e2 => by
  obtain ⟨v, h1, a2, ys, rfl, n, n0, nr, q1, q2⟩ := r.slot j _ e
  rw [h1] at e2
  have e3 : V.ref a2 = V.ref a := Option.some.inj (Option.some.inj e2)
  cases e3
  rw [h] at q1; cases q1
theorem Rep.alloc (r : Rep K C S env σ H) {a : Addr} {o : HO} (h : H a = none) : Rep K C S env σ (upd H a o) where
  base := r.base.put (r.base.none0 h).1 (r.base.none0 h).2.1 (r.base.none0 h).2.2
  len := r.len
  slot := fun j c e => by
    obtain ⟨w, h1, h2⟩ := r.slot j c e
    refine ⟨w, h1, ?_⟩
    cases c with
    | dat d => exact h2
    | row => exact h2
    | own es =>
      obtain ⟨a2, ys, rfl, n, n0, nr, q1, q2⟩ := h2
      exact ⟨a2, ys, rfl, n, n0, nr, by rw [upd_ne (fun z => by rw [z, h] at q1; cases q1)]; exact q1, q2⟩
    | dic f n =>
      obtain ⟨a2, ws, rfl, n, n0, nr, q1, q2⟩ := h2
      exact ⟨a2, ws, rfl, n, n0, nr, by rw [upd_ne (fun z => by rw [z, h] at q1; cases q1)]; exact q1, q2⟩
  apart := r.apart
  apartD := r.apartD
end
section
variable {K : PySem.W.Frag} {C : Fm} {env : En} {te : TE} {tr : TA} {P : Po} {Φ : D → Prop}
/-- x = [..], a list of the def's own -/
theorem ws_asgOwn {i : Nat} (h : WA K C tr env fun ds => ds.length ≤ 100000 ∧ P.nx (env.set i (some (.own ds)))) : WS K C (tAsg (tLst tr) (gName i)) env P := fun S σ H p X k1 k2 k3 k4 =>
  h S σ H p _ fun ds vs S1 H1 s1 d1 ⟨l, q⟩ => ⟨by rw [dpa_len d1]; exact line_of l, fun a ha => by
    have b := (p.step s1).base.none0 ha
    exact k1 _ S1 _ _ ((p.step s1).put i b.1 b.2.1 b.2.2 d1 (fun j es _ e => (p.step s1).fresh (c := .row) ha j es e) (nd_none ha)) s1.s q⟩
/-- x, y = [], .. -/
theorem ws_parOwn {i j : Nat} (hij : i ≠ j) (h : WE K C te env fun d => P.nx ((env.set i (some (.own []))).set j (some (.dat d)))) : WS K C (tPar i j (tCons (tLst tNil) (tCons te tNil))) env P := fun S σ H p X k1 k2 k3 k4 => by
  refine ⟨Nat.zero_le _, fun a ha => ?_⟩
  have b := p.base.none0 ha
  refine h S σ _ (p.alloc ha) _ fun d v S1 H1 s1 d1 q => ?_
  have e1 : H1 a = some (.lst []) := s1.h a _ b.2.2 upd_same
  have eS : S1 a = none := s1.hid a _ upd_same (fun _ z => nomatch z) b.1
  have p1 := (p.alloc (o := .lst []) ha).step s1
  have p2 := p1.put i (ds := []) (xs := []) eS b.2.1 b.2.2 .nil (fun j es _ e => p.fresh (c := .row) ha j es e) (nd_lst e1)
  rw [upd_own e1] at p2
  exact ⟨.ref a, v, rfl, k1 _ S1 _ H1 (p2.set j d1) s1.s q⟩
/-- x.append(..) -/
theorem ws_append {i : Nat} {ds : List D} (hi : env[i]? = some (some (.own ds))) (h : WE K C te env fun d => ds.length < 99000 ∧ P.nx (env.set i (some (.own (ds ++ [d]))))) : WS K C (tDrop (tBM K "list" rAppend (tVar i) (tCons te tNil))) env P := fun S σ H p X k1 k2 k3 k4 => by
  obtain ⟨w, h1, a, xs, rfl, n, n0, nr, q1, q2⟩ := p.slot i _ hi
  refine ⟨.ref a, h1, .inl ⟨rfl, xs, SqL.of q1⟩, ?_⟩
  refine h S σ H p _ fun d v S1 H1 s1 d1 ⟨l, q⟩ => ?_
  have e1 : H1 a = some (.lst xs) := s1.h a _ nr q1
  have eS : S1 a = none := s1.hid a _ q1 (fun _ z => nomatch z) n
  refine ⟨a, xs, v, rfl, rfl, e1, by rw [dpa_len q2]; exact line_lt (by omega), ?_⟩
  have p2 := (p.step s1).put i (xs := xs ++ [v]) (ds := ds ++ [d]) eS n0 nr (dpa_app (dpAll_mono s1.s ds xs q2) (.cons d1 .nil)) (fun j es hj e e2 => by
    exact p.apart i j ds es _ (fun z => hj z.symm) hi e h1 e2) (nd_lst e1)
  have hset : σ.set i (some (.ref a)) = σ := by
    apply List.ext_getElem?
    intro m
    by_cases hm : i = m
    · subst hm
      rw [h1, List.getElem?_set_self]
      exact (List.getElem?_eq_some_iff.mp h1).1
    · rw [List.getElem?_set_ne hm]
  rw [hset] at p2
  exact k1 _ S1 σ _ p2 s1.s q
theorem own_dp {S H : Hp} {a : Addr} {xs : List V} {ds : List D} (e : Ex S H) (h : H a = some (.lst xs)) (d : DpAll K S xs ds) : Dp K H (.ref a) (.list ds) := .lst (SqL.of h) (dpAll_mono e ds xs d) h
/-- .. in a list of the def's own -/
theorem we_inOwn {i : Nat} {ds : List D} (hi : env[i]? = some (some (.own ds))) (h : WE K C te env fun x => SeqAt.shaped x = true ∧ SeqAt.shaped (.list ds) = true ∧ Φ (.bool (ds.any fun z => PyData.eqv z x))) : WE K C (tOp (rInD K) te (tVar i)) env Φ := fun S σ H p Q k => by
  refine h S σ H p _ fun x v S1 H1 s1 d1 ⟨q1, q2, q3⟩ => ?_
  obtain ⟨w, h1, a, xs, rfl, n, n0, nr, e1, e2⟩ := (p.step s1).slot i _ hi
  exact ⟨.ref a, h1, x, ds, (dp_mono s1.k x v d1).old (SeqAt.canLay_of_shaped q1), (own_dp s1.k e1 e2).old (SeqAt.canLay_of_shaped q2), q1, q2, k _ _ S1 H1 s1 (.bl _) q3⟩
theorem we_notInOwn {i : Nat} {ds : List D} (hi : env[i]? = some (some (.own ds))) (h : WE K C te env fun x => SeqAt.shaped x = true ∧ SeqAt.shaped (.list ds) = true ∧ Φ (.bool (!ds.any fun z => PyData.eqv z x))) : WE K C (tOp (rNotInD K) te (tVar i)) env Φ := fun S σ H p Q k => by
  refine h S σ H p _ fun x v S1 H1 s1 d1 ⟨q1, q2, q3⟩ => ?_
  obtain ⟨w, h1, a, xs, rfl, n, n0, nr, e1, e2⟩ := (p.step s1).slot i _ hi
  exact ⟨.ref a, h1, x, ds, (dp_mono s1.k x v d1).old (SeqAt.canLay_of_shaped q1), (own_dp s1.k e1 e2).old (SeqAt.canLay_of_shaped q2), q1, q2, k _ _ S1 H1 s1 (.bl _) q3⟩
/-- len of one -/
theorem we_lenOwn {i : Nat} {ds : List D} (hi : env[i]? = some (some (.own ds))) (h : Φ (.int ds.length)) : WE K C (tCB (fun xs H Q => ∃ p ys, xs = [.ref p] ∧ (SqL K H p ys ∨ SqT K H p ys) ∧ Q (.int ys.length) H) (tCons (tVar i) tNil)) env Φ := fun S σ H p Q k => by
  obtain ⟨w, h1, a, xs, rfl, n, n0, nr, e1, e2⟩ := p.slot i _ hi
  refine ⟨.ref a, h1, a, xs, rfl, .inl (SqL.of e1), ?_⟩
  rw [dpa_len e2]
  exact k _ _ S H (Stp.refl p.base) (.int _) h
/-- tuple of one -/
theorem we_tupleOwn {i : Nat} {ds : List D} (hi : env[i]? = some (some (.own ds))) (h : Φ (.tuple ds)) : WE K C (tCB (fun xs H Q => ∃ p ys, xs = [.ref p] ∧ ((SqL K H p ys ∧ ∀ l, H l = none → Q (.ref l) (upd H l (.tup ys))) ∨ (SqT K H p ys ∧ Q (.ref p) H))) (tCons (tVar i) tNil)) env Φ := fun S σ H p Q k => by
  obtain ⟨w, h1, a, xs, rfl, n, n0, nr, e1, e2⟩ := p.slot i _ hi
  refine ⟨.ref a, h1, a, xs, rfl, .inl ⟨SqL.of e1, fun l hl => ?_⟩⟩
  exact k _ _ _ _ ((Step.new p.base.ex hl).stp p.base) (dp_tup (ex_none p.base.ex hl) e2) h
/-- an item of one -/
theorem we_ixOwn {i : Nat} {ds : List D} (hi : env[i]? = some (some (.own ds))) (h : WE K C te env fun x => ∃ (j : Int) (d : D), x = .int j ∧ atI ds j = some d ∧ Φ d) : WE K C (tOp (rIx K) (tVar i) te) env Φ := fun S σ H p Q k => by
  obtain ⟨w, h1, a, xs, rfl, n, n0, nr, e1, e2⟩ := p.slot i _ hi
  refine ⟨.ref a, h1, ?_⟩
  refine h S σ H p _ fun x v S1 H1 s1 d1 ⟨j, d, ex, hat, q⟩ => ?_
  subst ex
  cases d1
  have f1 : H1 a = some (.lst xs) := s1.h a _ nr e1
  obtain ⟨u, hu, du⟩ := dpa_atI (dpAll_mono s1.s ds xs e2) hat
  exact .inl ⟨a, xs, j, u, rfl, rfl, SqL.of f1, hu, k d u S1 H1 s1 du q⟩
end
section
variable {K : PySem.W.Frag} {C : Fm} {env : En}
/-- [e for x in xs if t] over a list -/
theorem we_lcL {j : Nat} {tl : TE} {tt : TT} {te : TE} {Φ : D → Prop} (h : WE K C tl env fun d0 => ∃ es, d0 = .list es ∧ es.length ≤ 50000 ∧ ∃ I : Nat → List D → Prop, I 0 [] ∧
    (∀ (i : Nat) (d : D) acc, es[i]? = some d → I i acc → WT K C tt ((env.set j none).set j (some (.dat d))) fun b => (b = true → WE K C te ((env.set j none).set j (some (.dat d))) fun y => I (i + 1) (acc ++ [y])) ∧ (b = false → I (i + 1) acc)) ∧
    (∀ i acc, I i acc → acc.length ≤ i) ∧ ∀ acc, I es.length acc → Φ (.list acc)) : WE K C (tLc (iList K tl) (gName j) tt te [j]) env Φ := fun S σ H p Q k =>
  h S σ H p _ fun d0 v0 S1 H1 s1 d1 ⟨es, e, n1, I, i0, hs, hl, hd⟩ => by
    subst e
    cases d1 with
    | @lst a0 ys _ hx ha =>
      have hlen := dpa_len ha
      refine ⟨a0, rfl, ⟨ys, ex_l s1.k hx⟩, fun L hL => ?_⟩
      refine lc_list (K := K) (a := a0) (xs := ys) (fun i H' => ∃ S' acc xs, Stp K C S1 H1 S' H' ∧ S' L = none ∧ H' L = some (.lst xs) ∧ DpAll K S' xs acc ∧ I i acc) ⟨S1, [], [], ⟨Ex.refl S1, s1.k.trans (Ex.new hL), fun a o _ q => Ex.new hL a o q, fun _ _ _ _ n => n, fun r e => ?_⟩, ex_none s1.k hL, upd_same, .nil, i0⟩ (fun i H' _ ⟨S', acc, xs, st, _⟩ => ex_l (st.s.trans st.k) hx) ?_ ?_
      · have rw0 := (p.step s1).base.row r e
        exact rw0.step ⟨Ex.refl S1, s1.k.trans (Ex.new hL), Ex.new hL, fun _ _ _ _ n => n⟩
      · rintro i x H' hi ⟨S', acc, xs, st, n', h', a', ia⟩
        obtain ⟨d, hd', dd⟩ := dpa_getV ha hi
        have hi2 : i < ys.length := (List.getElem?_eq_some_iff.mp hi).1
        refine ⟨wipe1 σ j _, ?_⟩
        have p1 : Rep K C S' ((env.set j none).set j (some (.dat d))) ((wipe σ [j]).set j (some x)) H' := (((p.step s1).step st).unset j).set j (dp_mono st.s d x dd)
        refine hs i d acc hd' ia S' _ H' p1 _ fun b S2 H2 s2 ⟨q1, q2⟩ => ?_
        have hRL : ∀ r, C.R = some r → r ≠ L := fun r e => by
          obtain ⟨_, A, ns, x1, x2, x3, q, _⟩ := (p.step s1).base.row r e
          exact ne_of_none q hL
        have nRL : C.R ≠ some L := fun e => hRL L e rfl
        cases b with
        | true =>
          refine q1 rfl S2 _ H2 (p1.step s2) _ fun y v S3 H3 s3 d3 i3 => ?_
          have s23 := s2.trans s3
          have hL3 : H3 L = some (.lst xs) := s23.h L _ nRL h'
          have n3 : S3 L = none := s23.hid L _ h' (fun _ z => nomatch z) n'
          have lx : xs.length = acc.length := dpa_len a'
          have := hl i acc ia
          refine ⟨xs, hL3, line_lt (by omega), S3, acc ++ [y], xs ++ [v], ?_, n3, upd_same, dpa_app (dpAll_mono s23.s acc xs a') (.cons d3 .nil), i3⟩
          have ss := st.trans s23
          refine ⟨ss.s, ?_, ?_, ss.hid, fun r e => ?_⟩
          · intro a o q
            rw [upd_ne (fun z => by rw [z] at q; rw [n3] at q; cases q)]
            exact ss.k a o q
          · intro a o nr q
            rw [upd_ne (ne_of_none q hL)]
            exact ss.h a o nr q
          · obtain ⟨z1, A, ns, x1, x2, x3, z2, z3⟩ := ss.row r e
            exact ⟨z1, A, ns, x1, x2, x3, by rw [upd_ne (hRL r e)]; exact z2, z3⟩
        | false =>
          have hL3 : H2 L = some (.lst xs) := s2.h L _ nRL h'
          exact ⟨S2, acc, xs, st.trans s2, s2.hid L _ h' (fun _ z => nomatch z) n', hL3, dpAll_mono s2.s acc xs a', q2 rfl⟩
      · rintro H' ⟨S', acc, xs, st, n', h', a', ia⟩
        have ss := s1.trans st
        refine k (.list acc) (.ref L) (upd S' L (.lst xs)) H' ⟨ss.s.trans (Ex.new n'), ?_, ss.h, ?_, fun r e => ?_⟩ (dp_lst n' a') (hd acc (by rw [← hlen]; exact ia))
        · intro a o q
          by_cases z : a = L
          · subst z; rw [upd_same] at q; rw [h']; exact q
          · rw [upd_ne z] at q; exact st.k a o q
        · intro b o q tq nq
          have hb : b ≠ L := by
            by_cases hr : C.R = some b
            · obtain ⟨_, A, ns, x1, x2, x3, q', _⟩ := (p.step s1).base.row b hr
              exact ne_of_none q' hL
            · exact ne_of_none (s1.h b o hr q) hL
          rw [upd_ne hb]
          exact ss.hid b o q tq nq
        · obtain ⟨_, A, ns, x1, x2, x3, q', _⟩ := (p.step s1).base.row r e
          have hb : r ≠ L := ne_of_none q' hL
          obtain ⟨z1, A, ns, x1, x2, x3, z2, z3, z4⟩ := ss.row r e
          exact ⟨by rw [upd_ne hb]; exact z1, A, ns, x1, x2, x3, z2, ex_l (Ex.new n') z3, z4⟩
end
section
variable {K : PySem.W.Frag} {C : Fm} {env : En} {te : TE} {tr : TA} {P : Po} {Φ : D → Prop}
/-- x = x + [..], where x is the def's own -/
theorem ws_catOwn {i : Nat} {ds : List D} (hi : env[i]? = some (some (.own ds))) (h : WA K C tr env fun es => ds.length + es.length ≤ 100000 ∧ P.nx (env.set i (some (.own (ds ++ es))))) : WS K C (tAsg (tOp rCat (tVar i) (tLst tr)) (gName i)) env P := fun S σ H p X k1 k2 k3 k4 => by
  obtain ⟨w, h1, a, xs, rfl, n, n0, nr, q1, q2⟩ := p.slot i _ hi
  refine ⟨.ref a, h1, ?_⟩
  refine h S σ H p _ fun es vs S1 H1 s1 d1 ⟨l, q⟩ => ⟨by rw [dpa_len d1]; exact line_of (by omega), fun b hb => ?_⟩
  have e1 : H1 a = some (.lst xs) := s1.h a _ nr q1
  have p1 := (p.step s1).alloc (o := .lst vs) hb
  have ne : a ≠ b := ne_of_none e1 hb
  refine ⟨a, b, xs, vs, rfl, rfl, by rw [upd_ne ne]; exact e1, upd_same, by rw [dpa_len q2, dpa_len d1]; exact line_of l, fun c hc => ?_⟩
  have bb := p1.base.none0 hc
  exact k1 _ S1 _ _ (p1.put i bb.1 bb.2.1 bb.2.2 (dpa_app (dpAll_mono s1.s ds xs q2) d1) (fun j es _ e => p1.fresh (c := .row) hc j es e) (nd_none hc)) s1.s q
theorem wg_lst {n : Nat} {gs : TGs} {ds : List D} {Ψ : En → Prop} (hn : ds.length = n) (h : WGs K C gs ds env Ψ) : WG K C (gUnl K n gs) (.list ds) env Ψ := fun S σ H v p dv Q k => by
  cases dv with
  | @lst a xs _ hs ha => exact ⟨a, xs, rfl, ex_l p.base.ex hs, (dpa_len ha).trans hn, h S σ H xs p ha Q k⟩
/-- a def that draws, and looks at a list: called with the row and a list that stays or the caller's own -/
def spB (K : PySem.W.Frag) (Pr : List D → Prop) (Rl : List D → D → Prop) : Sp := fun vs H Q _ => ∃ (ds : List D) (S : Hp) (R a : Addr) (xs : List V), vs = [.ref R, .ref a] ∧ Ex S H ∧ RowOk K S H R ∧ SqL K H a xs ∧ (∀ S' H', Stp K ⟨some R, H, S⟩ S H S' H' → SqL K H' a xs) ∧ DpAll K S xs ds ∧ Pr ds ∧
  ∀ d, Rl ds d → ∀ v S' H', Stp K ⟨some R, H, S⟩ S H S' H' → Dp K S' v d → Q v H'
theorem stp_back {S H S2 H2 : Hp} {R : Addr} (hR : C.R = some R) (s2 : Stp K ⟨some R, H, S⟩ S H S2 H2) : Stp K C S H S2 H2 :=
  ⟨s2.s, s2.k, fun a o n q => s2.h a o (by show (some R : Option Addr) ≠ some a; rw [← hR]; exact n) q, s2.hid, fun r' e' => by
    have e2 : R = r' := Option.some.inj (hR.symm.trans e')
    subst e2
    exact s2.row R rfl⟩
theorem we_callB {i : Nat} {Pr : List D → Prop} {Rl : List D → D → Prop} (hi : env[i]? = some (some .row)) (h : WE K C te env fun d => ∃ ds, d = .list ds ∧ Pr ds ∧ ∀ d, Rl ds d → Φ d) : WE K C (tCall (spB K Pr Rl) [] E0 (tCons (tVar i) (tCons te tNil))) env Φ := fun S σ H p Q k => by
  obtain ⟨v, h1, R, hR, rfl⟩ := p.slot i _ hi
  refine ⟨.ref R, h1, ?_⟩
  refine h S σ H p _ fun d v S1 H1 s1 d1 ⟨ds, e, pr, q⟩ => ?_
  subst e
  cases d1 with
  | @lst a xs _ hx ha =>
    have b1 := (p.step s1).base
    exact ⟨ds, S1, R, a, xs, rfl, s1.k, b1.row R hR, ex_l s1.k hx, fun S' H' st => ex_l (st.s.trans st.k) hx, ha, pr, fun d r v S2 H2 s2 d2 => k d v S2 H2 (s1.trans (stp_back hR s2)) d2 (q d r)⟩
theorem we_callBOwn {i j : Nat} {ds : List D} {Pr : List D → Prop} {Rl : List D → D → Prop} (hi : env[i]? = some (some .row)) (hj : env[j]? = some (some (.own ds))) (h : Pr ds ∧ ∀ d, Rl ds d → Φ d) : WE K C (tCall (spB K Pr Rl) [] E0 (tCons (tVar i) (tCons (tVar j) tNil))) env Φ := fun S σ H p Q k => by
  obtain ⟨v, h1, R, hR, rfl⟩ := p.slot i _ hi
  obtain ⟨w, g1, a, xs, rfl, n, n0, nr, e1, e2⟩ := p.slot j _ hj
  refine ⟨.ref R, h1, .ref a, g1, ?_⟩
  exact ⟨ds, S, R, a, xs, rfl, p.base.ex, p.base.row R hR, SqL.of e1, fun S' H' st => SqL.of (st.h a _ (by show (some R : Option Addr) ≠ some a; rw [← hR]; exact nr) e1), e2, h.1, fun d r v S2 H2 s2 d2 => k d v S2 H2 (stp_back hR s2) d2 (h.2 d r)⟩
/-- a statement whose ends are told, then the rest -/
theorem ws_mid {t u : TS} (J : En → Prop) (h1 : WS K C t env { P with nx := J }) (h2 : ∀ e, J e → WS K C u e P) : WS K C (tSeq t u) env P := ws_seq fun S σ H p X k1 k2 k3 k4 =>
  h1 S σ H p X (fun e S' σ' H' p' x q => k1 e S' σ' H' p' x (h2 e q)) k2 k3 k4
theorem pg_unlK {X : Cx} {es : List Expr} {k : Nat} {t : TGs} {n : Nat} {pos : Pos} (h : X.K = K) (hc : X.calm = true) (hg : PGs X es t) (hn : (assignEach es X.env).length = n := by rfl) (hst : (assignEach es X.env).findIdx? (·.1) = none := by rfl) : PG X (.Tuple es k pos) (gUnl K n t) := by subst h; exact pg_unl hc hg hn hst
/-- the def's own list is never written again: from here on it is data -/
theorem ws_freeze {t : TS} {i : Nat} {ds : List D} (hi : env[i]? = some (some (.own ds))) (h : WS K C t (env.set i (some (.dat (.list ds)))) P) : WS K C t env P := fun S σ H p X k1 k2 k3 k4 => by
  obtain ⟨w, h1, a, xs, rfl, n, n0, nr, q1, q2⟩ := p.slot i _ hi
  have e : Ex S (upd S a (.lst xs)) := Ex.new n
  have p' : Rep K C (upd S a (.lst xs)) (env.set i (some (.dat (.list ds)))) σ H := by
    refine ⟨⟨fun b o q => ?_, p.base.fr, fun b o q tq z => ?_, p.base.s0.trans e, fun r er => ?_⟩, by rw [List.length_set]; exact p.len, fun j c hj => ?_, fun j m us es v hjm e1 e2 e3 => ?_, fun j m f g n1 n2 v hjm e1 e2 e3 => ?_⟩
    · by_cases z : b = a
      · subst z; rw [upd_same] at q; rw [q1]; exact q
      · rw [upd_ne z] at q; exact p.base.ex b o q
    · have z2 : b ≠ a := fun y => by rw [y, n0] at q; cases q
      rw [upd_ne z2]
      exact p.base.hid b o q tq z
    · obtain ⟨y1, A, ns, i1, m1, r1, y2, y3, y4⟩ := p.base.row r er
      have z2 : r ≠ a := fun y => nr (y ▸ er)
      exact ⟨by rw [upd_ne z2]; exact y1, A, ns, i1, m1, r1, y2, ex_l e y3, y4⟩
    · by_cases z : i = j
      · subst z
        have hl : i < env.length := (List.getElem?_eq_some_iff.mp hi).1
        rw [List.getElem?_set_self hl] at hj
        have e' : Sc.dat (.list ds) = c := Option.some.inj (Option.some.inj hj)
        subst e'
        exact ⟨.ref a, h1, .lst (SqL.of upd_same) (dpAll_mono e ds xs q2) upd_same⟩
      · rw [List.getElem?_set_ne z] at hj
        obtain ⟨v, g1, g2⟩ := p.slot j c hj
        refine ⟨v, g1, ?_⟩
        cases c with
        | dat d => exact dp_mono e d v g2
        | row => exact g2
        | own es =>
          obtain ⟨a2, ys, rfl, y1, y2, y3, y4, y5⟩ := g2
          have ne : a2 ≠ a := fun y => by
            subst y
            exact p.apart j i es ds _ (fun y => z y.symm) hj hi g1 h1
          exact ⟨a2, ys, rfl, by rw [upd_ne ne]; exact y1, y2, y3, y4, dpAll_mono e es ys y5⟩
        | dic f n1 =>
          obtain ⟨a2, ws, rfl, y1, y2, y3, y4, y5, y6⟩ := g2
          have ne : a2 ≠ a := fun y => by subst y; rw [q1] at y4; cases y4
          exact ⟨a2, ws, rfl, by rw [upd_ne ne]; exact y1, y2, y3, y4, y5, fun k => (y6 k).mono e⟩
    · have hl : i < env.length := (List.getElem?_eq_some_iff.mp hi).1
      have nj : i ≠ j := fun y => by subst y; rw [List.getElem?_set_self hl] at e1; cases e1
      have nm : i ≠ m := fun y => by subst y; rw [List.getElem?_set_self hl] at e2; cases e2
      rw [List.getElem?_set_ne nj] at e1
      rw [List.getElem?_set_ne nm] at e2
      exact p.apart j m us es v hjm e1 e2 e3
    · have hl : i < env.length := (List.getElem?_eq_some_iff.mp hi).1
      have nj : i ≠ j := fun y => by subst y; rw [List.getElem?_set_self hl] at e1; cases e1
      have nm : i ≠ m := fun y => by subst y; rw [List.getElem?_set_self hl] at e2; cases e2
      rw [List.getElem?_set_ne nj] at e1
      rw [List.getElem?_set_ne nm] at e2
      exact p.apartD j m f g n1 n2 v hjm e1 e2 e3
  exact h _ σ H p' X (fun e2 S2 σ2 H2 y x q => k1 e2 S2 σ2 H2 y (e.trans x) q) k2 (fun e2 S2 σ2 H2 y x q => k3 e2 S2 σ2 H2 y (e.trans x) q) (fun e2 S2 σ2 H2 y x q => k4 e2 S2 σ2 H2 y (e.trans x) q)
/-- for over enumerate of a list that stays -/
theorem ws_forEn {g : TG} {ta : TA} {t : TS} (h : WA K C ta env fun es => ∃ ds, es = [.list ds] ∧ ∃ I : Nat → En → Prop, I 0 env ∧
    (∀ (i : Nat) (d : D) (e : En), ds[i]? = some d → I i e → WG K C g (.tuple [.int (i : Int), d]) e fun e' => WS K C t e' { nx := I (i + 1), ct := I (i + 1), rt := P.rt, bk := P.nx }) ∧ ∀ e, I ds.length e → P.nx e) : WS K C (tFor (iEnum K ta) g t) env P := fun S σ H p X k1 k2 k3 k4 =>
  h S σ H p _ fun es vs S1 H1 s1 d1 ⟨ds, e, I, i0, hs, hd⟩ => by
    subst e
    cases d1 with
    | cons d1 t1 =>
      cases t1
      cases d1 with
      | @lst a xs _ hx ha =>
        have hl := dpa_len ha
        refine ⟨a, xs, rfl, ex_l s1.k hx, fun i m σ' H' => m = xs.length - i ∧ i ≤ xs.length ∧ ∃ S' e, Rep K C S' e σ' H' ∧ Ex S1 S' ∧ I i e, ⟨xs.length, by simp, Nat.zero_le _, S1, env, p.step s1, Ex.refl S1, i0⟩, ?_⟩
        rintro i m σ' H' ⟨rfl, hi, S', e, p', x', ie⟩
        have q : SqL K H' a xs := ex_l (x'.trans p'.base.ex) hx
        by_cases hlt : i < xs.length
        · refine .inr ⟨⟨xs, xs[i], q, List.getElem?_eq_getElem hlt⟩, fun σ2 H2 => ∃ S2 e2, Rep K C S2 e2 σ2 H2 ∧ Ex S1 S2 ∧ I (i + 1) e2, fun σ2 H2 z => ⟨xs.length - (i + 1), by omega, rfl, hlt, z⟩, ?_⟩
          rintro v H2 ⟨T, x, rfl, hT, rfl, hx2⟩
          obtain ⟨d, hd', dd⟩ := dpa_getV ha (hx2 xs q)
          have st := (Step.new (o := .tup [.int (i : Int), x]) p'.base.ex hT).stp p'.base
          have dv : Dp K (upd S' T (.tup [.int (i : Int), x])) (.ref T) (.tuple [.int (i : Int), d]) := dp_tup (ex_none p'.base.ex hT) (.cons (.int _) (.cons (dp_mono x' d x dd) .nil))
          refine hs i d e hd' ie _ σ' _ (.ref T) (p'.step st) dv _ fun e2 σ2 p3 q2 => ?_
          exact q2 _ σ2 _ p3 _ (fun e3 S3 σ3 H3 p4 x3 q3 => ⟨S3, e3, p4, (x'.trans st.s).trans x3, q3⟩) k2 (fun e3 S3 σ3 H3 p4 x3 q3 => k1 e3 S3 σ3 H3 p4 (((s1.s.trans x').trans st.s).trans x3) q3) (fun e3 S3 σ3 H3 p4 x3 q3 => ⟨S3, e3, p4, (x'.trans st.s).trans x3, q3⟩)
        · have e2 : i = xs.length := by omega
          subst e2
          exact .inl ⟨⟨xs, q, Nat.le_refl _⟩, k1 e S' σ' H' p' (s1.s.trans x') (hd e (by rw [← hl]; exact ie))⟩
end
end Rf
set_option Elab.async false
set_option linter.all false
namespace Rf
open PySem
/-! points and ratios, in plain numbers -/
abbrev P3 := Int × Int × Int
def pt (p : P3) : D := .tuple [.int p.1, .int p.2.1, .int p.2.2]
def Nm (p : P3) : Prop := 0 < p.2.2 ∧ Nat.gcd (Nat.gcd p.1.natAbs p.2.1.natAbs) p.2.2.natAbs = 1
def rt (q : Rat) : D := .tuple [.int q.num, .int (q.den : Int)]
def qx (p : P3) : Rat := Rat.divInt p.1 p.2.2
def qy (p : P3) : Rat := Rat.divInt p.2.1 p.2.2
def sg (l g : Int) : Int := if l < 0 then -g else g
def low (x y w : Int) : P3 := (x.fdiv (sg w (Nat.gcd (Nat.gcd x.natAbs y.natAbs) w.natAbs : Nat)), y.fdiv (sg w (Nat.gcd (Nat.gcd x.natAbs y.natAbs) w.natAbs : Nat)), w.fdiv (sg w (Nat.gcd (Nat.gcd x.natAbs y.natAbs) w.natAbs : Nat)))
theorem fdiv_exact {g x : Int} (h : g ≠ 0) : (g * x).fdiv g = x := by
  rw [Int.mul_comm]
  exact Int.mul_fdiv_cancel x h
/-- x = g * (x / g) for a divisor -/
theorem dvd_fdiv {g x : Int} (h0 : g ≠ 0) (h : g ∣ x) : x = g * x.fdiv g := by
  obtain ⟨c, rfl⟩ := h
  rw [fdiv_exact h0]
theorem sg_ne {l g : Int} (h : g ≠ 0) : sg l g ≠ 0 := by unfold sg; split <;> omega
theorem sg_dvd {l g x : Int} (h : g ∣ x) : sg l g ∣ x := by
  unfold sg
  split
  · exact Int.neg_dvd.mpr h
  · exact h
theorem rr_eq {u l : Int} (h : l ≠ 0) : u.fdiv (sg l (Nat.gcd u.natAbs l.natAbs : Nat)) = (Rat.divInt u l).num ∧ l.fdiv (sg l (Nat.gcd u.natAbs l.natAbs : Nat)) = ((Rat.divInt u l).den : Int) := by
  have hg : 0 < Nat.gcd u.natAbs l.natAbs := Nat.gcd_pos_of_pos_right _ (by omega)
  obtain ⟨a, ha⟩ : ((Nat.gcd u.natAbs l.natAbs : Nat) : Int) ∣ u := Int.ofNat_dvd_left.mpr (Nat.gcd_dvd_left _ _)
  obtain ⟨b, hb⟩ : ((Nat.gcd u.natAbs l.natAbs : Nat) : Int) ∣ l := Int.ofNat_dvd_left.mpr (Nat.gcd_dvd_right _ _)
  have e1 : l.gcd u = Nat.gcd u.natAbs l.natAbs := by rw [Int.gcd_comm]; rfl
  rw [Rat.num_divInt, Rat.den_divInt, if_neg h, e1]
  generalize hG : ((Nat.gcd u.natAbs l.natAbs : Nat) : Int) = G at *
  have hG0 : 0 < G := by omega
  have e2 : ((l.natAbs / Nat.gcd u.natAbs l.natAbs : Nat) : Int) = l.natAbs / G := by rw [← hG]; exact Int.natCast_ediv _ _
  rw [e2]
  unfold sg
  by_cases hl : l < 0
  · rw [if_pos hl, Int.sign_eq_neg_one_of_neg hl]
    have e3 : ((l.natAbs : Nat) : Int) = -l := by omega
    rw [e3]
    constructor
    · have : u = (-G) * (-a) := by rw [Int.neg_mul_neg]; exact ha
      rw [this, fdiv_exact (by omega)]
      have : -1 * (-G * -a) = G * (-a) := by rw [Int.neg_mul_neg]; grind
      rw [this, Int.mul_ediv_cancel_left _ (by omega)]
    · have : l = (-G) * (-b) := by rw [Int.neg_mul_neg]; exact hb
      rw [this, fdiv_exact (by omega)]
      have : -(-G * -b) = G * (-b) := by rw [Int.neg_mul_neg]; grind
      rw [this, Int.mul_ediv_cancel_left _ (by omega)]
  · rw [if_neg hl, Int.sign_eq_one_of_pos (by omega)]
    have e3 : ((l.natAbs : Nat) : Int) = l := by omega
    rw [e3]
    constructor
    · conv => lhs; rw [ha]
      rw [fdiv_exact (by omega), Int.one_mul]
      conv => rhs; rw [ha]
      rw [Int.mul_ediv_cancel_left _ (by omega)]
    · conv => lhs; rw [hb]
      rw [fdiv_exact (by omega)]
      conv => rhs; rw [hb]
      rw [Int.mul_ediv_cancel_left _ (by omega)]
/-- what low is: the same multiplied by one number -/
theorem low_spec {x y w : Int} (h : w ≠ 0) : ∃ g : Int, g ≠ 0 ∧ x = g * (low x y w).1 ∧ y = g * (low x y w).2.1 ∧ w = g * (low x y w).2.2 ∧ Nm (low x y w) := by
  have hg : 0 < Nat.gcd (Nat.gcd x.natAbs y.natAbs) w.natAbs := Nat.gcd_pos_of_pos_right _ (by omega)
  have d1 : ((Nat.gcd (Nat.gcd x.natAbs y.natAbs) w.natAbs : Nat) : Int) ∣ x := Int.ofNat_dvd_left.mpr (Nat.dvd_trans (Nat.gcd_dvd_left _ _) (Nat.gcd_dvd_left _ _))
  have d2 : ((Nat.gcd (Nat.gcd x.natAbs y.natAbs) w.natAbs : Nat) : Int) ∣ y := Int.ofNat_dvd_left.mpr (Nat.dvd_trans (Nat.gcd_dvd_left _ _) (Nat.gcd_dvd_right _ _))
  have d3 : ((Nat.gcd (Nat.gcd x.natAbs y.natAbs) w.natAbs : Nat) : Int) ∣ w := Int.ofNat_dvd_left.mpr (Nat.gcd_dvd_right _ _)
  have ns := sg_ne (l := w) (g := ((Nat.gcd (Nat.gcd x.natAbs y.natAbs) w.natAbs : Nat) : Int)) (by omega)
  have e1 := dvd_fdiv ns (sg_dvd d1)
  have e2 := dvd_fdiv ns (sg_dvd d2)
  have e3 := dvd_fdiv ns (sg_dvd d3)
  refine ⟨_, ns, e1, e2, e3, ?_, ?_⟩
  · show 0 < w.fdiv _
    generalize hq : w.fdiv (sg w ((Nat.gcd (Nat.gcd x.natAbs y.natAbs) w.natAbs : Nat) : Int)) = q at e3 ⊢
    generalize hG : ((Nat.gcd (Nat.gcd x.natAbs y.natAbs) w.natAbs : Nat) : Int) = G at e3 hq ns d1 d2 d3
    have hG0 : 0 < G := by omega
    unfold sg at e3
    by_cases hl : w < 0
    · rw [if_pos hl] at e3
      rcases Int.lt_trichotomy q 0 with c | c | c
      · have := Int.mul_pos_of_neg_of_neg (show -G < 0 by omega) c
        omega
      · subst c; rw [Int.mul_zero] at e3; omega
      · exact c
    · rw [if_neg hl] at e3
      rcases Int.lt_trichotomy q 0 with c | c | c
      · have := Int.mul_neg_of_pos_of_neg hG0 c
        omega
      · subst c; rw [Int.mul_zero] at e3; omega
      · exact c
  · show Nat.gcd (Nat.gcd (x.fdiv _).natAbs (y.fdiv _).natAbs) (w.fdiv _).natAbs = 1
    have ab : ∀ z : Int, (sg w z).natAbs = z.natAbs := fun z => by unfold sg; split <;> omega
    generalize hG : Nat.gcd (Nat.gcd x.natAbs y.natAbs) w.natAbs = G at *
    generalize x.fdiv (sg w (G : Int)) = a at *
    generalize y.fdiv (sg w (G : Int)) = b at *
    generalize w.fdiv (sg w (G : Int)) = c at *
    have f1 : x.natAbs = G * a.natAbs := by rw [e1, Int.natAbs_mul, ab]; simp
    have f2 : y.natAbs = G * b.natAbs := by rw [e2, Int.natAbs_mul, ab]; simp
    have f3 : w.natAbs = G * c.natAbs := by
      have := congrArg Int.natAbs e3
      rw [Int.natAbs_mul, ab] at this
      simpa using this
    rw [f1, f2, f3, Nat.gcd_mul_left, Nat.gcd_mul_left] at hG
    have := Nat.eq_of_mul_eq_mul_left hg (show G * Nat.gcd (Nat.gcd a.natAbs b.natAbs) c.natAbs = G * 1 by omega)
    exact this
theorem divInt_scale {g a b : Int} (h : g ≠ 0) (hb : b ≠ 0) : Rat.divInt (g * a) (g * b) = Rat.divInt a b := by
  refine (Rat.divInt_eq_divInt_iff ?_ hb).mpr (by grind)
  exact Int.mul_ne_zero h hb
theorem low_qx {x y w : Int} (h : w ≠ 0) : qx (low x y w) = Rat.divInt x w := by
  obtain ⟨g, hg, e1, e2, e3, n⟩ := low_spec (x := x) (y := y) h
  unfold qx
  rw [← divInt_scale hg (show (low x y w).2.2 ≠ 0 by have := n.1; omega), ← e1, ← e3]
theorem low_qy {x y w : Int} (h : w ≠ 0) : qy (low x y w) = Rat.divInt y w := by
  obtain ⟨g, hg, e1, e2, e3, n⟩ := low_spec (x := x) (y := y) h
  unfold qy
  rw [← divInt_scale hg (show (low x y w).2.2 ≠ 0 by have := n.1; omega), ← e2, ← e3]
theorem low_nm {x y w : Int} (h : w ≠ 0) : Nm (low x y w) := by
  obtain ⟨g, hg, e1, e2, e3, n⟩ := low_spec (x := x) (y := y) h
  exact n
theorem abs_le_mul {g a : Int} (h : g ≠ 0) : a.natAbs ≤ (g * a).natAbs := by
  rw [Int.natAbs_mul]
  exact Nat.le_mul_of_pos_left _ (by omega)
theorem low_le {x y w : Int} (h : w ≠ 0) : (low x y w).1.natAbs ≤ x.natAbs ∧ (low x y w).2.1.natAbs ≤ y.natAbs ∧ (low x y w).2.2.natAbs ≤ w.natAbs := by
  obtain ⟨g, hg, e1, e2, e3, n⟩ := low_spec (x := x) (y := y) h
  refine ⟨?_, ?_, ?_⟩
  · conv => rhs; rw [e1]
    exact abs_le_mul hg
  · conv => rhs; rw [e2]
    exact abs_le_mul hg
  · conv => rhs; rw [e3]
    exact abs_le_mul hg
/-- a point is told by its coordinates -/
theorem pt_ext {p q : P3} (hp : Nm p) (hq : Nm q) (h1 : qx p = qx q) (h2 : qy p = qy q) : p = q := by
  obtain ⟨x, y, w⟩ := p
  obtain ⟨x', y', w'⟩ := q
  obtain ⟨hw, g⟩ := hp
  obtain ⟨hw', g'⟩ := hq
  simp only at hw hw' g g'
  have e1 := (Rat.divInt_eq_divInt_iff (by omega) (by omega)).mp (show Rat.divInt x w = Rat.divInt x' w' from h1)
  have e2 := (Rat.divInt_eq_divInt_iff (by omega) (by omega)).mp (show Rat.divInt y w = Rat.divInt y' w' from h2)
  have k1 : w'.natAbs * x.natAbs = w.natAbs * x'.natAbs := by
    rw [← Int.natAbs_mul, ← Int.natAbs_mul]; congr 1; grind
  have k2 : w'.natAbs * y.natAbs = w.natAbs * y'.natAbs := by
    rw [← Int.natAbs_mul, ← Int.natAbs_mul]; congr 1; grind
  have k3 : w'.natAbs * w.natAbs = w.natAbs * w'.natAbs := Nat.mul_comm _ _
  have k4 : w'.natAbs * Nat.gcd (Nat.gcd x.natAbs y.natAbs) w.natAbs = w.natAbs * Nat.gcd (Nat.gcd x'.natAbs y'.natAbs) w'.natAbs := by
    rw [← Nat.gcd_mul_left, ← Nat.gcd_mul_left, ← Nat.gcd_mul_left, ← Nat.gcd_mul_left, k1, k2, k3]
  rw [g, g', Nat.mul_one, Nat.mul_one] at k4
  have ew : w' = w := by omega
  subst ew
  have a1 : x = x' := Int.eq_of_mul_eq_mul_right (by omega) e1
  have a2 : y = y' := Int.eq_of_mul_eq_mul_right (by omega) e2
  rw [a1, a2]
/-! ### what is compared -/
theorem eqv_pt (p q : P3) : PyData.eqv (pt p) (pt q) = decide (p = q) := by
  obtain ⟨a, b, c⟩ := p
  obtain ⟨a', b', c'⟩ := q
  rw [Bool.eq_iff_iff]
  simp [pt, PyData.eqv, PyData.eqvAll]
theorem shaped_pt (p : P3) : SeqAt.shaped (pt p) = true := rfl
theorem eqv_int (i j : Int) : PyData.eqv (.int i) (.int j) = decide (i = j) := by
  rw [Bool.eq_iff_iff]
  simp [PyData.eqv]
theorem eqv_bool (i j : Bool) : PyData.eqv (.bool i) (.bool j) = (i == j) := by simp [PyData.eqv]
theorem eqv_rt (p q : Rat) : PyData.eqv (rt p) (rt q) = decide (p = q) := by
  rw [Bool.eq_iff_iff]
  simp only [rt, PyData.eqv, PyData.eqvAll, Bool.and_eq_true, beq_iff_eq, decide_eq_true_eq, and_true]
  constructor
  · rintro ⟨h1, h2⟩; exact Rat.ext h1 (by omega)
  · rintro rfl; exact ⟨rfl, rfl⟩
/-! ### sizes of points -/
def BP (n : Nat) (p : P3) : Prop := Bd n p.1 ∧ Bd n p.2.1 ∧ Bd n p.2.2
theorem BP.mono {a b : Nat} {p : P3} (h : BP a p) (l : a ≤ b) : BP b p := ⟨h.1.mono l, h.2.1.mono l, h.2.2.mono l⟩
theorem Bd.of {n : Nat} {x : Int} (b : Int) (h : x.natAbs ≤ b.natAbs) (hb : b.natAbs < 2 ^ n) : Bd n x := Nat.lt_of_le_of_lt h hb
def ord (a b : P3) : Int := if (a.1 * b.2.2 - b.1 * a.2.2).sign ≠ 0 then (a.1 * b.2.2 - b.1 * a.2.2).sign else (a.2.1 * b.2.2 - b.2.1 * a.2.2).sign
theorem sign_bd (x : Int) : Bd 2 x.sign := by
  rcases Int.lt_trichotomy x 0 with h | h | h
  · rw [Int.sign_eq_neg_one_of_neg h]; decide
  · subst h; decide
  · rw [Int.sign_eq_one_of_pos h]; decide
theorem ord_bd (a b : P3) : Bd 2 (ord a b) := by
  unfold ord
  split
  · exact sign_bd _
  · exact sign_bd _
/-! ### areas -/
def det (a b c : P3) : Int := a.1 * (b.2.1 * c.2.2 - b.2.2 * c.2.1) + a.2.1 * (b.2.2 * c.1 - b.1 * c.2.2) + a.2.2 * (b.1 * c.2.1 - b.2.1 * c.1)
/-- twice the area -/
def ar (a b c : P3) : Rat := Rat.divInt (det a b c) (a.2.2 * b.2.2 * c.2.2)
theorem divInt_eq (a b : Int) : Rat.divInt a b = (a : Rat) / (b : Rat) := Rat.divInt_eq_div a b
theorem ar_eq {a b c : P3} (ha : Nm a) (hb : Nm b) (hc : Nm c) : ar a b c = (qx b - qx a) * (qy c - qy a) - (qy b - qy a) * (qx c - qx a) := by
  obtain ⟨x, y, w⟩ := a
  obtain ⟨x', y', w'⟩ := b
  obtain ⟨x2, y2, w2⟩ := c
  have h0 : ((w : Int) : Rat) ≠ 0 := by have := ha.1; simp only at this; intro z; have := Rat.intCast_inj.mp (show ((w : Int) : Rat) = ((0 : Int) : Rat) from z); omega
  have h1 : ((w' : Int) : Rat) ≠ 0 := by have := hb.1; simp only at this; intro z; have := Rat.intCast_inj.mp (show ((w' : Int) : Rat) = ((0 : Int) : Rat) from z); omega
  have h2 : ((w2 : Int) : Rat) ≠ 0 := by have := hc.1; simp only at this; intro z; have := Rat.intCast_inj.mp (show ((w2 : Int) : Rat) = ((0 : Int) : Rat) from z); omega
  simp only [ar, det, qx, qy, divInt_eq, Rat.intCast_mul, Rat.intCast_add, Rat.intCast_sub]
  grind
theorem det_sign {a b c : P3} (ha : Nm a) (hb : Nm b) (hc : Nm c) : det a b c = 0 ↔ ar a b c = 0 := by
  have h : 0 < a.2.2 * b.2.2 * c.2.2 := Int.mul_pos (Int.mul_pos ha.1 hb.1) hc.1
  have z : (0 : Rat) = Rat.divInt 0 1 := rfl
  unfold ar
  rw [z, Rat.divInt_eq_divInt_iff (by omega) (by decide)]
  omega
def crs (u v : P3) : P3 := (u.2.1 * v.2.2 - u.2.2 * v.2.1, u.2.2 * v.1 - u.1 * v.2.2, u.1 * v.2.1 - u.2.1 * v.1)
def btw (a b p : P3) : Bool := decide ((det a b p).sign = 0) && decide (0 ≤ ord a p * ord p b)
end Rf
set_option Elab.async false
set_option linter.all false
set_option maxRecDepth 100000
/-! ### sorted, of a list of triples of ints of any sign -/
namespace Rf
open PySem PySem.Spec PyProof.Rows L2 Evl Srt
abbrev I3 := Int × Int × Int
/-- v is a tuple of these three -/
def Tr3 (h : Heap) (v : Value) (k : I3) : Prop := ∃ ad ob t1 t2 t3 sz, v = .ref ad ∧ h.get? ad = some ob ∧ ob.cls = .type "tuple" ∧ ob.data = .seq #[.int k.1 t1, .int k.2.1 t2, .int k.2.2 t3] sz
theorem Tr3.on {h g : Heap} {v : Value} {k : I3} (p : Tr3 h v k) (f : ∀ b o, h.get? b = some o → o.cls = .type "tuple" → g.get? b = some o) : Tr3 g v k := by
  obtain ⟨ad, ob, t1, t2, t3, sz, q1, q2, q3, q4⟩ := p
  exact ⟨ad, ob, t1, t2, t3, sz, q1, f _ _ q2 q3, q3, q4⟩
def lx3 (p q : I3) : Bool := decide (p.1 < q.1 ∨ (p.1 = q.1 ∧ (p.2.1 < q.2.1 ∨ (p.2.1 = q.2.1 ∧ p.2.2 < q.2.2))))
theorem lx3_swo {α : Type} (k : α → I3) : SrtO.Swo fun v u => lx3 (k v) (k u) := by
  refine ⟨fun x y h => ?_, fun x y z g1 g2 => ?_⟩
  · simp only [lx3, decide_eq_true_eq, decide_eq_false_iff_not] at *
    omega
  · simp only [lx3, decide_eq_true_eq, decide_eq_false_iff_not] at *
    omega
section
variable {prog : Program} {w : World} {A : Around} {s : Shared} {E : Value → Shared → Prop}
theorem cmp3 {vs : List Value} {k : Value → I3} (hp : ∀ v ∈ vs, Tr3 s.heap v (k v)) : SrtO.Cmp prog w A s (tuples' true) (fun p => p.1 ∈ vs) (SrtO.lt2 fun v u => lx3 (k v) (k u)) := by
  intro p q hm hm'
  have g1 := hp _ hm
  have g2 := hp _ hm'
  show wpAny (model prog w) A (keyLt' (tuples' true) p.1 q.1) (fun r s' => s' = s ∧ r = lx3 (k p.1) (k q.1)) (fun _ _ => False) s
  generalize k p.1 = x at g1 ⊢
  generalize k q.1 = y at g2 ⊢
  obtain ⟨x1, x2, x3⟩ := x
  obtain ⟨y1, y2, y3⟩ := y
  obtain ⟨a1, o1, t1, t2, t3, n1, q1, q2, q3, q4⟩ := g1
  obtain ⟨a2, o2, u1, u2, u3, n2, r1, r2, r3, r4⟩ := g2
  rw [q1, r1]
  refine PySem.W.kat_lt q2 q4 r2 r4 ?_
  show PySem.W.KatLex prog w A true (decide (3 < 3)) _ [(.int x1 t1, .int y1 u1), (.int x2 t2, .int y2 u2), (.int x3 t3, .int y3 u3)] 0 s
  refine PySem.W.kat_cons (SeqAt.EqAt.int_int x1 t1 y1 u1 prog w _ _ (PySem.W.kat_go (fun d1 => PySem.W.kat_yes ?_) fun d1 => PySem.W.kat_no (oneLt_int ⟨rfl, ?_⟩)))
  · have c1 : x1 = y1 := by simpa using d1
    refine PySem.W.kat_cons (SeqAt.EqAt.int_int x2 t2 y2 u2 prog w _ _ (PySem.W.kat_go (fun d2 => PySem.W.kat_yes ?_) fun d2 => PySem.W.kat_no (PySem.W.kat_one _ _ (PyProof.Rows.lt_int ?_))))
    · have c2 : x2 = y2 := by simpa using d2
      refine PySem.W.kat_cons (SeqAt.EqAt.int_int x3 t3 y3 u3 prog w _ _ (PySem.W.kat_go (fun d3 => PySem.W.kat_yes (PySem.W.kat_nil ⟨rfl, ?_⟩)) fun d3 => PySem.W.kat_no (PySem.W.kat_one _ _ (PyProof.Rows.lt_int ?_))))
      · have c3 : x3 = y3 := by simpa using d3
        subst c1 c2 c3
        simp [lx3]
      · subst c1 c2
        show s = s ∧ decide (x3 < y3) = lx3 (x1, x2, x3) (x1, x2, y3)
        simp [lx3]
    · have c2 : ¬ x2 = y2 := by simpa using d2
      subst c1
      show s = s ∧ decide (x2 < y2) = lx3 (x1, x2, x3) (x1, y2, y3)
      simp [lx3, c2]
  · have c1 : ¬ x1 = y1 := by simpa using d1
    show decide (x1 < y1) = lx3 (x1, x2, x3) (y1, y2, y3)
    simp [lx3, c1]
theorem heads3 {h : Heap} : ∀ {vs : List Value}, (∀ v ∈ vs, ∃ k, Tr3 h v k) → ∃ gs : List Value, PySem.W.KatTups h vs gs ∧ gs.length = vs.length ∧ ∀ g ∈ gs, ∃ i t, g = Value.int i t
  | [], _ => ⟨[], PySem.W.KatTups.nil, rfl, fun _ z => (List.not_mem_nil z).elim⟩
  | v :: vs, hp => by
    obtain ⟨gs, q1, q2, q3⟩ := heads3 (vs := vs) fun u m => hp u (List.mem_cons_of_mem _ m)
    obtain ⟨⟨i, j, l⟩, ad, ob, t1, t2, t3, sz, rfl, r2, r3, r4⟩ := hp v List.mem_cons_self
    refine ⟨.int i t1 :: gs, PySem.W.KatTups.cons r2 r3 r4 rfl q1, by simp [q2], fun g m => ?_⟩
    cases List.mem_cons.mp m with
    | inl e => exact ⟨i, t1, e⟩
    | inr m2 => exact q3 g m2
theorem able3 {a : Addr} {vs : List Value} {k : Value → I3} (h0 : 0 < vs.length) (hp : ∀ v ∈ vs, Tr3 s.heap v (k v)) (ha : ∀ o, s.heap.get? a = some o → o.cls ≠ .type "tuple") : SrtO.SortableO prog w A s a vs fun v u => lx3 (k v) (k u) := by
  intro g keep
  have hg : ∀ v ∈ vs, Tr3 g v (k v) := fun v m => (hp v m).on fun b o e c => keep b o (fun z => ha o (z ▸ e) c) e
  obtain ⟨gs, q1, q2, q3⟩ := heads3 fun v m => ⟨_, hg v m⟩
  have ne : (Value.type "int" != Value.type "tuple") = true := by decide +kernel
  refine ⟨tuples' true, fun Q E hq => PySem.W.kat_kind (T := .type "int") q1 (by omega) (fun f m => ?_) (by rfl) (by rw [ne]; exact hq), cmp3 hg⟩
  obtain ⟨x, t, rfl⟩ := q3 f m
  exact PySem.W.Looks.now
theorem sorted3 {l : Addr} {vs : List Value} {k : Value → I3} {Q : Value → Shared → Prop} (hl : s.heap.IsList l vs.toArray) (hz : vs.length ≤ sizeLine) (hp : ∀ v ∈ vs, Tr3 s.heap v (k v))
    (h : ∀ (g : Heap) (d : Addr) (out : List Value), SrtO.Srtd (fun v u => lx3 (k v) (k u)) out → SrtO.Stb (fun v u => lx3 (k v) (k u)) out vs → (∀ b o, s.heap.get? b = some o → g.get? b = some o) → s.heap.objs.size ≤ d → (∃ n, g.get? d = some (seqObj "list" out.toArray n)) → Q (.ref d) { s with heap := g }) :
    wpAny (model prog w) A (call (.builtin "sorted") [.ref l]) Q E s := by
  refine SrtO.sorted_ord (lx3_swo k) hl hz (fun z g a ga kk => able3 (s := { s with heap := g }) (by omega) (fun v m => (hp v m).on fun b o e _ => (kk b o e).2) fun o e c => ?_) fun out q1 q2 => h _ _ out q1 q2 (fun b o e => sortedAll_old e) (Nat.le_succ _) (sortedAll_at s.heap vs out.toArray)
  have e2 : some o = some (seqObj "list" vs.toArray 0) := e.symm.trans ga
  cases e2
  exact absurd (Value.type.inj c) (by decide)
end
def T3At (K : PySem.W.Frag) (H : Hp) (x : V) (k : I3) : Prop := ∃ t, x = V.ref t ∧ SqT K H t [.int k.1, .int k.2.1, .int k.2.2]
/-- sorted of a list of triples of ints -/
def rSorted3 (K : PySem.W.Frag) : List V → Hp → VK → Prop := fun vs H Q => ∃ (a : Addr) (xs : List V) (ks : List I3), vs = [V.ref a] ∧ SqL K H a xs ∧ xs.length = ks.length ∧ (∀ (i : Nat) (x : V), xs[i]? = some x → ∃ k, ks[i]? = some k ∧ T3At K H x k) ∧
  ∀ (ys : List V) (ks' : List I3) (p : Addr), ks'.Perm ks → ks'.Pairwise (fun x y => lx3 y x = false) → ys.length = ks'.length → (∀ (i : Nat) (y : V), ys[i]? = some y → ∃ (k : I3) (j : Nat), ks'[i]? = some k ∧ xs[j]? = some y ∧ ks[j]? = some k) → H p = none → Q (.ref p) (upd H p (.lst ys))
theorem Tr3.fn {h : Heap} {v : Value} {k k' : I3} (p : Tr3 h v k) (q : Tr3 h v k') : k = k' := by
  obtain ⟨a1, o1, t1, t2, t3, n1, q1, q2, q3, q4⟩ := p
  obtain ⟨a2, o2, u1, u2, u3, n2, r1, r2, r3, r4⟩ := q
  rw [q1] at r1
  cases r1
  rw [q2] at r2
  cases r2
  rw [q4] at r4
  obtain ⟨x1, x2, x3⟩ := k
  obtain ⟨y1, y2, y3⟩ := k'
  injection r4 with e1 e2
  injection e1 with e3
  injection e3 with d1 e4
  injection e4 with d2 e5
  injection e5 with d3 e6
  injection d1 with d1
  injection d2 with d2
  injection d3 with d3
  simp only at d1 d2 d3
  rw [d1, d2, d3]
open Classical in
noncomputable def k3 (h : Heap) (v : Value) : I3 := if q : ∃ k, Tr3 h v k then q.choose else (0, 0, 0)
theorem k3_eq {h : Heap} {v : Value} {k : I3} (p : Tr3 h v k) : k3 h v = k := by
  have e : ∃ k, Tr3 h v k := ⟨k, p⟩
  unfold k3
  rw [dif_pos e]
  exact Tr3.fn e.choose_spec p
theorem k3_at {h : Heap} {v : Value} {k : I3} (p : Tr3 h v k) : Tr3 h v (k3 h v) := by rw [k3_eq p]; exact p
theorem cr_sorted3 {X : Cx} : CallR X (.builtin "sorted") (rSorted3 X.K) := by
  intro pins s σ H vs us Q I r h
  obtain ⟨a, xs, ks, rfl, hs, hlen, hx, q⟩ := h
  obtain ⟨its, rv, hl, hz⟩ := I.list hs
  obtain ⟨u, rfl, ru⟩ := vals1 r
  obtain rfl : u = Value.ref a := ru
  obtain ⟨f1, f2⟩ := refs_back rv fun x m => by
    obtain ⟨i, hi⟩ := List.mem_iff_getElem?.mp m
    obtain ⟨k, _, t, e, _⟩ := hx i x hi
    exact ⟨t, e⟩
  have at_ : ∀ i v, its[i]? = some v → ∃ k, ks[i]? = some k ∧ Tr3 s.heap v k := fun i v hv => by
    obtain ⟨t, rfl⟩ := f2 v (List.mem_of_getElem? hv)
    have hm : xs[i]? = some (V.ref t) := by
      rw [f1, List.getElem?_map, hv]
      rfl
    obtain ⟨k, hk, t', e, ht⟩ := hx i _ hm
    cases e
    obtain ⟨its2, r2, ⟨o, ho, hc, n, hd⟩, _⟩ := I.tuple ht
    refine ⟨k, hk, ?_⟩
    cases r2 with
    | cons c1 r2 => cases r2 with
      | cons c2 r2 => cases r2 with
        | cons c3 r2 =>
          cases r2
          obtain ⟨t1, rfl⟩ := c1
          obtain ⟨t2, rfl⟩ := c2
          obtain ⟨t3, rfl⟩ := c3
          exact ⟨t, o, t1, t2, t3, n, rfl, ho, hc, hd⟩
  have hk3 : its.map (k3 s.heap) = ks := by
    apply List.ext_getElem?
    intro i
    rw [List.getElem?_map]
    cases e : its[i]? with
    | some v =>
      obtain ⟨k, hk, hp⟩ := at_ i v e
      rw [hk]
      exact congrArg some (k3_eq hp)
    | none =>
      have : its.length ≤ i := List.getElem?_eq_none_iff.mp e
      exact (List.getElem?_eq_none (by rw [← hlen, f1, List.length_map]; exact this)).symm
  refine sorted3 (k := k3 s.heap) hl.isList (by rw [← rv.length]; exact hz) (fun v hv => ?_) fun g d out h1 h2 kp hd hn => ?_
  · obtain ⟨i, hi⟩ := List.mem_iff_getElem?.mp hv
    obtain ⟨k, _, hp⟩ := at_ i v hi
    exact k3_at hp
  · have g3 : ∀ u ∈ out, ∃ a, u = Value.ref a := fun u hu => f2 u (h2.perm.mem_iff.mp hu)
    obtain ⟨n, hn⟩ := hn
    refine ⟨.ref d, upd H d (.lst (out.map backV)), I.laid (t' := s.toks) kp hd ⟨by rw [List.length_map, h2.perm.length_eq, ← rv.length]; exact hz, out, n, vals_back g3, hn⟩, rfl, q _ (out.map (k3 s.heap)) d ?_ ?_ (by rw [List.length_map, List.length_map]) (fun i y hy => ?_) (I.hok.fresh hd)⟩
    · rw [← hk3]
      exact h2.perm.map _
    · exact List.pairwise_map.mpr h1
    · rw [List.getElem?_map] at hy
      cases e : out[i]? with
      | none => rw [e] at hy; cases hy
      | some u =>
        rw [e] at hy
        cases hy
        obtain ⟨j, hj⟩ := List.mem_iff_getElem?.mp (h2.perm.mem_iff.mp (List.mem_of_getElem? e))
        exact ⟨k3 s.heap u, j, by rw [List.getElem?_map, e]; rfl, by rw [f1, List.getElem?_map, hj]; rfl, by rw [← hk3, List.getElem?_map, hj]; rfl⟩
section
variable {prog : Program} {w : World} {A : Around} {E : Value → Shared → Prop} {s : Shared} {a b : Int} {t u : Tok} {Q : Value → Shared → Prop}
theorem lcm_le_mul (m n : Nat) : m.lcm n ≤ m * n := by
  unfold Nat.lcm
  exact Nat.div_le_self _ _
theorem lcm_big (ha : a.natAbs < 2 ^ 4000) (hb : b.natAbs < 2 ^ 4000) (h : Q (.int ((a.natAbs.lcm b.natAbs : Nat) : Int) s.toks) { s with toks := s.toks + 1 }) :
    wpAny (model prog w) A (call (.builtin "math.lcm") [.int a t, .int b u]) Q E s := by
  have h1 : (max 1 a.natAbs).log2 ≤ 3999 := PySem.W.mg_log (Nat.max_lt.mpr ⟨by decide, ha⟩)
  have h2 : (max a.natAbs b.natAbs).log2 ≤ 3999 := PySem.W.mg_log (Nat.max_lt.mpr ⟨ha, hb⟩)
  have e : Nat.lcm 1 a.natAbs = a.natAbs := by simp [Nat.lcm]
  have h3 : (((a.natAbs.lcm b.natAbs : Nat) : Int)).natAbs.log2 < bitsLine := by
    rw [Int.natAbs_natCast]
    have : a.natAbs.lcm b.natAbs < 2 ^ (7999 + 1) := Nat.lt_of_le_of_lt (lcm_le_mul _ _) (by
      rw [show (2 : Nat) ^ (7999 + 1) = 2 ^ 4000 * 2 ^ 4000 from (Nat.pow_add 2 4000 4000)]
      exact Nat.mul_lt_mul'' ha hb)
    have := PySem.W.mg_log this
    exact Nat.lt_of_le_of_lt this (by decide)
  refine call_function_meets PySem.W.MGF.kind_lcm PySem.W.MGF.plain_lcm PySem.W.MGF.entry_lcm (PySem.W.MGF.args_lcm _ _) (PySem.W.mg_run_lcm a t b u (by omega) (by omega) (by rw [e]; exact h3)).meets ?_
  rw [e]
  exact h
end
/-- math.lcm of two ints -/
def rLcm : List V → Hp → VK → Prop := fun vs H Q => ∃ i j : Int, vs = [.int i, .int j] ∧ i.natAbs < 2 ^ 4000 ∧ j.natAbs < 2 ^ 4000 ∧ Q (.int ((Nat.lcm i.natAbs j.natAbs : Nat) : Int)) H
theorem cr_lcm {X : Cx} : CallR X (.builtin "math.lcm") rLcm := by
  intro pins s σ H vs us Q I r h
  obtain ⟨i, j, rfl, b1, b2, q⟩ := h
  obtain ⟨t, u, rfl⟩ := Vals.int2 r
  exact lcm_big b1 b2 ⟨.int _, H, I.tok _, ⟨_, rfl⟩, q⟩
section
variable {K : PySem.W.Frag} {Φ : D → Prop}
theorem cd_lcmB {i j : Int} (b1 : i.natAbs < 2 ^ 4000) (b2 : j.natAbs < 2 ^ 4000) (q : Φ (.int ((Nat.lcm i.natAbs j.natAbs : Nat) : Int))) : CD K rLcm [.int i, .int j] Φ := fun S H vs e a Q k => by
  cases a with
  | cons h t =>
    cases h
    cases t with
    | cons h t =>
      cases t; cases h
      exact ⟨i, j, rfl, b1, b2, k _ _ S H (Step.refl e) (.int _) q⟩
theorem cd_lcm {i j : Int} (b1 : i.natAbs < 2 ^ 64) (b2 : j.natAbs < 2 ^ 64) (q : Φ (.int ((Nat.lcm i.natAbs j.natAbs : Nat) : Int))) : CD K rLcm [.int i, .int j] Φ :=
  cd_lcmB (Nat.lt_of_lt_of_le b1 (Nat.pow_le_pow_right (by decide) (by decide))) (Nat.lt_of_lt_of_le b2 (Nat.pow_le_pow_right (by decide) (by decide))) q
theorem dpa_mk {S : Hp} : ∀ {vs : List V} {ds : List D}, vs.length = ds.length → (∀ (i : Nat) (v : V), vs[i]? = some v → ∃ d, ds[i]? = some d ∧ Dp K S v d) → DpAll K S vs ds
  | [], [], _, _ => .nil
  | v :: vs, d :: ds, hl, h => by
    obtain ⟨d', e, p⟩ := h 0 v rfl
    cases e
    exact .cons p (dpa_mk (by simpa using hl) fun i w hw => by
      obtain ⟨d2, e2, p2⟩ := h (i + 1) w (by simpa using hw)
      exact ⟨d2, by simpa using e2, p2⟩)
theorem dp_pt {S : Hp} {v : V} {k : I3} (h : Dp K S v (pt k)) : T3At K S v k := by
  obtain ⟨k1, k2, k3⟩ := k
  cases h with
  | @tup a xs _ hs ha =>
    cases ha with
    | cons c1 ha => cases ha with
      | cons c2 ha => cases ha with
        | cons c3 ha =>
          cases ha
          cases c1; cases c2; cases c3
          exact ⟨a, rfl, SqT.of hs⟩
/-- sorted of triples, over data -/
theorem cd_sorted3 {ts : List I3} (q : ∀ us : List I3, us.Perm ts → us.Pairwise (fun x y => lx3 y x = false) → Φ (.list (us.map pt))) : CD K (rSorted3 K) [.list (ts.map pt)] Φ := fun S H vs e a Q k => by
  cases a with
  | cons h t =>
    cases t
    cases h with
    | @lst a xs _ hs ha =>
      have hl := dpa_len ha
      rw [List.length_map] at hl
      refine ⟨a, xs, ts, rfl, ex_l e hs, hl, fun i x hi => ?_, fun ys us p hp hw hy hat hn => ?_⟩
      · obtain ⟨d, hd, dd⟩ := dpa_getV ha hi
        rw [List.getElem?_map] at hd
        cases e1 : ts[i]? with
        | none => rw [e1] at hd; cases hd
        | some k =>
          rw [e1] at hd
          cases hd
          obtain ⟨t, r1, r2⟩ := dp_pt dd
          exact ⟨k, rfl, t, r1, ex_t e r2⟩
      · have dy : DpAll K S ys (us.map pt) := dpa_mk (by rw [List.length_map]; exact hy) fun i y hiy => by
          obtain ⟨k, j, h1, h2, h3⟩ := hat i y hiy
          refine ⟨pt k, by rw [List.getElem?_map, h1]; rfl, ?_⟩
          obtain ⟨d, hd, dd⟩ := dpa_getV ha h2
          rw [List.getElem?_map, h3] at hd
          cases hd
          exact dd
        exact k _ _ _ _ (Step.new e hn) (dp_lst (ex_none e hn) dy) (q us hp hw)
end
theorem cr_sorted3K {X : Cx} {K : PySem.W.Frag} (h : X.K = K) : CallR X (.builtin "sorted") (rSorted3 K) := by subst h; exact cr_sorted3
theorem pi_enumK {X : Cx} {K : PySem.W.Frag} {e : Expr} {ta : TA} {p pos tpos : Pos} {elts : List Expr} {kk : Nat} (h : X.K = K) (hg : Gl X "enumerate") (hm : X.mg "enumerate" = none) (ha : PA X [e] ta) (hs : starEach [e] X.env = [(false, eval e X.env)] := by rfl) :
    PI X (.Tuple elts kk tpos) (.Call (.Name "enumerate" p) [e] [] pos) (iEnum K ta) := by subst h; exact pi_enum hg hm ha hs
end Rf
set_option Elab.async false
set_option linter.all false
set_option maxRecDepth 100000
namespace Rf
open PySem PySem.Spec PyProof.Rows L2 Evl
theorem cr_maxK {X : Cx} {K : PySem.W.Frag} (h : X.K = K) (hc : X.calm = true) : CallR X (.builtin "max") (rMax K) := by subst h; exact cr_max hc
theorem cr_minK {X : Cx} {K : PySem.W.Frag} (h : X.K = K) (hc : X.calm = true) : CallR X (.builtin "min") (rMin K) := by subst h; exact cr_min hc
theorem cr_sumK {X : Cx} {K : PySem.W.Frag} (h : X.K = K) (hc : X.calm = true) : CallR X (.builtin "sum") (rSum K) := by subst h; exact cr_sum hc
theorem dpa_ints {K : PySem.W.Frag} {S : Hp} : ∀ {vs : List V} {ns : List Int}, DpAll K S vs (ns.map PyData.int) → vs = ns.map V.int
  | _, [], .nil => rfl
  | _, n :: ns, .cons h t => by
    cases h
    rw [dpa_ints t]
    rfl
section
variable {K : PySem.W.Frag} {Φ : D → Prop}
theorem ints_sq {S H : Hp} {v : V} {ns : List Int} (e : Ex S H) (h : Dp K S v (.list (ns.map PyData.int))) : ∃ a, v = .ref a ∧ SqL K H a (ns.map V.int) := by
  cases h with
  | lst hs ha => exact ⟨_, rfl, by rw [← dpa_ints ha]; exact ex_l e hs⟩
theorem cd_max {ns : List Int} (h0 : 0 < ns.length) (q : ∀ m, m ∈ ns → (∀ y, y ∈ ns → y ≤ m) → Φ (.int m)) : CD K (rMax K) [.list (ns.map PyData.int)] Φ := fun S H vs e a Q k => by
  cases a with
  | cons h t =>
    cases t
    obtain ⟨p, rfl, hs⟩ := ints_sq e h
    exact ⟨p, ns, rfl, hs, h0, fun m h1 h2 => k _ _ S H (Step.refl e) (.int _) (q m h1 h2)⟩
theorem cd_min {ns : List Int} (h0 : 0 < ns.length) (q : ∀ m, m ∈ ns → (∀ y, y ∈ ns → m ≤ y) → Φ (.int m)) : CD K (rMin K) [.list (ns.map PyData.int)] Φ := fun S H vs e a Q k => by
  cases a with
  | cons h t =>
    cases t
    obtain ⟨p, rfl, hs⟩ := ints_sq e h
    exact ⟨p, ns, rfl, hs, h0, fun m h1 h2 => k _ _ S H (Step.refl e) (.int _) (q m h1 h2)⟩
theorem cd_sum {ns : List Int} (q : Φ (.int ns.sum)) : CD K (rSum K) [.list (ns.map PyData.int)] Φ := fun S H vs e a Q k => by
  cases a with
  | cons h t =>
    cases t
    obtain ⟨p, rfl, hs⟩ := ints_sq e h
    exact ⟨p, ns, rfl, hs, k _ _ S H (Step.refl e) (.int _) q⟩
end
section
variable {K : PySem.W.Frag} {C : Fm} {env : En}
/-- [e for x in xs if t] over a tuple -/
theorem we_lcT {j : Nat} {tl : TE} {tt : TT} {te : TE} {Φ : D → Prop} (h : WE K C tl env fun d0 => ∃ es, d0 = .tuple es ∧ es.length ≤ 50000 ∧ ∃ I : Nat → List D → Prop, I 0 [] ∧
    (∀ (i : Nat) (d : D) acc, es[i]? = some d → I i acc → WT K C tt ((env.set j none).set j (some (.dat d))) fun b => (b = true → WE K C te ((env.set j none).set j (some (.dat d))) fun y => I (i + 1) (acc ++ [y])) ∧ (b = false → I (i + 1) acc)) ∧
    (∀ i acc, I i acc → acc.length ≤ i) ∧ ∀ acc, I es.length acc → Φ (.list acc)) : WE K C (tLc (iTup K tl) (gName j) tt te [j]) env Φ := fun S σ H p Q k =>
  h S σ H p _ fun d0 v0 S1 H1 s1 d1 ⟨es, e, n1, I, i0, hs, hl, hd⟩ => by
    subst e
    cases d1 with
    | @tup a0 ys _ hx ha =>
      have hlen := dpa_len ha
      refine ⟨a0, rfl, ⟨ys, ex_tp (K := K) s1.k hx⟩, fun L hL => ?_⟩
      refine lc_tup (K := K) (a := a0) (xs := ys) (fun i H' => ∃ S' acc xs, Stp K C S1 H1 S' H' ∧ S' L = none ∧ H' L = some (.lst xs) ∧ DpAll K S' xs acc ∧ I i acc) ⟨S1, [], [], ⟨Ex.refl S1, s1.k.trans (Ex.new hL), fun a o _ q => Ex.new hL a o q, fun _ _ _ _ n => n, fun r e => ?_⟩, ex_none s1.k hL, upd_same, .nil, i0⟩ (fun i H' _ ⟨S', acc, xs, st, _⟩ => ex_tp (K := K) (st.s.trans st.k) hx) ?_ ?_
      · have rw0 := (p.step s1).base.row r e
        exact rw0.step ⟨Ex.refl S1, s1.k.trans (Ex.new hL), Ex.new hL, fun _ _ _ _ n => n⟩
      · rintro i x H' hi ⟨S', acc, xs, st, n', h', a', ia⟩
        obtain ⟨d, hd', dd⟩ := dpa_getV ha hi
        have hi2 : i < ys.length := (List.getElem?_eq_some_iff.mp hi).1
        refine ⟨wipe1 σ j _, ?_⟩
        have p1 : Rep K C S' ((env.set j none).set j (some (.dat d))) ((wipe σ [j]).set j (some x)) H' := (((p.step s1).step st).unset j).set j (dp_mono st.s d x dd)
        refine hs i d acc hd' ia S' _ H' p1 _ fun b S2 H2 s2 ⟨q1, q2⟩ => ?_
        have hRL : ∀ r, C.R = some r → r ≠ L := fun r e => by
          obtain ⟨_, A, ns, x1, x2, x3, q, _⟩ := (p.step s1).base.row r e
          exact ne_of_none q hL
        have nRL : C.R ≠ some L := fun e => hRL L e rfl
        cases b with
        | true =>
          refine q1 rfl S2 _ H2 (p1.step s2) _ fun y v S3 H3 s3 d3 i3 => ?_
          have s23 := s2.trans s3
          have hL3 : H3 L = some (.lst xs) := s23.h L _ nRL h'
          have n3 : S3 L = none := s23.hid L _ h' (fun _ z => nomatch z) n'
          have lx : xs.length = acc.length := dpa_len a'
          have := hl i acc ia
          refine ⟨xs, hL3, line_lt (by omega), S3, acc ++ [y], xs ++ [v], ?_, n3, upd_same, dpa_app (dpAll_mono s23.s acc xs a') (.cons d3 .nil), i3⟩
          have ss := st.trans s23
          refine ⟨ss.s, ?_, ?_, ss.hid, fun r e => ?_⟩
          · intro a o q
            rw [upd_ne (fun z => by rw [z] at q; rw [n3] at q; cases q)]
            exact ss.k a o q
          · intro a o nr q
            rw [upd_ne (ne_of_none q hL)]
            exact ss.h a o nr q
          · obtain ⟨z1, A, ns, x1, x2, x3, z2, z3⟩ := ss.row r e
            exact ⟨z1, A, ns, x1, x2, x3, by rw [upd_ne (hRL r e)]; exact z2, z3⟩
        | false =>
          have hL3 : H2 L = some (.lst xs) := s2.h L _ nRL h'
          exact ⟨S2, acc, xs, st.trans s2, s2.hid L _ h' (fun _ z => nomatch z) n', hL3, dpAll_mono s2.s acc xs a', q2 rfl⟩
      · rintro H' ⟨S', acc, xs, st, n', h', a', ia⟩
        have ss := s1.trans st
        refine k (.list acc) (.ref L) (upd S' L (.lst xs)) H' ⟨ss.s.trans (Ex.new n'), ?_, ss.h, ?_, fun r e => ?_⟩ (dp_lst n' a') (hd acc (by rw [← hlen]; exact ia))
        · intro a o q
          by_cases z : a = L
          · subst z; rw [upd_same] at q; rw [h']; exact q
          · rw [upd_ne z] at q; exact st.k a o q
        · intro b o q tq nq
          have hb : b ≠ L := by
            by_cases hr : C.R = some b
            · obtain ⟨_, A, ns, x1, x2, x3, q', _⟩ := (p.step s1).base.row b hr
              exact ne_of_none q' hL
            · exact ne_of_none (s1.h b o hr q) hL
          rw [upd_ne hb]
          exact ss.hid b o q tq nq
        · obtain ⟨_, A, ns, x1, x2, x3, q', _⟩ := (p.step s1).base.row r e
          have hb : r ≠ L := ne_of_none q' hL
          obtain ⟨z1, A, ns, x1, x2, x3, z2, z3, z4⟩ := ss.row r e
          exact ⟨by rw [upd_ne hb]; exact z1, A, ns, x1, x2, x3, z2, ex_l (Ex.new n') z3, z4⟩
end
end Rf
set_option Elab.async false
set_option linter.all false
set_option maxRecDepth 100000
namespace Rf
open PySem PySem.Spec PyProof.Rows L2 Evl
/-! ### what is gone over, whatever it is: a list of data, told turn by turn -/
def YD (K : PySem.W.Frag) (S : Hp) (ds : List D) : Nat → Hp → V → Hp → Prop := fun i H x H' => ∀ S2, Ex S S2 → Ex S2 H → ∃ S3 d, ds[i]? = some d ∧ Step S2 H S3 H' ∧ Dp K S3 x d
def WI (K : PySem.W.Frag) (C : Fm) (ti : TI) (env : En) (Φ : List D → Prop) : Prop := ∀ S σ H, Rep K C S env σ H → ∀ R : It → Hp → Prop,
  (∀ ds J S' H', Stp K C S H S' H' → Walk J ds.length (fun H => Ex S' H) (YD K S' ds) → Φ ds → R J H') → ti σ H R
section
variable {K : PySem.W.Frag} {C : Fm} {env : En} {tl : TE} {ta : TA} {Φ : List D → Prop}
theorem yd_at {S : Hp} {xs : List V} {ds : List D} (ha : DpAll K S xs ds) {i : Nat} {H H' : Hp} {x : V} (hi : i < xs.length) (y : YAt xs i H x H') : YD K S ds i H x H' := fun S2 e1 e2 => by
  obtain ⟨rfl, hx⟩ := y
  obtain ⟨d, hd, dd⟩ := dpa_getV ha hx
  exact ⟨S2, d, hd, Step.refl e2, dp_mono e1 d x dd⟩
theorem wi_list (h : WE K C tl env fun d => ∃ ds, d = .list ds ∧ Φ ds) : WI K C (iList K tl) env Φ := fun S σ H p R k =>
  h S σ H p _ fun d v S1 H1 s1 d1 ⟨ds, e, q⟩ => by
    subst e
    cases d1 with
    | @lst a xs _ hx ha =>
      have hl := dpa_len ha
      refine ⟨a, rfl, ⟨xs, ex_l s1.k hx⟩, k ds _ S1 H1 s1 ?_ q⟩
      rw [← hl]
      exact (walk_list (K := K) (a := a) (xs := xs)).mono (fun H' e => ex_l e hx) fun i H2 x H3 hi e y => yd_at ha hi y
theorem wi_tup (h : WE K C tl env fun d => ∃ ds, d = .tuple ds ∧ Φ ds) : WI K C (iTup K tl) env Φ := fun S σ H p R k =>
  h S σ H p _ fun d v S1 H1 s1 d1 ⟨ds, e, q⟩ => by
    subst e
    cases d1 with
    | @tup a xs _ hx ha =>
      have hl := dpa_len ha
      refine ⟨a, rfl, ⟨xs, ex_tp (K := K) s1.k hx⟩, k ds _ S1 H1 s1 ?_ q⟩
      rw [← hl]
      exact (walk_tup (K := K) (a := a) (xs := xs)).mono (fun H' e => ex_tp (K := K) e hx) fun i H2 x H3 hi e y => yd_at ha hi y
/-- the numbers lo, lo + 1, .. -/
def rngD (lo : Int) (n : Nat) : List D := (List.range n).map fun i : Nat => PyData.int (lo + (i : Int))
theorem rngD_len {lo : Int} {n : Nat} : (rngD lo n).length = n := by simp [rngD]
theorem rngD_at {lo : Int} {n i : Nat} (h : i < n) : (rngD lo n)[i]? = some (.int (lo + (i : Int))) := by simp [rngD, h]
theorem wi_rng1 (h : WA K C ta env fun ds => ∃ n : Int, ds = [.int n] ∧ 0 ≤ n ∧ n ≤ 1000000 ∧ Φ (rngD 0 n.toNat)) : WI K C (iRng1 ta) env Φ := fun S σ H p R k =>
  h S σ H p _ fun es vs S1 H1 s1 d1 ⟨n, e, n0, n1, q⟩ => by
    subst e
    cases d1 with
    | cons d1 t1 =>
      cases t1; cases d1
      refine ⟨n, rfl, by omega, by omega, k (rngD 0 n.toNat) _ S1 H1 s1 ?_ q⟩
      rw [rngD_len]
      exact (walk_range (lo := 0) (n := n.toNat)).mono (fun _ _ => trivial) fun i H2 x H3 hi e y S2 e1 e2 => by
        obtain ⟨rfl, rfl⟩ := y
        exact ⟨S2, _, rngD_at hi, Step.refl e2, .int _⟩
/-- enumerate -/
def enD (ds : List D) : List D := ds.zipIdx.map fun p => .tuple [.int (p.2 : Int), p.1]
theorem enD_len {ds : List D} : (enD ds).length = ds.length := by simp [enD]
theorem enD_at {ds : List D} {i : Nat} {d : D} (h : ds[i]? = some d) : (enD ds)[i]? = some (.tuple [.int (i : Int), d]) := by simp [enD, h]
theorem walk_enum {a : Addr} {xs : List V} : Walk (Ite K a) xs.length (fun H => SqL K H a xs) (fun i H v H' => ∃ T x, v = .ref T ∧ H T = none ∧ H' = upd H T (.tup [.int (i : Nat), x]) ∧ xs[i]? = some x) :=
  ⟨fun i _ hi q => ⟨xs, xs[i], q, by simp [hi]⟩, fun _ q => ⟨xs, q, Nat.le_refl _⟩, fun i H x H' hi q ⟨T, y, h1, h2, h3, h4⟩ => ⟨T, y, h1, h2, h3, h4 xs q⟩⟩
theorem wi_enum (h : WA K C ta env fun es => ∃ ds, es = [.list ds] ∧ Φ (enD ds)) : WI K C (iEnum K ta) env Φ := fun S σ H p R k =>
  h S σ H p _ fun es vs S1 H1 s1 d1 ⟨ds, e, q⟩ => by
    subst e
    cases d1 with
    | cons d1 t1 =>
      cases t1
      cases d1 with
      | @lst a xs _ hx ha =>
        have hl := dpa_len ha
        refine ⟨a, xs, rfl, ex_l s1.k hx, k (enD ds) _ S1 H1 s1 ?_ q⟩
        rw [enD_len, ← hl]
        exact (walk_enum (K := K) (a := a) (xs := xs)).mono (fun H' e => ex_l e hx) fun i H2 x H3 hi e y S2 e1 e2 => by
          obtain ⟨T, u, rfl, hT, rfl, hu⟩ := y
          obtain ⟨d, hd, dd⟩ := dpa_getV ha hu
          exact ⟨_, _, enD_at hd, Step.new e2 hT, dp_tup (ex_none e2 hT) (.cons (.int _) (.cons (dp_mono e1 d u dd) .nil))⟩
end
/-! ### targets write their own slots alone -/
def OnlyG (vs : List Nat) (g : TG) : Prop := ∀ v σ H (Q Q' : L2.St → Hp → Prop), g v σ H Q → (∀ σ' H', wipe σ' vs = wipe σ vs → Q σ' H' → Q' σ' H') → g v σ H Q'
def OnlyGs (vs : List Nat) (g : TGs) : Prop := ∀ xs σ H (Q Q' : L2.St → Hp → Prop), g xs σ H Q → (∀ σ' H', wipe σ' vs = wipe σ vs → Q σ' H' → Q' σ' H') → g xs σ H Q'
theorem wipe_set_in {σ : L2.St} {x : Option V} {i : Nat} : ∀ {vs : List Nat}, i ∈ vs → wipe (σ.set i x) vs = wipe σ vs
  | v :: vs, h => by
    show (wipe (σ.set i x) vs).set v none = (wipe σ vs).set v none
    by_cases q : i ∈ vs
    · rw [wipe_set_in q]
    · have e : i = v := by
        rcases List.mem_cons.mp h with h | h
        · exact h
        · exact absurd h q
      subst e
      have key : ∀ us : List Nat, i ∉ us → wipe (σ.set i x) us = (wipe σ us).set i x := fun us => by
        induction us with
        | nil => intro _; rfl
        | cons u us ih =>
          intro hn
          have n1 : u ≠ i := fun z => hn (by rw [z]; exact List.mem_cons_self)
          show (wipe (σ.set i x) us).set u none = ((wipe σ us).set u none).set i x
          rw [ih (fun z => hn (List.mem_cons_of_mem _ z)), List.set_comm _ _ n1.symm]
      rw [key vs q, List.set_set]
theorem og_name {vs : List Nat} {i : Nat} (h : i ∈ vs) : OnlyG vs (gName i) := fun v σ H Q Q' q k => k _ _ (wipe_set_in h) q
theorem og_nil {vs : List Nat} : OnlyGs vs gNil := fun xs σ H Q Q' ⟨e, q⟩ k => ⟨e, k _ _ rfl q⟩
theorem og_cons {vs : List Nat} {g : TG} {gs : TGs} (h1 : OnlyG vs g) (h2 : OnlyGs vs gs) : OnlyGs vs (gCons g gs) := fun xs σ H Q Q' ⟨v, r, e, q⟩ k =>
  ⟨v, r, e, h1 v σ H _ _ q fun σ' H' e1 q1 => h2 r σ' H' _ _ q1 fun σ2 H2 e2 q2 => k σ2 H2 (e2.trans e1) q2⟩
theorem og_tup {K : PySem.W.Frag} {vs : List Nat} {n : Nat} {gs : TGs} (h : OnlyGs vs gs) : OnlyG vs (gTup K n gs) := fun v σ H Q Q' ⟨a, xs, e, hs, hl, q⟩ k =>
  ⟨a, xs, e, hs, hl, h xs σ H _ _ q k⟩
/-- the slots are forgotten -/
def wipeE (env : En) : List Nat → En
  | [] => env
  | v :: vs => (wipeE env vs).set v none
section
variable {K : PySem.W.Frag} {C : Fm} {S H : Hp} {env : En} {σ : L2.St}
theorem Rep.wipe (r : Rep K C S env σ H) : ∀ vs : List Nat, Rep K C S (wipeE env vs) (L2.wipe σ vs) H
  | [] => r
  | v :: vs => (r.wipe vs).unset v
theorem wipe_wipe (σ : L2.St) : ∀ vs : List Nat, L2.wipe (L2.wipe σ vs) vs = L2.wipe σ vs := fun vs => by
  have key : ∀ (us : List Nat) (ρ : L2.St), (∀ u ∈ us, ρ[u]? = some none ∨ ρ[u]? = none) → L2.wipe ρ us = ρ := fun us => by
    induction us with
    | nil => intro ρ _; rfl
    | cons u us ih =>
      intro ρ h
      show (L2.wipe ρ us).set u none = ρ
      rw [ih ρ fun v hv => h v (List.mem_cons_of_mem _ hv)]
      apply List.ext_getElem?
      intro j
      by_cases hj : u = j
      · subst hj
        by_cases hl : u < ρ.length
        · rw [List.getElem?_set_self hl]
          rcases h u List.mem_cons_self with e | e
          · exact e.symm
          · rw [List.getElem?_eq_none_iff] at e; omega
        · rw [List.getElem?_eq_none (by rw [List.length_set]; omega), List.getElem?_eq_none (by omega)]
      · rw [List.getElem?_set_ne hj]
  refine key vs _ ?_
  intro u hu
  have : ∀ (ws : List Nat), u ∈ ws → (L2.wipe σ ws)[u]? = some none ∨ (L2.wipe σ ws)[u]? = none := fun ws => by
    induction ws with
    | nil => intro h; cases h
    | cons w ws ih =>
      intro h
      show ((L2.wipe σ ws).set w none)[u]? = some none ∨ ((L2.wipe σ ws).set w none)[u]? = none
      by_cases q : w = u
      · subst q
        by_cases hl : w < (L2.wipe σ ws).length
        · exact .inl (List.getElem?_set_self hl)
        · exact .inr (List.getElem?_eq_none (by rw [List.length_set]; omega))
      · rw [List.getElem?_set_ne q]
        rcases List.mem_cons.mp h with h | h
        · exact absurd h.symm q
        · exact ih h
  exact this vs hu
end
/-! ### for, comprehension -/
section
variable {K : PySem.W.Frag} {C : Fm} {env : En} {ti : TI} {g : TG} {t : TS} {P : Po}
theorem ws_for (h : WI K C ti env fun ds => ∃ I : Nat → En → Prop, I 0 env ∧
    (∀ i d e, ds[i]? = some d → I i e → WG K C g d e fun e' => WS K C t e' { nx := I (i + 1), ct := I (i + 1), rt := P.rt, bk := P.nx }) ∧ ∀ e, I ds.length e → P.nx e) : WS K C (tFor ti g t) env P := fun S σ H p X k1 k2 k3 k4 =>
  h S σ H p _ fun ds J S1 H1 s1 w ⟨I, i0, hs, hd⟩ => by
    refine for_it w (fun i σ' H' => ∃ S' e, Rep K C S' e σ' H' ∧ Ex S1 S' ∧ I i e) ⟨S1, env, p.step s1, Ex.refl S1, i0⟩ (fun i σ' H' _ ⟨S', e, p', x', _⟩ => x'.trans p'.base.ex) ?_ ?_
    · rintro i x σ' H' H2 hi ⟨S', e, p', x', ie⟩ y
      obtain ⟨S3, d, hd', st, dd⟩ := y S' x' p'.base.ex
      have p2 := p'.step (st.stp p'.base)
      refine hs i d e hd' ie S3 σ' H2 x p2 dd _ fun e2 σ2 p3 q2 => ?_
      have x3 := x'.trans st.s
      exact q2 S3 σ2 H2 p3 _ (fun e3 S4 σ3 H3 p4 x4 q3 => ⟨S4, e3, p4, x3.trans x4, q3⟩) k2 (fun e3 S4 σ3 H3 p4 x4 q3 => k1 e3 S4 σ3 H3 p4 ((s1.s.trans x3).trans x4) q3) (fun e3 S4 σ3 H3 p4 x4 q3 => ⟨S4, e3, p4, x3.trans x4, q3⟩)
    · rintro σ' H' ⟨S', e, p', x', ie⟩
      exact k1 e S' σ' H' p' (s1.s.trans x') (hd e ie)
variable {tt : TT} {te : TE} {vs : List Nat} {Φ : D → Prop}
/-- [e for x in xs if t] over anything, with any target -/
theorem we_lc (ho : OnlyG vs g) (h : WI K C ti env fun ds => ds.length ≤ 90000 ∧ ∃ I : Nat → List D → Prop, I 0 [] ∧
    (∀ (i : Nat) (d : D) acc, ds[i]? = some d → I i acc → WG K C g d (wipeE env vs) fun e => WT K C tt e fun b => (b = true → WE K C te e fun y => I (i + 1) (acc ++ [y])) ∧ (b = false → I (i + 1) acc)) ∧
    (∀ i acc, I i acc → acc.length ≤ i) ∧ ∀ acc, I ds.length acc → Φ (.list acc)) : WE K C (tLc ti g tt te vs) env Φ := fun S σ H p Q k =>
  h S σ H p _ fun ds J S1 H1 s1 w ⟨n1, I, i0, hs, hl, hd⟩ => by
    intro L hL
    have hRL : ∀ r, C.R = some r → r ≠ L := fun r e => by
      obtain ⟨_, A, ns, x1, x2, x3, q, _⟩ := (p.step s1).base.row r e
      exact ne_of_none q hL
    have nRL : C.R ≠ some L := fun e => hRL L e rfl
    refine lc_it w (fun i H' => ∃ S' acc xs, Stp K C S1 H1 S' H' ∧ S' L = none ∧ H' L = some (.lst xs) ∧ DpAll K S' xs acc ∧ I i acc) ⟨S1, [], [], ⟨Ex.refl S1, s1.k.trans (Ex.new hL), fun a o _ q => Ex.new hL a o q, fun _ _ _ _ n => n, fun r e => ?_⟩, ex_none s1.k hL, upd_same, .nil, i0⟩ (fun i H' _ ⟨S', acc, xs, st, _⟩ => st.s.trans st.k) ?_ ?_
    · have rw0 := (p.step s1).base.row r e
      exact rw0.step ⟨Ex.refl S1, s1.k.trans (Ex.new hL), Ex.new hL, fun _ _ _ _ n => n⟩
    · rintro i x H' H'' hi ⟨S', acc, xs, st, n', h', a', ia⟩ y
      obtain ⟨S3, d, hd', st2, dd⟩ := y S' st.s st.k
      have p0 := (p.step s1).step st
      have st3 := st2.stp p0.base
      have p1 : Rep K C S3 (wipeE env vs) (wipe σ vs) H'' := (p0.step st3).wipe vs
      refine ho x (wipe σ vs) H'' (fun σ2 H2 => tt σ2 H2 _) _ ?_ (fun σ' H2 e q => ⟨by rw [e, wipe_wipe], q⟩)
      refine hs i d acc hd' ia S3 _ H'' x p1 dd _ fun e2 σ2 p2 q2 => ?_
      refine q2 S3 σ2 H'' p2 _ fun b S4 H4 s4 ⟨q3, q4⟩ => ?_
      have s24 := st3.trans s4
      cases b with
      | true =>
        refine q3 rfl S4 σ2 H4 (p2.step s4) _ fun y v S5 H5 s5 d5 i5 => ?_
        have s25 := s24.trans s5
        have hL3 : H5 L = some (.lst xs) := s25.h L _ nRL h'
        have n3 : S5 L = none := s25.hid L _ h' (fun _ z => nomatch z) n'
        have lx : xs.length = acc.length := dpa_len a'
        have := hl i acc ia
        refine ⟨xs, hL3, line_lt (by omega), S5, acc ++ [y], xs ++ [v], ?_, n3, upd_same, dpa_app (dpAll_mono s25.s acc xs a') (.cons d5 .nil), i5⟩
        have ss := st.trans s25
        refine ⟨ss.s, ?_, ?_, ss.hid, fun r e => ?_⟩
        · intro a o q
          rw [upd_ne (fun z => by rw [z] at q; rw [n3] at q; cases q)]
          exact ss.k a o q
        · intro a o nr q
          rw [upd_ne (ne_of_none q hL)]
          exact ss.h a o nr q
        · obtain ⟨z1, A, ns, x1, x2, x3, z2, z3⟩ := ss.row r e
          exact ⟨z1, A, ns, x1, x2, x3, by rw [upd_ne (hRL r e)]; exact z2, z3⟩
      | false =>
        have hL3 : H4 L = some (.lst xs) := s24.h L _ nRL h'
        exact ⟨S4, acc, xs, st.trans s24, s24.hid L _ h' (fun _ z => nomatch z) n', hL3, dpAll_mono s24.s acc xs a', q4 rfl⟩
    · rintro H' ⟨S', acc, xs, st, n', h', a', ia⟩
      have ss := s1.trans st
      refine k (.list acc) (.ref L) (upd S' L (.lst xs)) H' ⟨ss.s.trans (Ex.new n'), ?_, ss.h, ?_, fun r e => ?_⟩ (dp_lst n' a') (hd acc ia)
      · intro a o q
        by_cases z : a = L
        · subst z; rw [upd_same] at q; rw [h']; exact q
        · rw [upd_ne z] at q; exact st.k a o q
      · intro b o q tq nq
        have hb : b ≠ L := by
          by_cases hr : C.R = some b
          · obtain ⟨_, A, ns, x1, x2, x3, q', _⟩ := (p.step s1).base.row b hr
            exact ne_of_none q' hL
          · exact ne_of_none (s1.h b o hr q) hL
        rw [upd_ne hb]
        exact ss.hid b o q tq nq
      · obtain ⟨_, A, ns, x1, x2, x3, q', _⟩ := (p.step s1).base.row r e
        have hb : r ≠ L := ne_of_none q' hL
        obtain ⟨z1, A, ns, x1, x2, x3, z2, z3, z4⟩ := ss.row r e
        exact ⟨by rw [upd_ne hb]; exact z1, A, ns, x1, x2, x3, z2, ex_l (Ex.new n') z3, z4⟩
/-- .. without a test: each gives f -/
theorem we_map (ho : OnlyG vs g) (f : D → D) (h : WI K C ti env fun ds => ds.length ≤ 90000 ∧ (∀ (i : Nat) (d : D), ds[i]? = some d → WG K C g d (wipeE env vs) fun e => WE K C te e fun y => y = f d) ∧ Φ (.list (ds.map f))) : WE K C (tLc ti g tYes te vs) env Φ :=
  we_lc ho fun S σ H p R k => h S σ H p R fun ds J S' H' s w ⟨n, hs, q⟩ => k ds J S' H' s w ⟨n, fun i acc => acc = (ds.take i).map f, rfl, fun i d acc hi e => by
    subst e
    intro S2 σ2 H2 v p2 dv Q k2
    refine hs i d hi S2 σ2 H2 v p2 dv Q fun e2 σ3 p3 q3 => k2 e2 σ3 p3 ?_
    refine wt_yes ⟨fun _ => q3.imp fun y hy => ?_, fun z => nomatch z⟩
    show List.map f (List.take i ds) ++ [y] = List.map f (List.take (i + 1) ds)
    rw [List.take_succ, hi, List.map_append, hy]
    rfl, fun i acc e => by rw [e, List.length_map, List.length_take]; exact Nat.min_le_left _ _, fun acc e => by rw [e, List.take_length]; exact q⟩
/-- .. with a test: those with b -/
theorem we_filter (ho : OnlyG vs g) (f : D → D) (c : D → Bool) (h : WI K C ti env fun ds => ds.length ≤ 90000 ∧ (∀ (i : Nat) (d : D), ds[i]? = some d → WG K C g d (wipeE env vs) fun e => WT K C tt e fun b => b = c d ∧ (b = true → WE K C te e fun y => y = f d)) ∧ Φ (.list ((ds.filter c).map f))) : WE K C (tLc ti g tt te vs) env Φ :=
  we_lc ho fun S σ H p R k => h S σ H p R fun ds J S' H' s w ⟨n, hs, q⟩ => k ds J S' H' s w ⟨n, fun i acc => acc = ((ds.take i).filter c).map f, rfl, fun i d acc hi e => by
    subst e
    intro S2 σ2 H2 v p2 dv Q k2
    refine hs i d hi S2 σ2 H2 v p2 dv Q fun e2 σ3 p3 q3 => k2 e2 σ3 p3 ?_
    have et : List.take (i + 1) ds = List.take i ds ++ [d] := by rw [List.take_succ, hi]; rfl
    refine q3.imp fun b ⟨hb, hy⟩ => ⟨fun z => (hy z).imp fun y hy => ?_, fun z => ?_⟩
    · show List.map f (List.filter c (List.take i ds)) ++ [y] = List.map f (List.filter c (List.take (i + 1) ds))
      rw [et, List.filter_append, List.map_append, hy, List.filter_cons_of_pos (by rw [← hb, z])]
      rfl
    · show List.map f (List.filter c (List.take i ds)) = List.map f (List.filter c (List.take (i + 1) ds))
      rw [et, List.filter_append, List.filter_cons_of_neg (by rw [← hb, z]; exact fun y => nomatch y), List.filter_nil, List.append_nil], fun i acc e => by
      rw [e, List.length_map]
      exact Nat.le_trans (List.length_filter_le _ _) (by rw [List.length_take]; exact Nat.min_le_left _ _), fun acc e => by rw [e, List.take_length]; exact q⟩
end
end Rf
set_option Elab.async false
set_option linter.all false
set_option maxRecDepth 100000
namespace Rf
open PySem PySem.Spec PyProof.Rows L2 Evl
/-! ### an expression that makes a new list -/
def WO (K : PySem.W.Frag) (C : Fm) (te : TE) (env : En) (Φ : List D → Prop) : Prop := ∀ S σ H, Rep K C S env σ H → ∀ Q : VK,
  (∀ ds a xs S' H', Stp K C S H S' H' → S' a = none → C.H0 a = none → C.R ≠ some a → H' a = some (.lst xs) → DpAll K S' xs ds → (∀ (j : Nat) (es : List D), env[j]? = some (some (.own es)) → σ[j]? ≠ some (some (.ref a))) → Φ ds → Q (.ref a) H') → te σ H Q
section
variable {K : PySem.W.Frag} {C : Fm} {env : En} {ti : TI} {g : TG} {tt : TT} {te : TE} {tr : TA} {vs : List Nat} {Φ : List D → Prop} {P : Po}
theorem WO.imp {Ψ : List D → Prop} (h : WO K C te env Ψ) (i : ∀ d, Ψ d → Φ d) : WO K C te env Φ := fun S σ H p Q q => h S σ H p Q fun ds a xs S' H' a1 a2 a3 a4 a5 a6 a7 c => q ds a xs S' H' a1 a2 a3 a4 a5 a6 a7 (i ds c)
theorem wo_lst (h : WA K C tr env fun ds => ds.length ≤ 100000 ∧ Φ ds) : WO K C (tLst tr) env Φ := fun S σ H p Q k =>
  h S σ H p _ fun ds vs S1 H1 s1 d1 ⟨l, q⟩ => ⟨by rw [dpa_len d1]; exact line_of l, fun a ha => by
    have b := (p.step s1).base.none0 ha
    have st : Stp K C S H S1 (upd H1 a (.lst vs)) := s1.trans (Step.stp ⟨Ex.refl S1, s1.k.trans (Ex.new ha), Ex.new ha, fun _ _ _ _ n => n⟩ (p.step s1).base)
    exact k ds a vs S1 _ st b.1 b.2.1 b.2.2 upd_same d1 (fun j es e => (p.step s1).fresh (c := .row) ha j es e) q⟩
theorem wo_lc (ho : OnlyG vs g) (h : WI K C ti env fun ds => ds.length ≤ 90000 ∧ ∃ I : Nat → List D → Prop, I 0 [] ∧
    (∀ (i : Nat) (d : D) acc, ds[i]? = some d → I i acc → WG K C g d (wipeE env vs) fun e => WT K C tt e fun b => (b = true → WE K C te e fun y => I (i + 1) (acc ++ [y])) ∧ (b = false → I (i + 1) acc)) ∧
    (∀ i acc, I i acc → acc.length ≤ i) ∧ ∀ acc, I ds.length acc → Φ acc) : WO K C (tLc ti g tt te vs) env Φ := fun S σ H p Q k =>
  h S σ H p _ fun ds J S1 H1 s1 w ⟨n1, I, i0, hs, hl, hd⟩ => by
    intro L hL
    have hRL : ∀ r, C.R = some r → r ≠ L := fun r e => by
      obtain ⟨_, A, ns, x1, x2, x3, q, _⟩ := (p.step s1).base.row r e
      exact ne_of_none q hL
    have nRL : C.R ≠ some L := fun e => hRL L e rfl
    refine lc_it w (fun i H' => ∃ S' acc xs, Stp K C S1 H1 S' H' ∧ S' L = none ∧ H' L = some (.lst xs) ∧ DpAll K S' xs acc ∧ I i acc) ⟨S1, [], [], ⟨Ex.refl S1, s1.k.trans (Ex.new hL), fun a o _ q => Ex.new hL a o q, fun _ _ _ _ n => n, fun r e => ?_⟩, ex_none s1.k hL, upd_same, .nil, i0⟩ (fun i H' _ ⟨S', acc, xs, st, _⟩ => st.s.trans st.k) ?_ ?_
    · have rw0 := (p.step s1).base.row r e
      exact rw0.step ⟨Ex.refl S1, s1.k.trans (Ex.new hL), Ex.new hL, fun _ _ _ _ n => n⟩
    · rintro i x H' H'' hi ⟨S', acc, xs, st, n', h', a', ia⟩ y
      obtain ⟨S3, d, hd', st2, dd⟩ := y S' st.s st.k
      have p0 := (p.step s1).step st
      have st3 := st2.stp p0.base
      have p1 : Rep K C S3 (wipeE env vs) (wipe σ vs) H'' := (p0.step st3).wipe vs
      refine ho x (wipe σ vs) H'' (fun σ2 H2 => tt σ2 H2 _) _ ?_ (fun σ' H2 e q => ⟨by rw [e, wipe_wipe], q⟩)
      refine hs i d acc hd' ia S3 _ H'' x p1 dd _ fun e2 σ2 p2 q2 => ?_
      refine q2 S3 σ2 H'' p2 _ fun b S4 H4 s4 ⟨q3, q4⟩ => ?_
      have s24 := st3.trans s4
      cases b with
      | true =>
        refine q3 rfl S4 σ2 H4 (p2.step s4) _ fun y v S5 H5 s5 d5 i5 => ?_
        have s25 := s24.trans s5
        have hL3 : H5 L = some (.lst xs) := s25.h L _ nRL h'
        have n3 : S5 L = none := s25.hid L _ h' (fun _ z => nomatch z) n'
        have lx : xs.length = acc.length := dpa_len a'
        have := hl i acc ia
        refine ⟨xs, hL3, line_lt (by omega), S5, acc ++ [y], xs ++ [v], ?_, n3, upd_same, dpa_app (dpAll_mono s25.s acc xs a') (.cons d5 .nil), i5⟩
        have ss := st.trans s25
        refine ⟨ss.s, ?_, ?_, ss.hid, fun r e => ?_⟩
        · intro a o q
          rw [upd_ne (fun z => by rw [z] at q; rw [n3] at q; cases q)]
          exact ss.k a o q
        · intro a o nr q
          rw [upd_ne (ne_of_none q hL)]
          exact ss.h a o nr q
        · obtain ⟨z1, A, ns, x1, x2, x3, z2, z3⟩ := ss.row r e
          exact ⟨z1, A, ns, x1, x2, x3, by rw [upd_ne (hRL r e)]; exact z2, z3⟩
      | false =>
        have hL3 : H4 L = some (.lst xs) := s24.h L _ nRL h'
        exact ⟨S4, acc, xs, st.trans s24, s24.hid L _ h' (fun _ z => nomatch z) n', hL3, dpAll_mono s24.s acc xs a', q4 rfl⟩
    · rintro H' ⟨S', acc, xs, st, n', h', a', ia⟩
      exact k acc L xs S' H' (s1.trans st) n' ((p.step s1).base.none0 hL).2.1 nRL h' a' (fun j es e => (p.step s1).fresh (c := .row) hL j es e) (hd acc ia)
/-- .. all that pass the test, as they are or changed -/
theorem wo_filter (ho : OnlyG vs g) (f : D → D) (c : D → Bool) (h : WI K C ti env fun ds => ds.length ≤ 90000 ∧ (∀ (i : Nat) (d : D), ds[i]? = some d → WG K C g d (wipeE env vs) fun e => WT K C tt e fun b => b = c d ∧ (b = true → WE K C te e fun y => y = f d)) ∧ Φ ((ds.filter c).map f)) : WO K C (tLc ti g tt te vs) env Φ :=
  wo_lc ho fun S σ H p R k => h S σ H p R fun ds J S' H' s w ⟨n, hs, q⟩ => k ds J S' H' s w ⟨n, fun i acc => acc = ((ds.take i).filter c).map f, rfl, fun i d acc hi e => by
    subst e
    intro S2 σ2 H2 v p2 dv Q k2
    refine hs i d hi S2 σ2 H2 v p2 dv Q fun e2 σ3 p3 q3 => k2 e2 σ3 p3 ?_
    have et : List.take (i + 1) ds = List.take i ds ++ [d] := by rw [List.take_succ, hi]; rfl
    refine q3.imp fun b ⟨hb, hy⟩ => ⟨fun z => (hy z).imp fun y hy => ?_, fun z => ?_⟩
    · show List.map f (List.filter c (List.take i ds)) ++ [y] = List.map f (List.filter c (List.take (i + 1) ds))
      rw [et, List.filter_append, List.map_append, hy, List.filter_cons_of_pos (by rw [← hb, z])]
      rfl
    · show List.map f (List.filter c (List.take i ds)) = List.map f (List.filter c (List.take (i + 1) ds))
      rw [et, List.filter_append, List.filter_cons_of_neg (by rw [← hb, z]; exact fun y => nomatch y), List.filter_nil, List.append_nil], fun i acc e => by
      rw [e, List.length_map]
      exact Nat.le_trans (List.length_filter_le _ _) (by rw [List.length_take]; exact Nat.min_le_left _ _), fun acc e => by rw [e, List.take_length]; exact q⟩
/-- x = a new list -/
theorem ws_asgO {i : Nat} (h : WO K C te env fun ds => P.nx (env.set i (some (.own ds)))) : WS K C (tAsg te (gName i)) env P := fun S σ H p X k1 k2 k3 k4 =>
  h S σ H p _ fun ds a xs S1 H1 s1 n1 n2 n3 e1 d1 fr q => by
    have p2 := (p.step s1).put i n1 n2 n3 d1 (fun j es _ e => fr j es e) (nd_lst e1)
    rw [upd_own e1] at p2
    exact k1 _ S1 _ H1 p2 s1.s q
/-- x = x + a new list -/
theorem ws_catO {i : Nat} {ds : List D} (hi : env[i]? = some (some (.own ds))) (h : WO K C te env fun es => ds.length + es.length ≤ 100000 ∧ P.nx (env.set i (some (.own (ds ++ es))))) : WS K C (tAsg (tOp rCat (tVar i) te) (gName i)) env P := fun S σ H p X k1 k2 k3 k4 => by
  obtain ⟨w, h1, a, xs, rfl, n, n0, nr, q1, q2⟩ := p.slot i _ hi
  refine ⟨.ref a, h1, ?_⟩
  refine h S σ H p _ fun es b vs S1 H1 s1 m1 m2 m3 f1 d1 fr ⟨l, q⟩ => ?_
  have e1 : H1 a = some (.lst xs) := s1.h a _ nr q1
  refine ⟨a, b, xs, vs, rfl, rfl, e1, f1, by rw [dpa_len q2, dpa_len d1]; exact line_of l, fun c hc => ?_⟩
  have bb := (p.step s1).base.none0 hc
  exact k1 _ S1 _ _ ((p.step s1).put i bb.1 bb.2.1 bb.2.2 (dpa_app (dpAll_mono s1.s ds xs q2) d1) (fun j es _ e => (p.step s1).fresh (c := .row) hc j es e) (nd_none hc)) s1.s q
end
end Rf
set_option Elab.async false
set_option linter.all false
set_option maxRecDepth 100000
namespace PySem
open Sem (wp)
open AutoSeq1 (wpAny_loadPart')
theorem meets_enumerate_newT (l : Addr) (items : Array Value) (n : Nat) (dct : Option Addr) (sl : Array (Option Value)) :
    Meets (Builtin.«enumerate.__new__» ⟨[.type "enumerate", .ref l], []⟩) (fun _ R s => s.heap.get? l = some { cls := .type "tuple", dict := dct, data := .seq items n, slots := sl } ∧
      R (.ok (.ret (.ref (s.heap.push { cls := .type "tuple_iterator", data := .fields #[.ref l, .int 0 0] }).objs.size)))
        { s with heap := (s.heap.push { cls := .type "tuple_iterator", data := .fields #[.ref l, .int 0 0] }).push { cls := .type "enumerate", data := .fields #[.none, .bool false, .ref s.heap.objs.size, rawInt 0, .none, .none] } }) :=
  .of_wp fun prog w A R s h => by
    obtain ⟨hp, g, d, tk, os⟩ := s; obtain ⟨hl, h⟩ := h
    have hsub := sub_enumerate
    have hL : Heap.IsTuple (Shared.heap ⟨hp, g, d, tk, os⟩) l items := ⟨_, hl, rfl, n, rfl⟩
    wp_walk using wpAny_loadPart' hl
    refine wpAny_stack_any fun st => wpAny_pure ?_
    split
    · rename_i c _ _ _ _ _
      cases (c == Value.type "enumerate")
      · wp_walk using wpAny_loadPart' hl, wpAny_pyIter_tuple hL
        exact ⟨_, rfl, h⟩
      · wp_walk using wpAny_loadPart' hl, wpAny_pyIter_tuple hL
        exact ⟨_, rfl, h⟩
    · wp_walk using wpAny_loadPart' hl, wpAny_pyIter_tuple hL
      exact ⟨_, rfl, h⟩
section
variable {prog : Program} {w : World} {A : Around} {E : Value → Shared → Prop} {s : Shared}
theorem wpAny_pyNext_enumT_end {e it l : Addr} {i : Nat} {items : Array Value} {old : Value} {Q : Option Value → Shared → Prop} (hh : A.handled = none)
    (he : IsEnum s.heap e it i old) (hit : s.heap.IsTupleIter it l i) (hl : s.heap.IsTuple l items) (hx : items[i]? = none)
    (hQ : ∀ h', Heap.ExtBut it s.heap h' → Q none { s with heap := h' }) : wpAny (model prog w) A (pyNext (.ref e)) Q E s := by
  have hT : s.TypeIs (.ref e) "enumerate" := ⟨_, he, rfl⟩
  unfold pyNext
  refine wpAny_bind (wpAny_attempt (wpAny_callSpecial?_slot (name := Str.ofString "__next__") hT F.slot_enumerate_next
    (wpAny_call_entry F.slot_enumerate_next hT F.entry_enumerate_next ?_ (F.args_enumerate_next_1 _))))
  show wpAny _ _ (field (.ref e) 2 >>= _) _ _ _
  refine wpAny_bind (wpAny_field he rfl (x := .ref it) rfl ?_)
  refine wpAny_bind (wpAny_nextOf_tuple_end (show (Around.in1 A).handled = none from hh) hit hl hx fun h' x he' hx' => ?_)
  obtain ⟨o, ho, hc⟩ := hx'
  refine wpAny_bind (wpAny_isInstance (T := "StopIteration") (b := true) ⟨o, ho, hc⟩ isSubtype_stop ?_)
  exact wpAny_pure (hQ _ he')
theorem call_enumerate_tuple {l : Addr} {items : Array Value} {Q : Value → Shared → Prop} (hL : s.heap.IsTuple l items)
    (h : ∀ h', IsEnum h' (s.heap.objs.size + 1) s.heap.objs.size 0 .none → h'.IsTupleIter s.heap.objs.size l 0 → h'.objs.size = s.heap.objs.size + 2 →
      (∀ b o, s.heap.get? b = some o → h'.get? b = some o) → Q (.ref (s.heap.objs.size + 1)) { s with heap := h' }) :
    wpAny (model prog w) A (call (.type "enumerate") [.ref l]) Q E s := by
  obtain ⟨⟨c, dct, dt, sl⟩, hl, hc, n, hd⟩ := hL
  replace hc : c = .type "tuple" := hc
  replace hd : dt = .seq items n := hd
  subst hc hd
  refine callType_new F.called_enumerate (by decide) (F.typeCall_enumerate_1 _) (F.newCall_enumerate_1 _) (fun obj => F.args_object_init_2 obj _) F.entry_enumerate_new
    (meets_enumerate_newT l items n dct sl) ⟨hl, ?_⟩
  have hz : (s.heap.push { cls := .type "tuple_iterator", data := .fields #[.ref l, .int 0 0] }).objs.size = s.heap.objs.size + 1 := Heap.size_push ..
  show _ ∧ _
  rw [hz]
  have he : IsEnum ((s.heap.push { cls := .type "tuple_iterator", data := .fields #[.ref l, .int 0 0] }).push
      { cls := .type "enumerate", data := .fields #[.none, .bool false, .ref s.heap.objs.size, rawInt 0, .none, .none] }) (s.heap.objs.size + 1) s.heap.objs.size 0 .none := by
    have := Heap.get?_push_size (s.heap.push { cls := .type "tuple_iterator", data := .fields #[.ref l, .int 0 0] })
      (o := { cls := .type "enumerate", data := .fields #[.none, .bool false, .ref s.heap.objs.size, rawInt 0, .none, .none] }) rfl
    rw [hz] at this; exact this
  refine ⟨⟨_, he, rfl⟩, h _ he ⟨_, Heap.get?_push_of_some _ (Heap.get?_push_size _ rfl), rfl, rfl⟩ (by rw [Heap.size_push, hz]) fun b o x => Heap.get?_push_of_some _ (Heap.get?_push_of_some _ x)⟩
end
end PySem
namespace Rf
open PySem PySem.Spec PyProof.Rows L2 Evl
/-! ### enumerate(tuple) -/
def IteT (K : PySem.W.Frag) (a : Addr) : It :=
  ⟨fun i H => ∃ (xs : List V) (x : V), SqT K H a xs ∧ xs[i]? = some x, fun i H v H' => ∃ T x, v = .ref T ∧ H T = none ∧ H' = upd H T (.tup [.int (i : Nat), x]) ∧ ∀ xs, SqT K H a xs → xs[i]? = some x, fun i H => ∃ xs : List V, SqT K H a xs ∧ xs.length ≤ i⟩
theorem turn_enumT {P : Program} {w : World} {K : PySem.W.Frag} {elts : List Expr} {kk : Nat} {tpos : Pos} (a e it : Addr) :
    Turn P w K (.Tuple elts kk tpos) (IteT K a) [e, it] e (fun i h => (∃ old, IsEnum h e it ((i : Nat) : Int) old) ∧ h.IsTupleIter it a i ∧ e ≠ it) where
  mem := by simp
  obj := fun i h st b hb => by
    obtain ⟨⟨old, he⟩, ⟨o, ho, hc, hd⟩, _⟩ := st
    have e' : b = e ∨ b = it := by simpa using hb
    rcases e' with z | z
    · rw [z]; exact ⟨_, he, fun v q => nomatch q⟩
    · rw [z]; exact ⟨o, ho, fun v q => by rw [hd] at q; cases q⟩
  keep := fun i h h' st k => let ⟨⟨old, he⟩, hi, hne⟩ := st; ⟨⟨old, k e (by simp) _ he⟩, hi.at fun o q => k it (by simp) o q, hne⟩
  item := by
    intro X hP hw hK hc i pins s σ H E I hf st hg
    subst hP hw hK
    obtain ⟨⟨old, he⟩, hit, hne⟩ := st
    obtain ⟨xs, x, hq, hx⟩ := hg
    obtain ⟨its, rv, p, hz⟩ := I.tuple hq
    obtain ⟨u, hu, ru⟩ := rv.get hx
    have p' : s.heap.IsTuple a its.toArray := p
    have hel : e < s.heap.objs.size := Heap.lt_size he
    have hil : it < s.heap.objs.size := by obtain ⟨_, q, _⟩ := hit; exact Heap.lt_size q
    have nea : a ≠ it := by
      rintro rfl
      obtain ⟨o1, q1, c1, _⟩ := p'
      obtain ⟨o2, q2, c2, _⟩ := hit
      rw [q1] at q2
      cases q2
      rw [c1] at c2
      exact absurd (Value.type.inj c2) (by decide)
    have nee : e ≠ a := by
      rintro rfl
      obtain ⟨o1, q1, c1, _⟩ := p'
      rw [he] at q1
      cases q1
      exact absurd (Value.type.inj c1) (by decide)
    have hlt : i < its.toArray.size := by
      have := (List.getElem?_eq_some_iff.mp hu).1
      simpa using this
    refine wpAny_pyNext_enum_itemD (Draws.tuple (A := X.A.in1) (by exact I.ok.hd hc) it a nea its.toArray) he ⟨hit, p'⟩ hlt hne (by simp [hne, nee]) fun y h' tk hP ho hit' hT hsz hk => ?_
    have ey : y = u := by
      have : its[i]? = some y := by simpa using hP
      rw [hu] at this
      exact (Option.some.inj this).symm
    subst ey
    refine ⟨_, rfl, wpAny_letOwnedTupleGo_enum (s := { s with heap := h', toks := tk + 1 }) ho fun h'' he' sb => ?_⟩
    have hT2 : h''.get? s.heap.objs.size = some { cls := .type "tuple", data := .seq #[.int i tk, y] } := (sb.2 _ (Nat.ne_of_gt hel)).trans hT
    have new : ObjOk X.prog X.w (upd H s.heap.objs.size (.tup [.int (i : Nat), x])) h'' s.heap.objs.size (.tup [.int (i : Nat), x]) :=
      ⟨by show 2 ≤ sizeLine; decide, [.int i tk, y], .cons ⟨_, rfl⟩ (.cons ru .nil), ⟨_, hT2, rfl, _, rfl⟩⟩
    have I1 : Inv X pins σ (upd H s.heap.objs.size (.tup [.int (i : Nat), x])) { s with heap := h'', toks := tk + 1 } :=
      I.turnedNew (ch := [e, it]) (fun b ob hb q => (sb.2 b (fun z => hb (by simp [z]))).trans (hk b ob (fun z => hb (by simp [z])) (fun z => hb (by simp [z])) q)) hf (Nat.le_refl _) new
    refine ⟨.ref s.heap.objs.size, _, I1, rfl, ⟨_, x, rfl, I.hok.fresh (Nat.le_refl _), rfl, fun ys hy => by rw [I.tuple_inj hy hq]; exact hx⟩, ⟨⟨y, ?_⟩, hit'.1.at fun o q => (sb.2 it (Ne.symm hne)).trans q, hne⟩, fun b hb => ?_⟩
    · have e1 : ((i + 1 : Nat) : Int) = (i : Int) + 1 := by omega
      rw [e1]; exact he'
    · have hb' : b < s.heap.objs.size := by
        have e' : b = e ∨ b = it := by simpa using hb
        rcases e' with z | z
        · rw [z]; exact hel
        · rw [z]; exact hil
      rw [upd_ne (Nat.ne_of_lt hb')]
      exact (hf b hb).1
  done := by
    intro X hP hw hK hc i pins s σ H E I hf st hg
    subst hP hw hK
    obtain ⟨⟨old, he⟩, hit, hne⟩ := st
    obtain ⟨xs, hq, hx⟩ := hg
    obtain ⟨its, rv, p, hz⟩ := I.tuple hq
    have p' : s.heap.IsTuple a its.toArray := p
    obtain ⟨f0, f1, f2, f3, f4, f5⟩ := hf it (by simp)
    have hl := rv.length
    exact wpAny_pyNext_enumT_end (I.ok.hd hc) he hit p' (by simp; omega) fun h' eb => ⟨rfl, I.turned (t' := s.toks) (fun b o hb q => eb b o hb q) f0 f1 f3 f4 f5⟩
  self := fun A i s Q E st h => let ⟨⟨_, he⟩, _⟩ := st; wpAny_pyIter_enum he h
def iEnumT (K : PySem.W.Frag) (ta : TA) : TI := fun σ H R => ta σ H fun vs H1 => ∃ a xs, vs = [.ref a] ∧ SqT K H1 a xs ∧ R (IteT K a) H1
theorem pi_enumT {X : Cx} {e : Expr} {ta : TA} {p pos tpos : Pos} {elts : List Expr} {kk : Nat} (hg : Gl X "enumerate") (hm : X.mg "enumerate" = none) (ha : PA X [e] ta) (hs : starEach [e] X.env = [(false, eval e X.env)] := by rfl) :
    PI X (.Tuple elts kk tpos) (.Call (.Name "enumerate" p) [e] [] pos) (iEnumT X.K ta) := by
  refine ⟨fun pins s σ H R I h => ?_⟩
  refine Call_ (ld_blt I hg hm boot_enumerate (PyProof.Rows.callWith_type1 (thn (ha.run pos pins s σ H _ I h) fun us s1 ⟨vs, H1, I1, r1, q1⟩ => ?_) hs rfl))
  obtain ⟨a, xs, ex, hq, q⟩ := q1
  subst ex
  cases r1 with
  | cons r rr =>
    cases rr
    cases r
    obtain ⟨its, rv, p', hz⟩ := I1.tuple hq
    refine call_enumerate_tuple (show s1.heap.IsTuple a its.toArray from p') fun h' he hit hsz hk => wpAny_pyIter_enum he ?_
    have I2 : Inv X pins σ H1 { s1 with heap := h' } := I1.kept (t' := s1.toks) hk
    refine ⟨s1.heap.objs.size + 1, [s1.heap.objs.size + 1, s1.heap.objs.size], _, _, H1, rfl, I2, turn_enumT a (s1.heap.objs.size + 1) s1.heap.objs.size, ⟨⟨.none, he⟩, hit, Nat.succ_ne_self _⟩, fun b hb => ?_, q⟩
    have e' : b = s1.heap.objs.size + 1 ∨ b = s1.heap.objs.size := by simpa using hb
    have hle : s1.heap.objs.size ≤ b := by
      rcases e' with z | z
      · rw [z]; exact Nat.le_add_right _ _
      · rw [z]; exact Nat.le_refl _
    exact I1.fpOk hle (I1.hok.fresh hle)
theorem pi_enumTK {X : Cx} {K : PySem.W.Frag} {e : Expr} {ta : TA} {p pos tpos : Pos} {elts : List Expr} {kk : Nat} (h : X.K = K) (hg : Gl X "enumerate") (hm : X.mg "enumerate" = none) (ha : PA X [e] ta) (hs : starEach [e] X.env = [(false, eval e X.env)] := by rfl) :
    PI X (.Tuple elts kk tpos) (.Call (.Name "enumerate" p) [e] [] pos) (iEnumT K ta) := by subst h; exact pi_enumT hg hm ha hs
theorem walk_enumT {K : PySem.W.Frag} {a : Addr} {xs : List V} : Walk (IteT K a) xs.length (fun H => SqT K H a xs) (fun i H v H' => ∃ T x, v = .ref T ∧ H T = none ∧ H' = upd H T (.tup [.int (i : Nat), x]) ∧ xs[i]? = some x) :=
  ⟨fun i _ hi q => ⟨xs, xs[i], q, by simp [hi]⟩, fun _ q => ⟨xs, q, Nat.le_refl _⟩, fun i H x H' hi q ⟨T, y, h1, h2, h3, h4⟩ => ⟨T, y, h1, h2, h3, h4 xs q⟩⟩
theorem wi_enumT {K : PySem.W.Frag} {C : Fm} {env : En} {ta : TA} {Φ : List D → Prop} (h : WA K C ta env fun es => ∃ ds, es = [.tuple ds] ∧ Φ (enD ds)) : WI K C (iEnumT K ta) env Φ := fun S σ H p R k =>
  h S σ H p _ fun es vs S1 H1 s1 d1 ⟨ds, e, q⟩ => by
    subst e
    cases d1 with
    | cons d1 t1 =>
      cases t1
      cases d1 with
      | @tup a xs _ hx ha =>
        have hl := dpa_len ha
        refine ⟨a, xs, rfl, ex_tp s1.k hx, k (enD ds) _ S1 H1 s1 ?_ q⟩
        rw [enD_len, ← hl]
        exact (walk_enumT (K := K) (a := a) (xs := xs)).mono (fun H' e => ex_tp e hx) fun i H2 x H3 hi e y S2 e1 e2 => by
          obtain ⟨T, u, rfl, hT, rfl, hu⟩ := y
          obtain ⟨d, hd, dd⟩ := dpa_getV ha hu
          exact ⟨_, _, enD_at hd, Step.new e2 hT, dp_tup (ex_none e2 hT) (.cons (.int _) (.cons (dp_mono e1 d u dd) .nil))⟩
end Rf
set_option Elab.async false
set_option linter.all false
set_option maxRecDepth 100000
namespace Rf
open PySem PySem.Spec PyProof.Rows L2 Evl
/-! ### dicts of the def's own, the keys being tuples of ints and texts -/
def keyD : Key → D
  | .inl i => .int i
  | .inr x => .str x
theorem keys_v {K : PySem.W.Frag} {S : Hp} : ∀ {k : List Key} {xs : List V}, DpAll K S xs (k.map keyD) → xs = k.map kV
  | [], _, .nil => rfl
  | .inl i :: k, _, .cons h t => by
    cases h
    rw [keys_v t]
    rfl
  | .inr x :: k, _, .cons h t => by
    cases h
    rw [keys_v t]
    rfl
theorem key_tup {K : PySem.W.Frag} {S : Hp} {v : V} {k : List Key} (h : Dp K S v (.tuple (k.map keyD))) : ∃ b, v = .ref b ∧ S b = some (.tup (k.map kV)) := by
  cases h with
  | tup hs ha => exact ⟨_, rfl, by rw [← keys_v ha]; exact hs⟩
theorem nodup_put {ws : List (List Key × V)} (k : List Key) (v : V) (h : (ws.map fun p => p.1).Nodup) : ((putK ws k v).map fun p => p.1).Nodup := by
  unfold putK
  split
  · have e : (ws.map fun kv => if kv.1 = k then (kv.1, v) else kv).map (fun p => p.1) = ws.map fun p => p.1 := by
      rw [List.map_map]
      apply List.map_congr_left
      intro p _
      show (if p.1 = k then (p.1, v) else p).1 = p.1
      split <;> rfl
    rw [e]
    exact h
  · rename_i hn
    rw [List.map_append]
    refine List.nodup_append.mpr ⟨h, by simp, ?_⟩
    intro a ha b hb e
    have hb : b = k := by simpa using hb
    subst e
    subst hb
    obtain ⟨p, hp, e⟩ := List.mem_map.mp ha
    exact hn (List.any_eq_true.mpr ⟨p, hp, by rw [e]; simp⟩)
theorem room1 {k : Nat} {A : Around} (h : Room k A) : A.units + 1 < cLine := by
  have := h.un
  omega
section
variable {K : PySem.W.Frag} {C : Fm} {S H : Hp} {env : En} {σ : L2.St}
/-- slot i holds a dict of the def's own -/
theorem Rep.putD (r : Rep K C S env σ H) (i : Nat) {a : Addr} {ws : List (List Key × V)} {f : List Key → Option D} {n : Nat} (hS : S a = none) (h0 : C.H0 a = none) (hR : C.R ≠ some a) (hl : ws.length ≤ n ∧ (ws.map fun p => p.1).Nodup) (hf : ∀ k, OptD K S (valV ws k) (f k))
    (hno : ∀ (j : Nat) (es : List D), env[j]? = some (some (.own es)) → σ[j]? ≠ some (some (.ref a))) (hnd : ∀ (j : Nat) (g : List Key → Option D) (m : Nat), j ≠ i → env[j]? = some (some (.dic g m)) → σ[j]? ≠ some (some (.ref a))) :
    Rep K C S (env.set i (some (.dic f n))) (σ.set i (some (.ref a))) (upd H a (.dT ws)) where
  base := r.base.put hS h0 hR
  len := by rw [List.length_set, List.length_set]; exact r.len
  slot := fun j c e => by
    by_cases hj : i = j
    · subst hj
      by_cases hl' : i < env.length
      · rw [List.getElem?_set_self hl'] at e
        have e' : Sc.dic f n = c := Option.some.inj (Option.some.inj e)
        subst e'
        exact ⟨_, List.getElem?_set_self (by rw [r.len]; exact hl'), a, ws, rfl, hS, h0, hR, upd_same, hl, hf⟩
      · rw [List.getElem?_eq_none (by rw [List.length_set]; omega)] at e
        cases e
    · rw [List.getElem?_set_ne hj] at e
      obtain ⟨w, h1, h2⟩ := r.slot j c e
      refine ⟨w, by rw [List.getElem?_set_ne hj]; exact h1, ?_⟩
      cases c with
      | dat d => exact h2
      | row => exact h2
      | own es =>
        obtain ⟨a2, ys, rfl, m, n0, nr, q1, q2⟩ := h2
        have ne : a2 ≠ a := fun z => by subst z; exact hno j es e h1
        exact ⟨a2, ys, rfl, m, n0, nr, by rw [upd_ne ne]; exact q1, q2⟩
      | dic g m =>
        obtain ⟨a2, ys, rfl, m, n0, nr, q1, q2⟩ := h2
        have ne : a2 ≠ a := fun z => by subst z; exact hnd j g _ (fun z => hj z.symm) e h1
        exact ⟨a2, ys, rfl, m, n0, nr, by rw [upd_ne ne]; exact q1, q2⟩
  apart := fun x y us es w hab e1 e2 e3 => by
    have hl : ∀ z vs, (env.set i (some (.dic f n)))[z]? = some (some (.own vs)) → i ≠ z := fun z vs e q => by
      subst q
      by_cases hl : i < env.length
      · rw [List.getElem?_set_self hl] at e; cases e
      · rw [List.getElem?_eq_none (by rw [List.length_set]; omega)] at e; cases e
    have hx := hl x us e1
    have hy := hl y es e2
    rw [List.getElem?_set_ne hx] at e1 e3
    rw [List.getElem?_set_ne hy] at e2 ⊢
    exact r.apart x y us es w hab e1 e2 e3
  apartD := fun x y f' g n' m w hab e1 e2 e3 => by
    by_cases hx : i = x
    · subst hx
      have hy : i ≠ y := hab
      rw [List.getElem?_set_ne hy] at e2 ⊢
      by_cases hl : i < σ.length
      · rw [List.getElem?_set_self hl] at e3
        have e4 : V.ref a = w := Option.some.inj (Option.some.inj e3)
        subst e4
        exact hnd y g m (fun z => hy z.symm) e2
      · rw [List.getElem?_eq_none (by rw [List.length_set]; omega)] at e3; cases e3
    · rw [List.getElem?_set_ne hx] at e1 e3
      by_cases hy : i = y
      · subst hy
        intro e5
        by_cases hl : i < σ.length
        · rw [List.getElem?_set_self hl] at e5
          have e4 : V.ref a = w := Option.some.inj (Option.some.inj e5)
          subst e4
          exact hnd x f' n' (fun z => hx z.symm) e1 e3
        · rw [List.getElem?_eq_none (by rw [List.length_set]; omega)] at e5; cases e5
      · rw [List.getElem?_set_ne hy] at e2 ⊢
        exact r.apartD x y f' g n' m w hab e1 e2 e3
theorem Rep.freshD (r : Rep K C S env σ H) {a : Addr} (h : H a = none) (j : Nat) (f : List Key → Option D) (n : Nat) (e : env[j]? = some (some (.dic f n))) : σ[j]? ≠ some (some (.ref a)) := fun e2 => by
  obtain ⟨v, h1, a2, ys, rfl, n, n0, nr, q1, q2⟩ := r.slot j _ e
  rw [h1] at e2
  have e3 : V.ref a2 = V.ref a := Option.some.inj (Option.some.inj e2)
  cases e3
  rw [h] at q1; cases q1
end
section
variable {K : PySem.W.Frag} {C : Fm} {env : En} {te tk : TE} {P : Po} {Φ : D → Prop} {f : List Key → Option D} {n : Nat}
theorem optD_some {S : Hp} {v : Option V} {d : Option D} (h : OptD K S v d) : v.isSome = d.isSome := by
  cases v <;> cases d <;> first | rfl | exact h.elim
/-- x = {} -/
theorem ws_dnew {i : Nat} (h : P.nx (env.set i (some (.dic (fun _ => none) 0)))) : WS K C (tAsg tDNewT (gName i)) env P := fun S σ H p X k1 k2 k3 k4 => fun a ha => by
  have b := p.base.none0 ha
  exact k1 _ S _ _ (p.putD i (ws := []) (f := fun _ => none) b.1 b.2.1 b.2.2 ⟨Nat.le_refl 0, List.nodup_nil⟩ (fun k => (True.intro : OptD K S none none)) (fun j es e => p.fresh (c := .row) ha j es e) (fun j g m _ e => p.freshD ha j g m e)) (Ex.refl S) h
/-- d[k] = v -/
theorem ws_dset {j : Nat} (hj : env[j]? = some (some (.dic f n))) (h : WE K C te env fun d => WE K C tk env fun kd => ∃ k : List Key, kd = .tuple (k.map keyD) ∧ n < 90000 ∧ P.nx (env.set j (some (.dic (fun q => if q = k then some d else f q) (n + 1))))) :
    WS K C (tAsg te (gSub (tVar j) tk rSetD)) env P := fun S σ H p X k1 k2 k3 k4 => by
  refine h S σ H p _ fun d v S1 H1 s1 d1 h1 => ?_
  have p1 := p.step s1
  obtain ⟨w, e0, _⟩ := p1.slot j _ hj
  refine ⟨w, e0, ?_⟩
  refine h1 S1 σ H1 p1 _ fun kd y S2 H2 s2 d2 ⟨k, ek, hn, q⟩ => ?_
  subst ek
  have p2 := p1.step s2
  obtain ⟨w', e0', a, ws, rfl, n1, n0, nr, e1, e2, e3⟩ := p2.slot j _ hj
  have ew : w = .ref a := Option.some.inj (Option.some.inj (e0.symm.trans e0'))
  subst ew
  obtain ⟨b, rfl, hb⟩ := key_tup d2
  have e2l := e2.1
  refine ⟨a, _, rfl, DPut.t e1 (s2.k b _ hb) (line_lt (by omega)), ?_⟩
  have hl2 := length_putK ws k v
  have p3 := p2.putD j (a := a) (ws := putK ws k v) (f := fun q => if q = k then some d else f q) (n := n + 1) n1 n0 nr ⟨by omega, nodup_put k v e2.2⟩ (fun q => by
      rw [valV_put]
      by_cases hq : q = k
      · rw [if_pos hq, if_pos hq]; exact dp_mono s2.s d v d1
      · rw [if_neg hq, if_neg hq]; exact e3 q)
    (fun m es e e5 => by
      obtain ⟨u, g1, a2, ys, rfl, _, _, _, g2, _⟩ := p2.slot m _ e
      rw [g1] at e5
      have := Option.some.inj (Option.some.inj e5)
      cases this
      rw [e1] at g2; cases g2)
    (fun m g l hm e e5 => p2.apartD j m f g n l _ (fun z => hm z.symm) hj e e0' e5)
  have hset : σ.set j (some (.ref a)) = σ := by
    apply List.ext_getElem?
    intro m
    by_cases hm : j = m
    · subst hm
      rw [e0', List.getElem?_set_self]
      exact (List.getElem?_eq_some_iff.mp e0').1
    · rw [List.getElem?_set_ne hm]
  rw [hset] at p3
  exact k1 _ S2 σ _ p3 (s1.s.trans s2.s) q
theorem dic_get {S H : Hp} {σ : L2.St} {j : Nat} (p : Rep K C S env σ H) (hj : env[j]? = some (some (.dic f n))) {y : V} {k : List Key} (hy : Dp K S y (.tuple (k.map keyD))) : ∃ a ws, σ[j]? = some (some (.ref a)) ∧ DGet H a y (valV ws k) ∧ OptD K S (valV ws k) (f k) := by
  obtain ⟨w, e0, a, ws, rfl, n1, n0, nr, e1, e2, e3⟩ := p.slot j _ hj
  obtain ⟨b, rfl, hb⟩ := key_tup hy
  exact ⟨a, ws, e0, DGet.t e1 (p.base.ex b _ hb), e3 k⟩
/-- k in d, k not in d, d[k] -/
theorem we_din {j : Nat} (hj : env[j]? = some (some (.dic f n))) (h : WE K C tk env fun x => ∃ k : List Key, x = .tuple (k.map keyD) ∧ Φ (.bool (f k).isSome)) : WE K C (tDIn tk (tVar j)) env Φ := fun S σ H p Q q => by
  refine h S σ H p _ fun x v S1 H1 s1 d1 ⟨k, ek, h1⟩ => ?_
  subst ek
  obtain ⟨a, ws, e0, g, o⟩ := dic_get (p.step s1) hj d1
  refine ⟨.ref a, e0, a, _, rfl, g, ?_⟩
  rw [optD_some o]
  exact q _ (.bl _) S1 H1 s1 (.bl _) h1
theorem we_dnotin {j : Nat} (hj : env[j]? = some (some (.dic f n))) (h : WE K C tk env fun x => ∃ k : List Key, x = .tuple (k.map keyD) ∧ Φ (.bool (!(f k).isSome))) : WE K C (tDNotIn tk (tVar j)) env Φ := fun S σ H p Q q => by
  refine h S σ H p _ fun x v S1 H1 s1 d1 ⟨k, ek, h1⟩ => ?_
  subst ek
  obtain ⟨a, ws, e0, g, o⟩ := dic_get (p.step s1) hj d1
  refine ⟨.ref a, e0, a, _, rfl, g, ?_⟩
  rw [optD_some o]
  exact q _ (.bl _) S1 H1 s1 (.bl _) h1
end
end Rf
namespace Rf
open PySem PySem.Spec PyProof.Rows L2 Evl
/-! ### list.index, a default, a keyword, a choice of two new lists -/
theorem mt_indexDK {X : Cx} {K : PySem.W.Frag} (h : X.K = K) (hu : X.A.units + 65 < cLine) : MtR X "list.index" (rIndexD K) := by subst h; exact mt_indexD hu
section
variable {K : PySem.W.Frag} {C : Fm} {env : En} {te tl ta tb : TE} {tr tk : TA} {c : TT} {Φ : D → Prop} {α : Type} {enc : α → List D} {Pr : α → Prop} {Rl : α → D → Prop}
theorem we_index (h : WE K C tl env fun l => ∃ ds, l = .list ds ∧ WE K C te env fun d => SeqAt.shaped (.list ds) = true ∧ SeqAt.shaped d = true ∧ ∃ (j : Nat) (z : D), ds[j]? = some z ∧ PyData.eqv z d = true ∧ (∀ (m : Nat) (z' : D), m < j → ds[m]? = some z' → PyData.eqv z' d = false) ∧ Φ (.int (j : Int))) : WE K C (tBM K "list" (rIndexD K) tl (tCons te tNil)) env Φ := fun S σ H p Q k =>
  h S σ H p _ fun l v S1 H1 s1 d1 ⟨ds, e, h1⟩ => by
    subst e
    obtain ⟨a, rfl, xs, hs⟩ : ∃ a, v = .ref a ∧ ∃ xs, SqL K S1 a xs := by
      cases d1 with
      | lst hs ha => exact ⟨_, rfl, _, hs⟩
    refine ⟨.inl ⟨rfl, xs, ex_l s1.k hs⟩, ?_⟩
    refine h1 S1 σ H1 (p.step s1) _ fun d w S2 H2 s2 d2 ⟨q1, q2, j, z, q3, q4, q5, q6⟩ => ?_
    exact ⟨a, w, d, ds, j, z, rfl, rfl, (dp_mono (s2.s.trans s2.k) _ _ d1).old (SeqAt.canLay_of_shaped q1), (dp_mono s2.k _ _ d2).old (SeqAt.canLay_of_shaped q2), q1, q2, q3, q4, q5, k _ _ S2 H2 (s1.trans s2) (.int _) q6⟩
theorem we_callDf {n : Int} (h : WA K C tr env fun ds => ∃ a, ds ++ [.int n] = enc a ∧ Pr a ∧ ∀ d, Rl a d → Φ d) : WE K C (tCall (spD K enc Pr Rl) (List.map (fun q : Str × V => q.2) [("w", V.int n)]) E0 tr) env Φ := fun S σ H p Q k =>
  h S σ H p _ fun ds vs S1 H1 s1 d1 ⟨a, e, pr, q⟩ => by
    exact ⟨a, S1, s1.k, by rw [← e]; exact dpa_app d1 (.cons (.int n) .nil), pr, fun d r v S2 H2 s2 d2 => k d v S2 H2 (s1.trans (s2.stp (p.step s1).base)) d2 (q d r)⟩
theorem we_callN {n m : Nat} (h : WA K C tr env fun ds => WA K C tk env fun es => ds.length = n ∧ es.length = m ∧ ∃ a, ds ++ es = enc a ∧ Pr a ∧ ∀ d, Rl a d → Φ d) : WE K C (tCallN n m (spD K enc Pr Rl) (fun vs zs => vs ++ zs) E0 tr tk) env Φ := fun S σ H p Q k =>
  h S σ H p _ fun ds vs S1 H1 s1 d1 h1 => h1 S1 σ H1 (p.step s1) _ fun es zs S2 H2 s2 d2 ⟨l1, l2, a, e, pr, q⟩ => by
    refine ⟨(dpa_len d1).trans l1, (dpa_len d2).trans l2, a, S2, s2.k, by rw [← e]; exact dpa_app (dpAll_mono s2.s _ _ d1) d2, pr, fun d r v S3 H3 s3 d3 => k d v S3 H3 ((s1.trans s2).trans (s3.stp ((p.step s1).step s2).base)) d3 (q d r)⟩
theorem wo_if {Φ : List D → Prop} (h : WT K C c env fun b => (b = true → WO K C ta env Φ) ∧ (b = false → WO K C tb env Φ)) : WO K C (tIf c ta tb) env Φ := fun S σ H p Q k =>
  h S σ H p _ fun b S1 H1 s1 ⟨h1, h2⟩ => by
    cases b with
    | true =>
      show ta σ H1 Q
      exact h1 rfl S1 σ H1 (p.step s1) Q fun ds a xs S' H' st => k ds a xs S' H' (s1.trans st)
    | false =>
      show tb σ H1 Q
      exact h2 rfl S1 σ H1 (p.step s1) Q fun ds a xs S' H' st => k ds a xs S' H' (s1.trans st)
end
end Rf
namespace Rf
open PySem PySem.Spec PyProof.Rows L2 Evl
theorem pe_bmK {X : Cx} {K : PySem.W.Frag} {o e : Expr} {es : List Expr} {to : TE} {t : TA} {name : Str} {apos cpos : Pos} {T id : String} {r : V → List V → Hp → VK → Prop} (h : X.K = K) (pa : PlainAttrs T) (slot : Slot T name id) (hty : typeOf (.builtin id) = pure (.type "method_descriptor")) (hm : MtR X id r) (ho : PE X o to) (ha : PA X (e :: es) t)
    (hbase : attributeBase o name X.env (eval o X.env) = eval o X.env := by rfl)
    (hfew : ((backTo cpos (starEach (e :: es) X.env)).all (fun x => !x.1) && (backToKw cpos (keywordEach [] X.env)).all (fun x => x.1.isSome)
      && decide ((e :: es).length + ([] : List Keyword).length + (if ([] : List Keyword).isEmpty then 0 else 1) < 30)) = true := by rfl)
    (hline : (apos.endLine == cpos.line) = true := by rfl) (hs : starEach (e :: es) X.env = (false, eval e X.env) :: starEach es X.env := by rfl) (hplain : (backTo cpos (starEach es X.env)).any (·.1) = false := by rfl) :
    PE X (.Call (.Attribute o name apos) (e :: es) [] cpos) (tBM K T r to t) := by
  subst h
  exact pe_bm pa slot hty hm ho ha hbase hfew hline hs hplain
end Rf
set_option Elab.async false
set_option linter.all false
set_option maxRecDepth 100000
namespace Rf
open PySem PySem.Spec PyProof.Rows L2 Evl
/-! ### sums and slices of tuples, `in` over a tuple, or by truth -/
theorem op_catAK {X : Cx} {K : PySem.W.Frag} (h : X.K = K) : OpR X (binaryOp .Add) (rCatA K) := by subst h; exact op_catA
theorem sl_tupAK {X : Cx} {K : PySem.W.Frag} (h : X.K = K) : SlR X (rSlA K) := by subst h; exact sl_tupA
section
variable {K : PySem.W.Frag} {Φ : D → Prop}
theorem rd_catA {xs ys : List D} (hl : xs.length + ys.length ≤ 100000) (q : Φ (.tuple (xs ++ ys))) : RD K (rCatA K) (.tuple xs) (.tuple ys) Φ := fun S H v w e d1 d2 Q k => by
  cases d1 with
  | @tup a us _ ha da =>
    cases d2 with
    | @tup b ws _ hb db =>
      have l1 := dpa_len da
      have l2 := dpa_len db
      refine ⟨a, b, us, ws, rfl, rfl, ex_tp e ha, ex_tp e hb, line_of (by omega), fun hx => ?_, fun hx hy => ?_, fun hx hy p hp => ?_⟩
      · subst hx
        have : xs = [] := List.length_eq_zero_iff.mp (by simpa using l1.symm)
        subst this
        exact k _ _ S H (Step.refl e) (.tup hb db) q
      · subst hy
        have : ys = [] := List.length_eq_zero_iff.mp (by simpa using l2.symm)
        subst this
        rw [List.append_nil] at q
        exact k _ _ S H (Step.refl e) (.tup ha da) q
      · exact k _ _ _ _ (Step.new e hp) (dp_tup (ex_none e hp) (dpa_app da db)) q
end
/-- the items of xs[lo:hi] -/
def cutD (ds : List D) (lo hi : Option Int) : List D := (ds.drop (HT.sIx ds.length 0 lo)).take (HT.sIx ds.length ds.length hi - HT.sIx ds.length 0 lo)
theorem dpa_drop {K : PySem.W.Frag} {S : Hp} : ∀ (n : Nat) {vs : List V} {ds : List D}, DpAll K S vs ds → DpAll K S (vs.drop n) (ds.drop n)
  | 0, _, _, h => h
  | _ + 1, _, _, .nil => .nil
  | n + 1, _, _, .cons _ t => dpa_drop n t
theorem dpa_take {K : PySem.W.Frag} {S : Hp} : ∀ (n : Nat) {vs : List V} {ds : List D}, DpAll K S vs ds → DpAll K S (vs.take n) (ds.take n)
  | 0, _, _, _ => .nil
  | _ + 1, _, _, .nil => .nil
  | n + 1, _, _, .cons h t => .cons h (dpa_take n t)
def WP (K : PySem.W.Frag) (C : Fm) (to : TO) (env : En) (Φ : Option Int → Prop) : Prop := ∀ S σ H, Rep K C S env σ H → ∀ Q : Option Int → Hp → Prop, (∀ i S' H', Stp K C S H S' H' → Φ i → Q i H') → to σ H Q
section
variable {K : PySem.W.Frag} {C : Fm} {env : En} {te ta tb : TE} {tl th : TO} {Φ : D → Prop}
theorem wp_none {Φ : Option Int → Prop} (h : Φ none) : WP K C tNoPart env Φ := fun S σ H p Q k => k none S H (Stp.refl p.base) h
theorem wp_some {Φ : Option Int → Prop} (h : WE K C te env fun d => ∃ i, d = .int i ∧ Φ (some i)) : WP K C (tPart te) env Φ := fun S σ H p Q k =>
  h S σ H p _ fun d v S1 H1 s1 d1 ⟨i, e, q⟩ => by
    subst e
    cases d1
    exact ⟨i, rfl, k _ S1 H1 s1 q⟩
/-- t[lo:hi] of a tuple -/
theorem we_slA (h : WE K C te env fun d => ∃ ds, d = .tuple ds ∧ WP K C tl env fun lo => WP K C th env fun hi => Φ (.tuple (cutD ds lo hi))) : WE K C (tSl (rSlA K) te tl th) env Φ := fun S σ H p Q k =>
  h S σ H p _ fun d v S1 H1 s1 d1 ⟨ds, e, h1⟩ => by
    subst e
    have p1 := p.step s1
    refine h1 S1 σ H1 p1 _ fun lo S2 H2 s2 h2 => ?_
    have p2 := p1.step s2
    refine h2 S2 σ H2 p2 _ fun hi S3 H3 s3 q => ?_
    have st := (s1.trans s2).trans s3
    have d3 := dp_mono (s2.s.trans s3.s) _ _ d1
    cases d3 with
    | @tup a xs _ ha da =>
      have hl := dpa_len da
      have dc : DpAll K S3 (cutV xs lo hi) (cutD ds lo hi) := by
        unfold cutV cutD
        rw [hl]
        exact dpa_take _ (dpa_drop _ da)
      refine ⟨a, xs, rfl, ex_tp s3.k ha, fun hw => ?_, fun hw q2 hp => ?_⟩
      · have e : cutD ds lo hi = ds := by
          unfold cutD
          rw [← hl, hw.1, hw.2, List.drop_zero, Nat.sub_zero, hl, List.take_length]
        have q : Φ (.tuple (cutD ds lo hi)) := q
        rw [e] at q
        exact k _ _ S3 H3 st (.tup ha da) q
      · exact k _ _ _ _ (st.trans ((Step.new s3.k hp).stp (p2.step s3).base)) (dp_tup (ex_none s3.k hp) dc) q
/-- a or b, by truth: None, a bool, an int, a tuple -/
def truD : D → Bool
  | .none => false
  | .bool b => b
  | .int i => i != 0
  | .tuple ds => !ds.isEmpty
  | .list ds => !ds.isEmpty
  | _ => true
theorem tru_v {S H : Hp} {v : V} {d : D} (e : Ex S H) (h : Dp K S v d) (ns : (∀ x, d ≠ .str x) ∧ d ≠ .dict []) : TruV K v H (truD d) := by
  cases h with
  | dct _ => exact absurd rfl ns.2
  | non => rfl
  | bl b => rfl
  | int i => rfl
  | str x => exact absurd rfl (ns.1 x)
  | @lst a xs ds hs ha =>
    refine .inl ⟨xs, ex_l e hs, ?_⟩
    cases ha <;> rfl
  | @tup a xs ds hs ha =>
    refine .inr (.inl ⟨xs, ex_tp e hs, ?_⟩)
    cases ha <;> rfl
theorem we_orT (h : WE K C ta env fun d => ((∀ x, d ≠ .str x) ∧ d ≠ .dict []) ∧ (truD d = true → Φ d) ∧ (truD d = false → WE K C tb env Φ)) : WE K C (tOrT K ta tb) env Φ := fun S σ H p Q k =>
  h S σ H p _ fun d v S1 H1 s1 d1 ⟨hs, h1, h2⟩ => by
    refine ⟨truD d, tru_v s1.k d1 hs, ?_⟩
    cases e : truD d with
    | true =>
      show Q v H1
      exact k d v S1 H1 s1 d1 (h1 e)
    | false =>
      show tb σ H1 Q
      exact h2 e S1 σ H1 (p.step s1) Q fun d v S2 H2 s2 => k d v S2 H2 (s1.trans s2)
end
def rInTD (K : PySem.W.Frag) : R2 := fun x y H Q => ∃ d ds, L2.Dp K H x d ∧ L2.Dp K H y (.tuple ds) ∧ SeqAt.shaped d = true ∧ SeqAt.shaped (.list ds) = true ∧ Q (.bl (ds.any fun z => PyData.eqv z d)) H
theorem op_inTD {X : Cx} (hu : X.A.units + 65 < cLine) : OpR X (compareOp .In) (rInTD X.K) := by
  intro pins s σ H x y v u Q I rx ry h
  obtain ⟨d, ds, hd, he, sd, se, q⟩ := h
  obtain ⟨as, r1⟩ := Dp.reads I d x v hd rx
  obtain ⟨bs, r2⟩ := Dp.reads I (.tuple ds) y u he ry
  exact SeqAt.in_tuple_reads r2 r1 (SeqAt.canLay_of_shaped se) (SeqAt.canLay_of_shaped sd) (room_in_shaped sd hu) ⟨.bl _, H, I, rfl, q⟩
theorem op_inTDK {X : Cx} {K : PySem.W.Frag} (h : X.K = K) (hu : X.A.units + 65 < cLine) : OpR X (compareOp .In) (rInTD K) := by subst h; exact op_inTD hu
theorem rd_inT {K : PySem.W.Frag} {Φ : D → Prop} {x : D} {ys : List D} (s1 : SeqAt.shaped x = true) (s2 : SeqAt.shaped (.list ys) = true) (q : Φ (.bool (ys.any fun z => PyData.eqv z x))) : RD K (rInTD K) x (.tuple ys) Φ := fun S H v w e d1 d2 Q k =>
  ⟨x, ys, (dp_mono e x v d1).old (SeqAt.canLay_of_shaped s1), (dp_mono e _ w d2).old (SeqAt.canLay_of_shaped s2), s1, s2, k _ _ S H (Step.refl e) (.bl _) q⟩
theorem pe_orTK {X : Cx} {K : PySem.W.Frag} {a b : Expr} {ta tb : TE} {rest : List Expr} {pos : Pos} (h : X.K = K) (ha : PE X a ta) (hb : PE X (.BoolOp .Or (b :: rest) pos) tb) : PE X (.BoolOp .Or (a :: b :: rest) pos) (tOrT K ta tb) := by
  subst h
  exact pe_orT ha hb
section
variable {K : PySem.W.Frag} {C : Fm} {env : En} {ta : TA} {Φ : List D → Prop}
theorem wi_rng2 (h : WA K C ta env fun ds => ∃ i j : Int, ds = [.int i, .int j] ∧ (0 ≤ i ∧ i ≤ 1000000 ∧ -1000000 ≤ j ∧ j ≤ 1000000) ∧ Φ (rngD i (j - i).toNat)) : WI K C (iRng2 ta) env Φ := fun S σ H p R k =>
  h S σ H p _ fun es vs S1 H1 s1 d1 ⟨i, j, e, hb, q⟩ => by
    subst e
    cases d1 with
    | cons d1 t1 =>
      cases t1 with
      | cons d2 t2 =>
        cases t2; cases d1; cases d2
        refine ⟨i, j, rfl, by omega, k (rngD i (j - i).toNat) _ S1 H1 s1 ?_ q⟩
        rw [rngD_len]
        exact (walk_range (lo := i) (n := (j - i).toNat)).mono (fun _ _ => trivial) fun i H2 x H3 hi e y S2 e1 e2 => by
          obtain ⟨rfl, rfl⟩ := y
          exact ⟨S2, _, rngD_at hi, Step.refl e2, .int _⟩
theorem rngD_inv {lo : Int} {n i : Nat} {d : D} (h : (rngD lo n)[i]? = some d) : i < n ∧ d = .int (lo + (i : Int)) := by
  have hi : i < n := by
    have := (List.getElem?_eq_some_iff.mp h).1
    rwa [rngD_len] at this
  rw [rngD_at hi] at h
  exact ⟨hi, (Option.some.inj h).symm⟩
/-- the first pair of indexes, by the first index, then by the second one -/
def LexF (P : Nat → Nat → Prop) (i j : Nat) : Prop := P i j ∧ (∀ i' j', i' < i → ¬ P i' j') ∧ ∀ j', j' < j → ¬ P i j'
theorem LexF.one {P : Nat → Nat → Prop} {i j i' j' : Nat} (h : LexF P i j) (g : LexF P i' j') : i = i' ∧ j = j' := by
  have e : i = i' := by
    rcases Nat.lt_trichotomy i i' with c | c | c
    · exact absurd h.1 (g.2.1 i j c)
    · exact c
    · exact absurd g.1 (h.2.1 i' j' c)
  subst e
  refine ⟨rfl, ?_⟩
  rcases Nat.lt_trichotomy j j' with c | c | c
  · exact absurd h.1 (g.2.2 j c)
  · exact c
  · exact absurd g.1 (h.2.2 j' c)
end
section
variable {K : PySem.W.Frag} {C : Fm} {env : En} {Φ : D → Prop}
/-- {}, as data -/
theorem we_dnew (h : Φ (.dict [])) : WE K C tDNewT env Φ := fun S σ H p Q k => fun l hl =>
  k _ _ _ _ ((Step.new p.base.ex hl).stp p.base) (.dct (by exact upd_same)) h
end
end Rf
set_option Elab.async false
set_option linter.all false
set_option maxRecDepth 100000
namespace Rf
open PySem PySem.Spec PyProof.Rows L2 Evl
/-! ### t[::-1] of a tuple: it goes the way of the library's rule for t[lo:hi] (HT.getItem_tuple_cut), with the step of -1 -/
section
variable {prog : Program} {w : World} {A : Around} {E : Value → Shared → Prop} {s : Shared}
theorem adj_rev (n : Nat) : Builtin.Slice.sliceAdjust none none (-1) (n : Int) = ((n : Int) - 1, -1) := by
  unfold Builtin.Slice.sliceAdjust
  simp
theorem plc_rev (n : Nat) : Builtin.Slice.slicePlaces ((n : Int) - 1) (-1) (-1) = n := by
  unfold Builtin.Slice.slicePlaces
  simp
  try omega
theorem fm_congr {α β : Type} {f g : α → Option β} : ∀ {l : List α}, (∀ x ∈ l, f x = g x) → l.filterMap f = l.filterMap g
  | [], _ => rfl
  | a :: l, h => by rw [List.filterMap_cons, List.filterMap_cons, h a List.mem_cons_self, fm_congr fun x hx => h x (List.mem_cons_of_mem _ hx)]
theorem pick_rev (xs : Array Value) : ((List.range xs.size).filterMap fun (m : Nat) => xs[(((xs.size : Int) - 1) + (m : Int) * (-1)).toNat]?) = xs.toList.reverse := by
  have e : ((List.range xs.size).map fun k => xs.size - 1 - k).filterMap (xs[·]?) = xs.toList.reverse := by
    rw [PySem.W.krv_range, List.filterMap_reverse, PySem.W.krv_all]
  rw [List.filterMap_map] at e
  rw [← e]
  apply fm_congr
  intro m hm
  have := List.mem_range.mp hm
  show xs[_]? = xs[xs.size - 1 - m]?
  congr 1
  omega
theorem sliceApplied_rev {sl : Addr} {vk : Value} {n : Nat} {Q : Int × Int × Nat → Shared → Prop} (hs : s.heap.IsSliceOf sl .none .none vk) (pk : IsPart vk (some (-1)))
    (h : Q ((n : Int) - 1, -1, n) s) : wpAny (model prog w) A (Builtin.Slice.sliceApplied (.ref sl) (pure (n : Int))) Q E s := by
  obtain ⟨os, hos, hcs, hds⟩ := id hs
  unfold Builtin.Slice.sliceApplied Builtin.Slice.sliceFields
  refine wpAny_bind (wpAny_bind (wpAny_field hos hds (x := .none) rfl (wpAny_bind (wpAny_field hos hds (x := .none) rfl (wpAny_bind (wpAny_field hos hds (x := vk) rfl (wpAny_pure ?_)))))))
  refine wpAny_bind (HT.slicePart_ pk ?_)
  show wpAny _ _ (if ((-1 : Int) == 0) = true then _ else _) _ _ s
  rw [if_neg (by decide)]
  refine wpAny_bind (HT.slicePart_ .none (wpAny_bind (HT.slicePart_ .none (wpAny_bind (wpAny_pure ?_)))))
  show wpAny _ _ (match Builtin.Slice.sliceAdjust none none (-1) (n : Int) with | (lo, hi) => pure (lo, (-1 : Int), Builtin.Slice.slicePlaces lo hi (-1))) _ _ s
  rw [adj_rev]
  show wpAny _ _ (pure ((n : Int) - 1, (-1 : Int), Builtin.Slice.slicePlaces ((n : Int) - 1) (-1) (-1))) _ _ s
  rw [plc_rev]
  exact wpAny_pure h
theorem getItem_rev {t sl : Addr} {items : Array Value} {vk : Value} {Q : Value → Shared → Prop} (ht : IsTup s.heap t items) (hs : s.heap.IsSliceOf sl .none .none vk) (pk : IsPart vk (some (-1)))
    (h : Q (.ref s.heap.objs.size) { s with heap := s.heap.push { cls := .type "tuple", data := .seq items.toList.reverse.toArray } })
    (hsz : items.size ≤ sizeLine) : wpAny (model prog w) A (getItem (.ref t) (.ref sl)) Q E s := by
  have htake : sizeOk (.seq items.toList.reverse.toArray) := by
    show items.toList.reverse.toArray.size ≤ sizeLine
    rw [List.size_toArray, List.length_reverse, Array.length_toList]
    exact hsz
  obtain ⟨os, hos, hcs, hds⟩ := id hs
  have hTs : s.TypeIs (.ref sl) "slice" := ⟨os, hos, hcs⟩
  unfold getItem
  try with_reducible refine wpAny_holding ?_
  first | refine wpAny_bind (wpAny_pure ?_) | skip
  refine wpAny_bind (wpAny_sequenceKey ht.typeIs (by decide) ?_)
  refine wpAny_bind (wpAny_callSpecial?_slot (name := Str.ofString "__getitem__") ht.typeIs PyProof.Rows.slot_tuple_getitem
    (wpAny_call_entry PyProof.Rows.slot_tuple_getitem ht.typeIs entry_tuple_getitem ?_ (args_tuple_getitem _ _)))
  show wpAny _ _ (Builtin.Tuple.tupleItemsOf (.ref t) >>= _) _ _ s
  refine wpAny_bind (tupleItemsOf_ ht ?_)
  refine wpAny_bind (wpAny_typeOf hTs ?_)
  rw [if_pos (by decide)]
  refine wpAny_bind (sliceApplied_rev hs pk ?_)
  have hno : ¬ ((((items.size : Int) - 1) == 0 && (-1 : Int) == 1 && items.size == items.size) = true) := by
    intro q
    rw [Bool.and_eq_true, Bool.and_eq_true] at q
    exact absurd q.1.2 (by decide)
  show wpAny _ _ (if (((items.size : Int) - 1) == 0 && (-1 : Int) == 1 && items.size == items.size) = true then _ else _) _ _ s
  rw [if_neg hno, pick_rev]
  first
    | exact wpAny_bind (m := Builtin.Tuple.tupleExact _) (wpAny_newObj_type (wpAny_pure ⟨_, rfl, wpAny_pure h⟩) htake)
    | exact wpAny_bind (m := Builtin.Tuple.tupleExact _) (wpAny_newObj_type (wpAny_bind (wpAny_pure (wpAny_pure ⟨_, rfl, wpAny_pure h⟩))) htake)
    | exact wpAny_bind (wpAny_bind (m := Builtin.Tuple.tupleExact _) (wpAny_newObj_type (wpAny_pure (wpAny_pure ⟨_, rfl, wpAny_pure h⟩)) htake))
    | exact wpAny_bind (wpAny_bind (m := Builtin.Tuple.tupleExact _) (wpAny_newObj_type (wpAny_pure ⟨_, rfl, wpAny_pure h⟩) htake))
end
section
variable {X : Cx} {e k : Expr} {te tk : TE} {pos p2 : Pos}
/-- t[::k], k gives -1 -/
def tRevT (K : PySem.W.Frag) (te tk : TE) : TE := fun σ H Q => te σ H fun x H1 => tk σ H1 fun y H2 => ∃ a xs, x = .ref a ∧ y = .int (-1) ∧ SqT K H2 a xs ∧ ∀ p, H2 p = none → Q (.ref p) (upd H2 p (.tup xs.reverse))
theorem pe_revT (he : PE X e te) (hk : PE X k tk) : PE X (.Subscript e (.Slice none none (some k) p2) pos) (tRevT X.K te tk) := by
  refine ⟨fun pins s σ H Q I h => ?_⟩
  refine Subscript_ (thn (he.run pins s σ H _ I h) fun v s1 ⟨x, H1, I1, r1, q1⟩ => ?_)
  refine wpAny_Slice ?_
  rw [evalPart_none]
  refine wpAny_pure ?_
  refine wpAny_pure ?_
  rw [evalPart_some]
  refine thn (hk.run pins s1 σ H1 _ I1 q1) fun vk s2 ⟨y, H2, I2, r2, q2⟩ => ?_
  obtain ⟨a, xs, rfl, rfl, hx, q⟩ := q2
  obtain ⟨tk', rfl⟩ := r2
  have I4 : Inv X pins σ H2 { s2 with heap := s2.heap.push { cls := .type "slice", data := .fields #[.none, .none, .int (-1) tk'] } } := I2.kept (t' := s2.toks) fun b ob q => Heap.get?_push_of_some _ q
  cases r1
  obtain ⟨its, r, ht, hz⟩ := I4.tuple hx
  have hlen : its.toArray.size = xs.length := by rw [List.size_toArray]; exact r.length.symm
  refine tail_any (ops := [.ref a, .ref s2.heap.objs.size]) ht.typeIs PyProof.Rows.slot_tuple_getitem.lookup ?_ (by with_unfolding_all rfl)
  refine getItem_rev ht (Heap.IsSliceOf.new ..) (.int _ _) ?_ (by rw [hlen]; exact hz)
  refine ⟨.ref _, _, I4.laid (t' := s2.toks) (o := .tup xs.reverse) (fun b ob q => Heap.get?_push_of_some _ q) (Nat.le_refl _) ?_, rfl, q _ (I4.hok.fresh (Nat.le_refl _))⟩
  exact ⟨by rw [List.length_reverse]; exact hz, _, r.reverse, IsTup.new _ _⟩
end
theorem pe_revTK {X : Cx} {K : PySem.W.Frag} {e k : Expr} {te tk : TE} {pos p2 : Pos} (h : X.K = K) (he : PE X e te) (hk : PE X k tk) : PE X (.Subscript e (.Slice none none (some k) p2) pos) (tRevT K te tk) := by
  subst h
  exact pe_revT he hk
section
variable {K : PySem.W.Frag} {C : Fm} {env : En} {te tk : TE} {Φ : D → Prop}
theorem dpa_rev {K : PySem.W.Frag} {S : Hp} : ∀ {vs : List V} {ds : List D}, DpAll K S vs ds → DpAll K S vs.reverse ds.reverse
  | _, _, .nil => .nil
  | _, _, .cons h t => by
    rw [List.reverse_cons, List.reverse_cons]
    exact dpa_app (dpa_rev t) (.cons h .nil)
/-- t[::-1] of a tuple -/
theorem we_revT (h : WE K C te env fun d => ∃ ds, d = .tuple ds ∧ WE K C tk env fun k => k = .int (-1) ∧ Φ (.tuple ds.reverse)) : WE K C (tRevT K te tk) env Φ := fun S σ H p Q k =>
  h S σ H p _ fun d v S1 H1 s1 d1 ⟨ds, e, h1⟩ => by
    subst e
    have p1 := p.step s1
    refine h1 S1 σ H1 p1 _ fun d2 v2 S2 H2 s2 d3 ⟨e2, q⟩ => ?_
    subst e2
    have st := s1.trans s2
    have d4 := dp_mono s2.s _ _ d1
    cases d3
    cases d4 with
    | @tup a xs _ ha da =>
      refine ⟨a, xs, rfl, rfl, ex_tp s2.k ha, fun l hl => ?_⟩
      exact k _ _ _ _ (st.trans ((Step.new s2.k hl).stp (p1.step s2).base)) (dp_tup (ex_none s2.k hl) (dpa_rev da)) q
end
end Rf
set_option Elab.async false
set_option linter.all false
set_option maxRecDepth 100000
namespace Rf
open PySem PySem.Spec PyProof.Rows L2 Evl
section
variable {K : PySem.W.Frag} {Φ : D → Prop}
/-- list(..) of a list or a tuple -/
theorem cd_listof {ds : List D} {x : D} (hx : x = .list ds ∨ x = .tuple ds) (q : Φ (.list ds)) : CD K (fun xs H Q => ∃ p ys, xs = [.ref p] ∧ (SqL K H p ys ∨ SqT K H p ys) ∧ ∀ l, H l = none → Q (.ref l) (upd H l (.lst ys))) [x] Φ := fun S H vs e a Q k => by
  cases a with
  | cons h t =>
    cases t
    rcases hx with rfl | rfl
    · cases h with
      | lst hs ha => exact ⟨_, _, rfl, .inl (ex_l e hs), fun l hl => k _ _ _ _ (Step.new e hl) (dp_lst (ex_none e hl) ha) q⟩
    · cases h with
      | tup hs ha => exact ⟨_, _, rfl, .inr (ex_tp (K := K) e hs), fun l hl => k _ _ _ _ (Step.new e hl) (dp_lst (ex_none e hl) ha) q⟩
end
end Rf
set_option Elab.async false
set_option linter.all false
set_option maxRecDepth 100000
/-! ### the choices of r numbers of lo, .., lo + n - 1, in order -/
namespace Cm
def cmbs : Nat → Nat → Nat → List (List Nat)
  | _, _, 0 => [[]]
  | _, 0, _ + 1 => []
  | lo, n + 1, r + 1 => (cmbs (lo + 1) n r).map (lo :: ·) ++ cmbs (lo + 1) n (r + 1)
/-- the next choice, of numbers below m -/
def nxt (m : Nat) : List Nat → Option (List Nat)
  | [] => none
  | x :: t => match nxt m t with
    | some t' => some (x :: t')
    | none => if x + (t.length + 1) = m then none else some (List.range' (x + 1) (t.length + 1))
theorem cmbs_len : ∀ {lo n r : Nat} {c : List Nat}, c ∈ cmbs lo n r → c.length = r
  | _, _, 0, c, h => by
    simp only [cmbs, List.mem_singleton] at h
    rw [h]
    rfl
  | _, 0, _ + 1, _, h => nomatch h
  | lo, n + 1, r + 1, c, h => by
    simp only [cmbs, List.mem_append, List.mem_map] at h
    rcases h with ⟨t, h, rfl⟩ | h
    · rw [List.length_cons, cmbs_len h]
    · exact cmbs_len h
theorem cmbs_head : ∀ {lo n r : Nat}, r ≤ n → (cmbs lo n r)[0]? = some (List.range' lo r)
  | _, _, 0, _ => by simp only [cmbs]; rfl
  | _, 0, _ + 1, h => absurd h (by omega)
  | lo, n + 1, r + 1, h => by
    have ih := cmbs_head (lo := lo + 1) (n := n) (r := r) (by omega)
    have hl : 0 < (cmbs (lo + 1) n r).length := by
      cases e : cmbs (lo + 1) n r with
      | nil => rw [e] at ih; cases ih
      | cons _ _ => simp
    simp only [cmbs]
    rw [List.getElem?_append_left (by rw [List.length_map]; exact hl), List.getElem?_map, ih]
    rfl
theorem cmbs_nil : ∀ {lo n r : Nat}, n < r → cmbs lo n r = []
  | _, _, 0, h => absurd h (by omega)
  | _, 0, _ + 1, _ => rfl
  | lo, n + 1, r + 1, h => by
    simp only [cmbs, cmbs_nil (lo := lo + 1) (n := n) (r := r) (by omega), cmbs_nil (lo := lo + 1) (n := n) (r := r + 1) (by omega), List.map_nil, List.append_nil]
/-- all but the first number are above lo: the last choice is followed by none -/
theorem cmbs_next : ∀ {lo n r i : Nat} {c : List Nat}, (cmbs lo n r)[i]? = some c → nxt (lo + n) c = (cmbs lo n r)[i + 1]?
  | _, _, 0, i, c, h => by
    simp only [cmbs] at h ⊢
    cases i with
    | zero => cases h; rfl
    | succ i => cases h
  | _, 0, _ + 1, i, c, h => by simp [cmbs] at h
  | lo, n + 1, r + 1, i, c, h => by
    simp only [cmbs] at h ⊢
    have hm : lo + (n + 1) = lo + 1 + n := by omega
    by_cases hi : i < (cmbs (lo + 1) n r).length
    · rw [List.getElem?_append_left (by rw [List.length_map]; exact hi), List.getElem?_map] at h
      cases e : (cmbs (lo + 1) n r)[i]? with
      | none => rw [e] at h; cases h
      | some t =>
        rw [e] at h
        cases h
        have ih := cmbs_next e
        have tl := cmbs_len (List.mem_of_getElem? e)
        show nxt (lo + (n + 1)) (lo :: t) = _
        unfold nxt
        rw [hm, ih]
        by_cases hi2 : i + 1 < (cmbs (lo + 1) n r).length
        · rw [List.getElem?_append_left (by rw [List.length_map]; exact hi2), List.getElem?_map, List.getElem?_eq_getElem hi2]
          rfl
        · have hl : i + 1 = (cmbs (lo + 1) n r).length := by omega
          rw [List.getElem?_eq_none (by omega), List.getElem?_append_right (by rw [List.length_map]; omega), List.length_map, hl, Nat.sub_self]
          simp only
          by_cases hr : r + 1 ≤ n
          · rw [cmbs_head hr, if_neg (by omega), tl]
          · rw [cmbs_nil (by omega)]
            have : r = n := by
              refine Nat.le_antisymm ?_ (by omega)
              rcases Nat.lt_or_ge n r with q | q
              · rw [cmbs_nil q] at hi; exact absurd hi (Nat.not_lt_zero _)
              · exact q
            rw [if_pos (by omega)]
            rfl
    · rw [List.getElem?_append_right (by rw [List.length_map]; omega), List.length_map] at h
      rw [List.getElem?_append_right (by rw [List.length_map]; omega), List.length_map, hm, cmbs_next h]
      congr 1
      omega
/-- .. told by its last number that can grow -/
theorem nxt_find {n : Nat} : ∀ {c : List Nat} {k : Nat}, c.length + k = k + c.length → ∀ (hk : k + c.length ≤ n + k),
    (match (List.range c.length).reverse.find? (fun j => !(c.getD j 0 == j + n - c.length)) with
      | none => none
      | some j => some (c.take j ++ (List.range (c.length - j)).map (fun q => c.getD j 0 + 1 + q))) = nxt n c
  | [], _, _, _ => rfl
  | x :: t, k, _, hk => by
    have hk : (x :: t).length ≤ n := by omega
    have hk' : t.length ≤ n := by rw [List.length_cons] at hk; omega
    have ih := nxt_find (n := n) (c := t) (k := 0) (by omega) (by omega)
    rw [List.length_cons] at hk ⊢
    rw [List.range_succ_eq_map, List.reverse_cons, ← List.map_reverse, List.find?_append, List.find?_map]
    have hf : ((fun j => !((x :: t).getD j 0 == j + n - (t.length + 1))) ∘ Nat.succ) = fun j => !(t.getD j 0 == j + n - t.length) := by
      funext j
      show (!(t.getD j 0 == j + 1 + n - (t.length + 1))) = _
      rw [show j + 1 + n - (t.length + 1) = j + n - t.length by omega]
    rw [hf]
    unfold nxt
    rw [← ih]
    cases hj : (List.range t.length).reverse.find? (fun j => !(t.getD j 0 == j + n - t.length)) with
    | some j =>
      have hlt : j < t.length := by
        have := List.mem_of_find?_eq_some hj
        simpa using this
      simp only [Option.map_some, Option.some_or]
      show some (x :: t.take j ++ (List.range (t.length + 1 - (j + 1))).map fun q => t.getD j 0 + 1 + q) = _
      rw [show t.length + 1 - (j + 1) = t.length - j by omega]
      rfl
    | none =>
      simp only [Option.map_none, Option.none_or]
      by_cases hx : x + (t.length + 1) = n
      · rw [if_pos hx]
        have : List.find? (fun j => !((x :: t).getD j 0 == j + n - (t.length + 1))) [0] = none := by
          have : x = 0 + n - (t.length + 1) := by omega
          simp [this]
        rw [this]
      · rw [if_neg hx]
        have : List.find? (fun j => !((x :: t).getD j 0 == j + n - (t.length + 1))) [0] = some 0 := by
          have : ¬ x = 0 + n - (t.length + 1) := by omega
          simp [this]
          omega
        rw [this]
        simp only [List.take_zero, List.nil_append, Nat.sub_zero]
        congr 1
        rw [List.range'_eq_map_range]
        rfl
theorem mem_ge : ∀ {lo n r : Nat} {c : List Nat}, c ∈ cmbs lo n r → ∀ x ∈ c, lo ≤ x ∧ x < lo + n
  | _, _, 0, c, h, x, hx => by
    simp only [cmbs, List.mem_singleton] at h
    rw [h] at hx
    cases hx
  | _, 0, _ + 1, _, h, _, _ => nomatch h
  | lo, n + 1, r + 1, c, h, x, hx => by
    simp only [cmbs, List.mem_append, List.mem_map] at h
    rcases h with ⟨t, h, rfl⟩ | h
    · rcases List.mem_cons.mp hx with rfl | hx
      · omega
      · have := mem_ge h x hx
        omega
    · have := mem_ge h x hx
      omega
end Cm
set_option Elab.async false
set_option linter.all false
set_option maxRecDepth 100000
/-! ### itertools.combinations, at the library's level -/
namespace Cm
open PySem PySem.Spec
open Sem (wp)
theorem mro_c : mroOf (.type "itertools.combinations") = pure [.type "itertools.combinations", .type "object"] := by rw [mroOf_type]; kernel_rfl
theorem look_c : typeLookup (.type "itertools.combinations") "__new__" = pure (some (.builtin "itertools.combinations.__new__")) := by rw [typeLookup_type, builtinLookup_eq_fast]; kernel_rfl
theorem slot_c_init : Slot "itertools.combinations" "__init__" "object.__init__" :=
  .of (owner := "object") (n := "__init__") (by rw [typeLookup_type, builtinLookup_eq_fast]; kernel_rfl) (by decide +kernel) (by decide +kernel) (by decide +kernel)
    (by first | exact .inl (by decide +kernel) | exact .inr (by decide +kernel)) (by rw [isSubtype_type]; kernel_rfl)
theorem sub_c : isSubtype (.type "itertools.combinations") (.type "itertools.combinations") = pure true := by rw [isSubtype_type]; kernel_rfl
theorem called_c : TypeCalled "itertools.combinations" "itertools.combinations.__new__" "object.__init__" :=
  ⟨by decide +kernel, by decide +kernel, ⟨_, _, mro_c⟩, madeBy_type mro_c look_c (by decide +kernel), by decide +kernel, sub_c, slot_c_init⟩
theorem typeCall_c (a b : Value) : checkTypeCall "itertools.combinations" ⟨[a, b], []⟩ = pure () := by kernel_rfl
theorem newCall_c (a b : Value) : checkBuiltinCall "itertools.combinations.__new__" ⟨[.type "itertools.combinations", a, b], []⟩ = pure () := by kernel_rfl
theorem entry_c_new : entryFor table "itertools.combinations.__new__" = some Builtin.«itertools.combinations.__new__» := entryFor_of_tree (by kernel_rfl)
theorem slot_c_iter : Slot "itertools.combinations" "__iter__" "itertools.combinations.__iter__" :=
  .of (owner := "itertools.combinations") (n := "__iter__") (by rw [typeLookup_type, builtinLookup_eq_fast]; kernel_rfl) (by decide +kernel) (by decide +kernel) (by decide +kernel)
    (by first | exact .inl (by decide +kernel) | exact .inr (by decide +kernel)) sub_c
theorem slot_c_next : Slot "itertools.combinations" "__next__" "itertools.combinations.__next__" :=
  .of (owner := "itertools.combinations") (n := "__next__") (by rw [typeLookup_type, builtinLookup_eq_fast]; kernel_rfl) (by decide +kernel) (by decide +kernel) (by decide +kernel)
    (by first | exact .inl (by decide +kernel) | exact .inr (by decide +kernel)) sub_c
theorem entry_c_iter : entryFor table "itertools.combinations.__iter__" = some Builtin.«dict_keyiterator.__iter__» :=
  entryFor_alias (id' := "dict_keyiterator.__iter__") (by kernel_rfl) (by first | rfl | decide +kernel | (unfold String.splitOn; simp +decide [String.splitOnAux])) (by decide +kernel) (by kernel_rfl)
theorem entry_c_next : entryFor table "itertools.combinations.__next__" = some Builtin.«itertools.combinations.__next__» := entryFor_of_tree (by kernel_rfl)
theorem owner_c : Manifest.owners.lookup (String.ofList ['s', 'n', 'o', 'i', 't', 'a', 'n', 'i', 'b', 'm', 'o', 'c', '.', 's', 'l', 'o', 'o', 't', 'r', 'e', 't', 'i'].reverse) = some Manifest.sig_itertools_combinations := by kernel_rfl
theorem args_c_iter (a : Value) : argsOk "itertools.combinations.__iter__" ⟨[a], []⟩ := by
  unfold argsOk; rw [signature?_of (id := "itertools.combinations.__iter__") (n := ['_', '_', 'r', 'e', 't', 'i', '_', '_']) (o := ['s', 'n', 'o', 'i', 't', 'a', 'n', 'i', 'b', 'm', 'o', 'c', '.', 's', 'l', 'o', 'o', 't', 'r', 'e', 't', 'i']) (by kernel_rfl) owner_c]; kernel_rfl
theorem args_c_next (a : Value) : argsOk "itertools.combinations.__next__" ⟨[a], []⟩ := by
  unfold argsOk; rw [signature?_of (id := "itertools.combinations.__next__") (n := ['_', '_', 't', 'x', 'e', 'n', '_', '_']) (o := ['s', 'n', 'o', 'i', 't', 'a', 'n', 'i', 'b', 'm', 'o', 'c', '.', 's', 'l', 'o', 'o', 't', 'r', 'e', 't', 'i']) (by kernel_rfl) owner_c]; kernel_rfl
theorem noDict_c : typeHasDict (.type "itertools.combinations") = false := by decide +kernel
end Cm
set_option Elab.async false
set_option linter.all false
set_option maxRecDepth 100000
namespace Cm
open PySem PySem.Spec
open Sem (wp)
/-- what stands in it -/
abbrev rec_ (pool : Addr) (st : Int) (res : Value) (idx : List Nat) : Obj := { cls := .type "itertools.combinations", dict := none, data := .fields (.ref pool :: .int st 0 :: res :: idx.map fun k : Nat => Value.int (k : Int) 0).toArray, slots := #[] }
abbrev pool_ (its : List Value) : Obj := { cls := .type "tuple", data := .seq its.toArray }
/-- ahead of its turn i -/
def At (h : Heap) (c pool : Addr) (its : List Value) (r i : Nat) : Prop := c ≠ pool ∧ h.get? pool = some (pool_ its) ∧ ∃ st res idx, h.get? c = some (rec_ pool st res idx) ∧
  ((i = 0 ∧ st = (if r > its.length then 2 else 0) ∧ idx = List.range r) ∨ (0 < i ∧ st = 1 ∧ (cmbs 0 its.length r)[i - 1]? = some idx))
section
variable {prog : Program} {w : World} {A : Around} {E : Value → Shared → Prop} {s : Shared}
theorem iter_c {c pool : Addr} {its : List Value} {r i : Nat} {Q : Value → Shared → Prop} (hc : At s.heap c pool its r i) (h : Q (.ref c) s) : wpAny (model prog w) A (pyIter (.ref c)) Q E s := by
  obtain ⟨_, _, st, res, idx, hc, _⟩ := hc
  have hT : s.TypeIs (.ref c) "itertools.combinations" := ⟨_, hc, rfl⟩
  refine wpAny_pyIter_slot hT slot_c_iter (wpAny_call_entry slot_c_iter hT entry_c_iter ?_ (args_c_iter _))
  show wpAny _ _ (ret (.ref c)) _ _ s
  exact wpAny_pure ⟨_, rfl, "itertools.combinations", _, hT, slot_c_next.lookup, h⟩
theorem ext3 (a b d : Value) (l m : List Value) : (a :: b :: d :: l).toArray.extract 0 3 ++ m.toArray = (a :: b :: d :: m).toArray := by
  rw [List.extract_toArray, List.append_toArray]
  rfl
theorem num_map : ∀ (idx : List Nat), (idx.map fun k : Nat => Value.int (k : Int) 0).map (fun | .int n _ => n.toNat | _ => 0) = idx
  | [] => rfl
  | k :: t => by
    rw [List.map_cons, List.map_cons, num_map t]
    rfl
theorem item_c {c pool : Addr} {its : List Value} {r i : Nat} {idx : List Nat} {Q : Option Value → Shared → Prop} (hc : At s.heap c pool its r i) (hi : (cmbs 0 its.length r)[i]? = some idx) (hz : r ≤ sizeLine)
    (hQ : ∀ h', At h' c pool its r (i + 1) → h'.get? s.heap.objs.size = some (pool_ (idx.map fun k => its.toArray.getD k .none)) → (∀ b o, b ≠ c → s.heap.get? b = some o → h'.get? b = some o) → Q (some (.ref s.heap.objs.size)) { s with heap := h' }) :
    wpAny (model prog w) A (pyNext (.ref c)) Q E s := by
  obtain ⟨hne, hp, st, res, ix, hc, hs⟩ := hc
  have hT : s.TypeIs (.ref c) "itertools.combinations" := ⟨_, hc, rfl⟩
  unfold pyNext
  refine wpAny_bind (wpAny_attempt (wpAny_callSpecial?_slot (name := Str.ofString "__next__") hT slot_c_next
    (wpAny_call_entry slot_c_next hT entry_c_next ?_ (args_c_next _))))
  show wpAny _ _ (field (.ref c) 0 >>= _) _ _ s
  refine wpAny_bind (wpAny_field hc rfl (x := .ref pool) rfl ?_)
  show wpAny _ _ ((load c >>= _) >>= _) _ _ s
  refine wpAny_bind (wpAny_bind (wpAny_load hc ?_))
  show wpAny _ _ (pure ((ix.map fun k : Nat => Value.int (k : Int) 0).map (fun | .int n _ => n.toNat | _ => 0))) _ _ s
  rw [num_map ix]
  refine wpAny_pure ?_
  show wpAny _ _ ((field (.ref c) 1 >>= _) >>= _) _ _ s
  refine wpAny_bind (wpAny_bind (wpAny_field hc rfl (x := .int st 0) rfl (wpAny_pure ?_)))
  have hlen : idx.length ≤ sizeLine := by rw [cmbs_len (List.mem_of_getElem? hi)]; exact hz
  -- handing out
  rcases hs with ⟨rfl, rfl, rfl⟩ | ⟨i0, rfl, hix⟩
  · have hr : ¬ r > its.length := fun g => by rw [cmbs_nil g] at hi; cases hi
    rw [if_neg hr]
    have e0 : idx = List.range r := by
      rw [cmbs_head (by omega), ← List.range_eq_range'] at hi
      exact (Option.some.inj hi).symm
    subst e0
    refine wpAny_bind (wpAny_setField hc rfl (by simp) ?_)
    have hc1 : (s.heap.update c (Obj.mapFields fun x => x.setIfInBounds 1 (rawInt 1))).get? c = some (rec_ pool 1 res (List.range r)) := Heap.get?_update_self _ hc rfl
    have k1 : Heap.SameBut c s.heap (s.heap.update c (Obj.mapFields fun x => x.setIfInBounds 1 (rawInt 1))) := Heap.SameBut.update ..
    have hp1 := (k1.2 pool (Ne.symm hne)).trans hp
    have hsz : (s.heap.update c (Obj.mapFields fun x => x.setIfInBounds 1 (rawInt 1))).objs.size = s.heap.objs.size := by simp
    generalize s.heap.update c (Obj.mapFields fun x => x.setIfInBounds 1 (rawInt 1)) = h1 at hc1 k1 hp1 hsz ⊢
    show wpAny _ _ (((seqItems? (.ref pool) >>= _) >>= _) >>= _) _ _ _
    refine wpAny_bind (wpAny_bind (wpAny_bind (wpAny_seqItems hp1 rfl (wpAny_pure ?_))))
    refine wpAny_newTuple ?_ (by rw [List.length_map]; exact hlen)
    have lc : c < s.heap.objs.size := Heap.lt_size hc
    have sz : h1.objs.size = s.heap.objs.size := hsz
    rw [sz]
    have hc2 : (h1.push (pool_ ((List.range r).map fun k => its.toArray.getD k .none))).get? c = some (rec_ pool 1 res (List.range r)) := Heap.get?_push_of_some _ hc1
    have hp2 : (h1.push (pool_ ((List.range r).map fun k => its.toArray.getD k .none))).get? pool = some (pool_ its) := Heap.get?_push_of_some _ hp1
    have ht2 : (h1.push (pool_ ((List.range r).map fun k => its.toArray.getD k .none))).get? s.heap.objs.size = some (pool_ ((List.range r).map fun k => its.toArray.getD k .none)) := by
      rw [← sz]; exact Heap.get?_push_size _ rfl
    show wpAny _ _ (field (.ref c) 2 >>= _) _ _ _
    refine wpAny_bind (wpAny_field hc2 rfl (x := res) rfl ?_)
    refine wpAny_bind (wpAny_setField hc2 rfl (by simp) ?_)
    refine wpAny_bind (wpAny_letGo ?_)
    refine wpAny_pure ⟨_, rfl, ?_⟩
    refine wpAny_pure ?_
    have hc3 : ((h1.push (pool_ ((List.range r).map fun k => its.toArray.getD k .none))).update c (Obj.mapFields fun x => x.setIfInBounds 2 (.ref s.heap.objs.size))).get? c = some (rec_ pool 1 (.ref s.heap.objs.size) (List.range r)) := Heap.get?_update_self _ hc2 rfl
    have k3 : Heap.SameBut c (h1.push (pool_ ((List.range r).map fun k => its.toArray.getD k .none))) ((h1.push (pool_ ((List.range r).map fun k => its.toArray.getD k .none))).update c (Obj.mapFields fun x => x.setIfInBounds 2 (.ref s.heap.objs.size))) := Heap.SameBut.update ..
    refine hQ _ ⟨hne, (k3.2 pool (Ne.symm hne)).trans hp2, 1, _, _, hc3, .inr ⟨by omega, rfl, ?_⟩⟩ ((k3.2 _ (Nat.ne_of_gt lc)).trans ht2) fun b o hb e => (k3.2 b hb).trans (Heap.get?_push_of_some _ ((k1.2 b hb).trans e))
    exact hi
  · have hn := cmbs_next hix
    rw [show i - 1 + 1 = i by omega, hi, Nat.zero_add] at hn
    have hil : ix.length = r := cmbs_len (List.mem_of_getElem? hix)
    have hrn : r ≤ its.length := by
      rcases Nat.lt_or_ge its.length r with q | q
      · rw [cmbs_nil q] at hi; cases hi
      · exact q
    have hq := nxt_find (n := its.length) (c := ix) (k := 0) (by omega) (by omega)
    rw [hn] at hq
    show wpAny _ _ ((seqItems? (.ref pool) >>= _) >>= _) _ _ s
    refine wpAny_bind (wpAny_bind (wpAny_seqItems hp rfl (wpAny_pure ?_)))
    rw [List.size_toArray]
    split
    · rename_i nx heq
      have : nx = idx := Option.some.inj (heq.symm.trans hq)
      subst this
      show wpAny _ _ (updateFields c _ >>= _) _ _ s
      refine wpAny_bind (wpAny_updateFields (f := fun fs => fs.extract 0 3 ++ (nx.map fun k : Nat => Value.int (k : Int) 0).toArray) hc rfl ?_ (by simp; omega))
      have hc1 : (s.heap.update c (Obj.mapFields fun fs => fs.extract 0 3 ++ (nx.map fun k : Nat => Value.int (k : Int) 0).toArray)).get? c = some (rec_ pool 1 res nx) := by
        refine (Heap.get?_update_self _ hc rfl).trans ?_
        show some (Obj.mk _ _ (Data.fields _) _) = _
        congr 3
        exact ext3 _ _ _ _ _
      have k1 : Heap.SameBut c s.heap (s.heap.update c (Obj.mapFields fun fs => fs.extract 0 3 ++ (nx.map fun k : Nat => Value.int (k : Int) 0).toArray)) := Heap.SameBut.update ..
      have hp1 := (k1.2 pool (Ne.symm hne)).trans hp
      have hsz : (s.heap.update c (Obj.mapFields fun fs => fs.extract 0 3 ++ (nx.map fun k : Nat => Value.int (k : Int) 0).toArray)).objs.size = s.heap.objs.size := by simp
      generalize s.heap.update c (Obj.mapFields fun fs => fs.extract 0 3 ++ (nx.map fun k : Nat => Value.int (k : Int) 0).toArray) = h1 at hc1 k1 hp1 hsz ⊢
      show wpAny _ _ (((seqItems? (.ref pool) >>= _) >>= _) >>= _) _ _ _
      refine wpAny_bind (wpAny_bind (wpAny_bind (wpAny_seqItems hp1 rfl (wpAny_pure ?_))))
      refine wpAny_newTuple ?_ (by rw [List.length_map]; exact hlen)
      have lc : c < s.heap.objs.size := Heap.lt_size hc
      have sz : h1.objs.size = s.heap.objs.size := hsz
      rw [sz]
      have hc2 : (h1.push (pool_ (nx.map fun k => its.toArray.getD k .none))).get? c = some (rec_ pool 1 res nx) := Heap.get?_push_of_some _ hc1
      have hp2 : (h1.push (pool_ (nx.map fun k => its.toArray.getD k .none))).get? pool = some (pool_ its) := Heap.get?_push_of_some _ hp1
      have ht2 : (h1.push (pool_ (nx.map fun k => its.toArray.getD k .none))).get? s.heap.objs.size = some (pool_ (nx.map fun k => its.toArray.getD k .none)) := by
        rw [← sz]; exact Heap.get?_push_size _ rfl
      show wpAny _ _ (field (.ref c) 2 >>= _) _ _ _
      refine wpAny_bind (wpAny_field hc2 rfl (x := res) rfl ?_)
      refine wpAny_bind (wpAny_setField hc2 rfl (by simp) ?_)
      refine wpAny_bind (wpAny_letGo ?_)
      refine wpAny_pure ⟨_, rfl, ?_⟩
      refine wpAny_pure ?_
      have hc3 : ((h1.push (pool_ (nx.map fun k => its.toArray.getD k .none))).update c (Obj.mapFields fun x => x.setIfInBounds 2 (.ref s.heap.objs.size))).get? c = some (rec_ pool 1 (.ref s.heap.objs.size) nx) := Heap.get?_update_self _ hc2 rfl
      have k3 : Heap.SameBut c (h1.push (pool_ (nx.map fun k => its.toArray.getD k .none))) ((h1.push (pool_ (nx.map fun k => its.toArray.getD k .none))).update c (Obj.mapFields fun x => x.setIfInBounds 2 (.ref s.heap.objs.size))) := Heap.SameBut.update ..
      refine hQ _ ⟨hne, (k3.2 pool (Ne.symm hne)).trans hp2, 1, _, _, hc3, .inr ⟨by omega, rfl, ?_⟩⟩ ((k3.2 _ (Nat.ne_of_gt lc)).trans ht2) fun b o hb e => (k3.2 b hb).trans (Heap.get?_push_of_some _ ((k1.2 b hb).trans e))
      exact hi
    · rename_i heq
      exact absurd (heq.symm.trans hq) (by simp)
theorem stop_c {M : Model} {A : Around} {E : Value → Shared → Prop} {s : Shared} {c : Addr} {Q : Fin → Shared → Prop} (hh : A.handled = none) (h : ∀ e h', CpRep.StopE e h' → Heap.ExtBut c s.heap h' → E e { s with heap := h' }) : wpAny M A (Builtin.Itertools.itStop (α := Fin)) Q E s := by
  show wpAny _ _ (newExc (.type "StopIteration") [] >>= _) _ _ _
  refine wpAny_bind ?_
  simp only [newExc, newTuple]
  refine wpAny_bind (wpAny_newObj_type ?_ (by size_fits))
  refine wpAny_bind (m := firstArgMember _ _) (wpAny_of_eq (a := Value.none) (by first | rfl | (simp only [firstArgMember]; rfl)) ?_)
  refine wpAny_newObj_type ?_ (by size_fits)
  simp only [raiseNew]
  refine wpAny_bind (wpAny_handled ?_)
  rw [hh]
  refine wpAny_bind (wpAny_pure (wpAny_throw ?_))
  exact h _ _ ⟨_, _, _, rfl, Heap.get?_push_size _ rfl, rfl, rfl, rfl⟩ (((Heap.ExtBut.refl c s.heap).push _).push _)
theorem end_c {c pool : Addr} {its : List Value} {r i : Nat} {Q : Option Value → Shared → Prop} (hh : A.handled = none) (hc : At s.heap c pool its r i) (hi : (cmbs 0 its.length r)[i]? = none)
    (hQ : ∀ h', (∀ b o, b ≠ c → s.heap.get? b = some o → h'.get? b = some o) → Q none { s with heap := h' }) : wpAny (model prog w) A (pyNext (.ref c)) Q E s := by
  obtain ⟨hne, hp, st, res, ix, hc, hs⟩ := hc
  have hT : s.TypeIs (.ref c) "itertools.combinations" := ⟨_, hc, rfl⟩
  have fin : ∀ (e : Value) (h' h1 : Heap), CpRep.StopE e h' → (∀ b o, b ≠ c → s.heap.get? b = some o → h1.get? b = some o) → Heap.ExtBut c h1 h' →
      wpAny (model prog w) A (match (Except.error e : Except Value (Option Value)) with
        | Except.ok (some v) => pure (some v)
        | Except.ok none => unsupported "iter:the-iterator's-class-has-lost-its-__next__-amid-the-walk"
        | Except.error e => do
          let __do_lift ← isInstance e (Value.type "StopIteration")
          if __do_lift = true then pure none else throw e) Q E { s with heap := h' } := fun e h' h1 he k1 k2 => by
    obtain ⟨a, o, vs, rfl, ho, hcl, _⟩ := he
    refine wpAny_bind (wpAny_isInstance (T := "StopIteration") (b := true) ⟨o, ho, hcl⟩ isSubtype_stop ?_)
    exact wpAny_pure (hQ _ fun b o hb e => k2 b o hb (k1 b o hb e))
  unfold pyNext
  refine wpAny_bind (wpAny_attempt (wpAny_callSpecial?_slot (name := Str.ofString "__next__") hT slot_c_next
    (wpAny_call_entry slot_c_next hT entry_c_next ?_ (args_c_next _))))
  show wpAny _ _ (field (.ref c) 0 >>= _) _ _ s
  refine wpAny_bind (wpAny_field hc rfl (x := .ref pool) rfl ?_)
  show wpAny _ _ ((load c >>= _) >>= _) _ _ s
  refine wpAny_bind (wpAny_bind (wpAny_load hc ?_))
  show wpAny _ _ (pure ((ix.map fun k : Nat => Value.int (k : Int) 0).map (fun | .int n _ => n.toNat | _ => 0))) _ _ s
  rw [num_map ix]
  refine wpAny_pure ?_
  show wpAny _ _ ((field (.ref c) 1 >>= _) >>= _) _ _ s
  refine wpAny_bind (wpAny_bind (wpAny_field hc rfl (x := .int st 0) rfl (wpAny_pure ?_)))
  rcases hs with ⟨rfl, rfl, rfl⟩ | ⟨i0, rfl, hix⟩
  · have hr : r > its.length := by
      rcases Nat.lt_or_ge its.length r with q | q
      · exact q
      · rw [cmbs_head q] at hi; cases hi
    rw [if_pos hr]
    refine wpAny_bind (wpAny_rule ?_)
    exact stop_c (c := c) hh fun e h' he k => fin e h' s.heap he (fun _ _ _ q => q) k
  · have hn := cmbs_next hix
    rw [show i - 1 + 1 = i by omega, hi, Nat.zero_add] at hn
    have hil : ix.length = r := cmbs_len (List.mem_of_getElem? hix)
    have hrn : r ≤ its.length := by
      rcases Nat.lt_or_ge its.length r with q | q
      · rw [cmbs_nil q] at hix; cases hix
      · exact q
    have hq := nxt_find (n := its.length) (c := ix) (k := 0) (by omega) (by omega)
    rw [hn] at hq
    show wpAny _ _ ((seqItems? (.ref pool) >>= _) >>= _) _ _ s
    refine wpAny_bind (wpAny_bind (wpAny_seqItems hp rfl (wpAny_pure ?_)))
    rw [List.size_toArray]
    split
    · rename_i nx heq
      exact absurd (heq.symm.trans hq) (by simp)
    · refine wpAny_bind (wpAny_setField hc rfl (by simp) ?_)
      have k1 : Heap.SameBut c s.heap (s.heap.update c (Obj.mapFields fun x => x.setIfInBounds 1 (rawInt 2))) := Heap.SameBut.update ..
      exact stop_c (s := { s with heap := s.heap.update c (Obj.mapFields fun x => x.setIfInBounds 1 (rawInt 2)) }) (c := c) hh fun e h' he k => fin e h' _ he (fun b o hb q => (k1.2 b hb).trans q) k
end
end Cm
set_option Elab.async false
set_option linter.all false
set_option maxRecDepth 100000
set_option maxHeartbeats 4000000
namespace Cm
open PySem PySem.Spec
open Sem (wp)
section
variable {prog : Program} {w : World}
/-- v's items, whatever they are, as long as P -/
def Coll (prog : Program) (w : World) (P : List Value → Prop) (v : Value) (A : Around) (s : Shared) : Prop :=
  ∀ (Q : List Value → Shared → Prop) (E : Value → Shared → Prop), (∀ (h' : Heap) (tk : Nat) (its : List Value), (∀ b o, s.heap.get? b = some o → h'.get? b = some o) → P its → Q its { s with heap := h', toks := tk }) → wpAny (model prog w) A.in1 (collect v) Q E s
theorem meets_new (P : List Value → Prop) (v : Value) (r : Nat) (t : Tok) (hr : r ≤ 1000) :
    MeetsIn prog w (Builtin.«itertools.combinations.__new__» ⟨[.type "itertools.combinations", v, .int (r : Int) t], []⟩)
      (fun A R s => Coll prog w P v A s ∧ (∀ its, P its → its.length ≤ sizeLine) ∧ ∀ (h' : Heap) (tk : Nat) (its : List Value), (∀ b o, s.heap.get? b = some o → h'.get? b = some o) → P its →
        R (.ok (.ret (.ref (h'.objs.size + 1)))) { s with heap := (h'.push (pool_ its)).push (rec_ h'.objs.size (if r > its.length then 2 else 0) .none (List.range r)), toks := tk }) :=
  .of_wp fun A R s h => by
    obtain ⟨hp, g, dd, tk, os⟩ := s
    obtain ⟨hc, hl, hR⟩ := h
    have hsub := sub_c
    have hd := noDict_c
    have hn : ¬ ((decide ((r : Int) < -(2 ^ 63 : Int)) || decide ((r : Int) ≥ (2 ^ 63 : Int))) = true) := by
      rw [decide_eq_false (by omega), decide_eq_false (by omega)]
      decide
    repeat (first
      | wp_step
      | simp only [List.head?_cons, Option.some_or, List.getElem?_cons_succ, List.getElem?_cons_zero, List.length_cons, List.length_nil, List.forIn_nil]
      | (refine wpAny_ite_false (decide_eq_false hn) ?_))
    rw [show ("itertools." ++ "combinations" : String) = "itertools.combinations" from by first | rfl | decide]
    repeat (first
      | (refine wpAny_bind (hc _ _ fun h' tk' its k p => ?_))
      | wp_step
      | simp only [List.head?_cons, Option.some_or, List.getElem?_cons_succ, List.getElem?_cons_zero, List.length_cons, List.length_nil, List.forIn_nil]
      | (refine wpAny_ite_false (decide_eq_false hn) ?_))
    have ht : Builtin.Itertools.itTooMany (r : Int) = false := decide_eq_false (by omega)
    rw [if_neg (by rw [ht]; decide)]
    refine wpAny_bind (wpAny_newTuple ?_ (hl _ p))
    refine wpAny_pure ?_
    simp only [Int.toNat_natCast]
    refine wpAny_bind ?_
    unfold Builtin.Itertools.itNewRecord
    rw [if_pos (by rw [hd]; decide)]
    refine wpAny_newObj_type ?_ ?_
    · refine wpAny_pure ?_
      refine ⟨_, rfl, ?_⟩
      have q := hR h' tk' its k p
      rw [Heap.size_push]
      exact q
    · show Array.size _ ≤ _
      rw [List.size_toArray, List.length_append, List.length_map, List.length_range, sizeLine_eq]
      show 3 + r ≤ _
      omega
end
end Cm
set_option Elab.async false
set_option linter.all false
set_option maxRecDepth 100000
namespace Cm
open PySem PySem.Spec PyProof.Rows L2
section
variable {prog : Program} {w : World} {A : Around} {E : Value → Shared → Prop} {s : Shared}
theorem at0 {h : Heap} {its : List Value} {r : Nat} : At ((h.push (pool_ its)).push (rec_ h.objs.size (if r > its.length then 2 else 0) .none (List.range r))) (h.objs.size + 1) h.objs.size its r 0 := by
  refine ⟨Nat.succ_ne_self _, Heap.get?_push_of_some _ (Heap.get?_push_size _ rfl), (if r > its.length then 2 else 0), .none, List.range r, ?_, .inl ⟨rfl, rfl, rfl⟩⟩
  have := Heap.get?_push_size (h.push (pool_ its)) (o := rec_ h.objs.size (if r > its.length then 2 else 0) .none (List.range r)) rfl
  rw [Heap.size_push] at this
  exact this
theorem call_c {P : List Value → Prop} {v : Value} {r : Nat} {t : Tok} {Q : Value → Shared → Prop} (hr : r ≤ 1000) (hc : Coll prog w P v A.in1 s) (hl : ∀ its, P its → its.length ≤ sizeLine)
    (h : ∀ (h' : Heap) (tk : Nat) (its : List Value), (∀ b o, s.heap.get? b = some o → h'.get? b = some o) → P its →
      Q (.ref (h'.objs.size + 1)) { s with heap := (h'.push (pool_ its)).push (rec_ h'.objs.size (if r > its.length then 2 else 0) .none (List.range r)), toks := tk }) :
    wpAny (model prog w) A (call (.type "itertools.combinations") [v, .int (r : Int) t]) Q E s := by
  refine callType_newIn called_c (by decide +kernel) (typeCall_c _ _) (newCall_c _ _) (fun obj => F.args_object_init_3 obj _ _) entry_c_new (meets_new P v r t hr) ⟨hc, hl, fun h' tk its k p => ?_⟩
  refine ⟨⟨rec_ h'.objs.size (if r > its.length then 2 else 0) .none (List.range r), ?_, rfl⟩, h h' tk its k p⟩
  have := Heap.get?_push_size (h'.push (pool_ its)) (o := rec_ h'.objs.size (if r > its.length then 2 else 0) .none (List.range r)) rfl
  rw [Heap.size_push] at this
  exact this
theorem coll_seq {a : Addr} {its : List Value} {T : String} {o : Obj} {n : Nat} (hT : T = "list" ∨ T = "tuple") (ho : s.heap.get? a = some o) (hc : o.cls = .type T) (hd : o.data = .seq its.toArray n) (hz : its.length ≤ sizeLine) :
    Coll prog w (fun l => l = its) (.ref a) A s := fun Q E hQ => by
  refine wpAny_collect_seq a hT ho hc hd (fun h' k => ?_) (by rw [List.size_toArray]; exact hz)
  have := hQ h' s.toks its k rfl
  rw [List.toList_toArray]
  exact this
end
/-- what r of the values vs are handed out, turn by turn -/
def ItC (vs : List V) (r : Nat) : It :=
  ⟨fun i _ => i < (cmbs 0 vs.length r).length, fun i H v H' => ∃ T c, v = .ref T ∧ H T = none ∧ (cmbs 0 vs.length r)[i]? = some c ∧ H' = upd H T (.tup (c.map fun k => vs.getD k (.int 0))), fun i _ => (cmbs 0 vs.length r).length ≤ i⟩
theorem vals_pick {vs : List V} {its : List Value} (h : Vals vs its) : ∀ {c : List Nat}, (∀ k ∈ c, k < vs.length) → Vals (c.map fun k => vs.getD k (.int 0)) (c.map fun k => its.toArray.getD k .none)
  | [], _ => .nil
  | k :: c, hk => by
    have hl := h.length
    have h1 := hk k (by simp)
    obtain ⟨u, hu, ru⟩ := h.get (List.getElem?_eq_getElem h1)
    have e1 : vs.getD k (.int 0) = vs[k] := by simp [List.getD, h1]
    have e2 : its.toArray.getD k .none = u := by simp [hu]
    rw [List.map_cons, List.map_cons, e1, e2]
    exact .cons ru (vals_pick h fun j hj => hk j (by simp [hj]))
theorem turn_c {P : Program} {w : World} {K : PySem.W.Frag} {tg : Expr} {vs : List V} {r : Nat} (c pool : Addr) (hz : r ≤ 1000) : Turn P w K tg (ItC vs r) [c, pool] c (fun i h => ∃ its, Vals vs its ∧ At h c pool its r i) where
  mem := by simp
  obj := fun i h st b hb => by
    obtain ⟨its, rv, _, hp, _, _, _, hc, _⟩ := st
    have e : b = c ∨ b = pool := by simpa using hb
    rcases e with rfl | rfl
    · exact ⟨_, hc, fun v z => nomatch z⟩
    · exact ⟨_, hp, fun v z => nomatch z⟩
  keep := fun i h h' st k => by
    obtain ⟨its, rv, hne, hp, st, res, ix, hc, q⟩ := st
    exact ⟨its, rv, hne, k pool (by simp) _ hp, st, res, ix, k c (by simp) _ hc, q⟩
  item := by
    intro X hP hw hK hcalm i pins s σ H E I hf st hg
    subst hP hw hK
    obtain ⟨its, rv, hat⟩ := st
    have hl := rv.length
    have hi : i < (cmbs 0 vs.length r).length := hg
    have hix := List.getElem?_eq_getElem hi
    have hix2 : (cmbs 0 its.length r)[i]? = some (cmbs 0 vs.length r)[i] := by rw [← hl]; exact hix
    have hc0 := hat.2.2
    obtain ⟨_, _, _, hc0, _⟩ := hc0
    have lc : c < s.heap.objs.size := Heap.lt_size hc0
    have lp : pool < s.heap.objs.size := Heap.lt_size hat.2.1
    refine item_c hat hix2 (by rw [sizeLine_eq]; omega) fun h' at' ht hk => ?_
    obtain ⟨_, _, _, hc1, _⟩ := id at'.2.2
    refine ⟨_, rfl, go_of (s := { s with heap := h' }) (n := "itertools.combinations") hc1 rfl rfl (by decide) ?_⟩
    have hlen := cmbs_len (List.getElem_mem hi)
    have hv := vals_pick rv (c := (cmbs 0 vs.length r)[i]) fun k hk => by
      have := (mem_ge (List.getElem_mem hi) k hk).2
      omega
    have new : ObjOk X.prog X.w (upd H s.heap.objs.size (.tup ((cmbs 0 vs.length r)[i].map fun k => vs.getD k (.int 0)))) h' s.heap.objs.size (.tup ((cmbs 0 vs.length r)[i].map fun k => vs.getD k (.int 0))) :=
      ⟨by rw [List.length_map, hlen, sizeLine_eq]; omega, _, hv, ⟨_, ht, rfl, _, rfl⟩⟩
    have I1 := I.turnedNew (t' := s.toks) (ch := [c, pool]) (fun b o hb q => hk b o (fun z => hb (by simp [z])) q) hf (Nat.le_refl _) new
    refine ⟨.ref s.heap.objs.size, _, I1, rfl, ⟨_, _, rfl, I.hok.fresh (Nat.le_refl _), hix, rfl⟩, ⟨its, rv, at'⟩, fun b hb => ?_⟩
    have hlt : b < s.heap.objs.size := by
      have e : b = c ∨ b = pool := by simpa using hb
      rcases e with rfl | rfl
      · exact lc
      · exact lp
    rw [upd_ne (Nat.ne_of_lt hlt)]
    exact (hf b hb).1
  done := by
    intro X hP hw hK hcalm i pins s σ H E I hf st hg
    subst hP hw hK
    obtain ⟨its, rv, hat⟩ := st
    have hl := rv.length
    have hi : (cmbs 0 vs.length r).length ≤ i := hg
    exact end_c (I.ok.hd hcalm) hat (by rw [← hl]; exact List.getElem?_eq_none hi) fun h' hk => ⟨rfl, I.turnedL (t' := s.toks) (ch := [c, pool]) (fun b o hb q => hk b o (fun z => hb (by simp [z])) q) hf⟩
  self := fun A i s Q E st h => by
    obtain ⟨its, rv, hat⟩ := st
    exact iter_c hat h
def iCmb (K : PySem.W.Frag) (ta : TA) : TI := fun σ H R => ta σ H fun vs H1 => ∃ (a : Addr) (xs : List V) (r : Nat), vs = [.ref a, .int (r : Int)] ∧ r ≤ 1000 ∧ (SqL K H1 a xs ∨ SqT K H1 a xs) ∧ R (ItC xs r) H1
theorem pi_cmb {X : Cx} {e e2 tg : Expr} {ta : TA} {p pos : Pos} (hcalm : X.calm = true) (hg : Gl X "combinations") (hm : X.mg "combinations" = some (.type "itertools.combinations")) (ha : PA X [e, e2] ta)
    (hs : starEach [e, e2] X.env = (false, eval e X.env) :: starEach [e2] X.env := by rfl) (hpl : (backTo pos (starEach [e2] X.env)).any (·.1) = false := by rfl) :
    PI X tg (.Call (.Name "combinations" p) [e, e2] [] pos) (iCmb X.K ta) := by
  refine ⟨fun pins s σ H R I h => ?_⟩
  refine Call_ (ld_glob I hg hm (PyProof.Rows.callWith_type1 (thn (ha.run pos pins s σ H _ I h) fun us s1 ⟨vs, H1, I1, r1, q1⟩ => ?_) hs hpl))
  obtain ⟨a, xs, r, ex, hr, hq, q⟩ := q1
  subst ex
  cases r1 with
  | cons r1 rr =>
    cases rr with
    | cons r2 rr =>
      cases rr
      cases r1
      obtain ⟨t, rfl⟩ := r2
      have key : ∀ its, Vals xs its → its.length ≤ sizeLine → Coll X.prog X.w (fun l => l = its) (.ref a) X.A.in1 s1 → wpAny (model X.prog X.w) X.A (call (.type "itertools.combinations") [.ref a, .int (r : Int) t]) (fun v s1 => wpAny (model X.prog X.w) X.A (pyIter v) (PIE X pins σ tg R) X.xe s1) X.xe s1 := fun its rv hz hco => by
        refine call_c hr hco (fun l e => by rw [e]; exact hz) fun h' tk l k e => ?_
        subst e
        have I2 : Inv X pins σ H1 { s1 with heap := h', toks := tk } := I1.kept (t' := tk) k
        have I3 : Inv X pins σ H1 { s1 with heap := (h'.push (pool_ l)).push (rec_ h'.objs.size (if r > l.length then 2 else 0) .none (List.range r)), toks := tk } := I2.kept (t' := tk) fun b o q => Heap.get?_push_of_some _ (Heap.get?_push_of_some _ q)
        refine iter_c (s := { s1 with heap := (h'.push (pool_ l)).push (rec_ h'.objs.size (if r > l.length then 2 else 0) .none (List.range r)), toks := tk }) at0 ?_
        refine ⟨h'.objs.size + 1, [h'.objs.size + 1, h'.objs.size], _, _, H1, rfl, I3, turn_c (h'.objs.size + 1) h'.objs.size hr, ⟨l, rv, at0⟩, fun b hb => ?_, q⟩
        have e' : b = h'.objs.size + 1 ∨ b = h'.objs.size := by simpa using hb
        have hle : h'.objs.size ≤ b := by
          rcases e' with z | z
          · rw [z]; exact Nat.le_add_right _ _
          · rw [z]; exact Nat.le_refl _
        exact I2.fpOk hle (I2.hok.fresh hle)
      rcases hq with hq | hq
      · obtain ⟨its, rv, pl, hz⟩ := I1.list hq
        obtain ⟨o, ho, hc, n, hd⟩ := pl.isList
        exact key its rv (by rw [← rv.length]; exact hz) (coll_seq (.inl rfl) ho hc hd (by rw [← rv.length]; exact hz))
      · obtain ⟨its, rv, pl, hz⟩ := I1.tuple hq
        obtain ⟨o, ho, hc, n, hd⟩ := pl
        exact key its rv (by rw [← rv.length]; exact hz) (coll_seq (.inr rfl) ho hc hd (by rw [← rv.length]; exact hz))
theorem pi_cmbK {X : Cx} {K : PySem.W.Frag} {e e2 tg : Expr} {ta : TA} {p pos : Pos} (h : X.K = K) (hcalm : X.calm = true) (hg : Gl X "combinations") (hm : X.mg "combinations" = some (.type "itertools.combinations")) (ha : PA X [e, e2] ta)
    (hs : starEach [e, e2] X.env = (false, eval e X.env) :: starEach [e2] X.env := by rfl) (hpl : (backTo pos (starEach [e2] X.env)).any (·.1) = false := by rfl) :
    PI X tg (.Call (.Name "combinations" p) [e, e2] [] pos) (iCmb K ta) := by subst h; exact pi_cmb hcalm hg hm ha hs hpl
end Cm
namespace Rf
open PySem PySem.Spec PyProof.Rows L2 Evl
/-- the choices of r of the data ds -/
def cmD (ds : List D) (r : Nat) : List D := (Cm.cmbs 0 ds.length r).map fun c => .tuple (c.map fun k => ds.getD k (.int 0))
theorem cmD_len {ds : List D} {r : Nat} : (cmD ds r).length = (Cm.cmbs 0 ds.length r).length := by simp [cmD]
theorem walk_cmb {vs : List V} {r : Nat} : Walk (Cm.ItC vs r) (Cm.cmbs 0 vs.length r).length (fun _ => True) (fun i H v H' => ∃ T c, v = .ref T ∧ H T = none ∧ (Cm.cmbs 0 vs.length r)[i]? = some c ∧ H' = upd H T (.tup (c.map fun k => vs.getD k (.int 0)))) :=
  ⟨fun i _ hi _ => hi, fun _ _ => Nat.le_refl _, fun i H x H' hi q y => y⟩
theorem dpa_pick {K : PySem.W.Frag} {S : Hp} {vs : List V} {ds : List D} (h : DpAll K S vs ds) : ∀ {c : List Nat}, (∀ k ∈ c, k < vs.length) → DpAll K S (c.map fun k => vs.getD k (.int 0)) (c.map fun k => ds.getD k (.int 0))
  | [], _ => .nil
  | k :: c, hk => by
    have hl := dpa_len h
    have h1 := hk k (by simp)
    obtain ⟨d, hd, dd⟩ := dpa_getV h (List.getElem?_eq_getElem h1)
    have e1 : vs.getD k (.int 0) = vs[k] := by simp [List.getD, h1]
    have e2 : ds.getD k (.int 0) = d := by simp [List.getD, hd]
    rw [List.map_cons, List.map_cons, e1, e2]
    exact .cons dd (dpa_pick h fun j hj => hk j (by simp [hj]))
theorem wi_cmb {K : PySem.W.Frag} {C : Fm} {env : En} {ta : TA} {Φ : List D → Prop} (h : WA K C ta env fun es => ∃ (x : D) (ds : List D) (r : Nat), es = [x, .int (r : Int)] ∧ (x = .list ds ∨ x = .tuple ds) ∧ r ≤ 1000 ∧ Φ (cmD ds r)) : WI K C (Cm.iCmb K ta) env Φ := fun S σ H p R k =>
  h S σ H p _ fun es vs S1 H1 s1 d1 ⟨x, ds, r, e, hx, hr, q⟩ => by
    subst e
    cases d1 with
    | cons d1 t1 =>
      cases t1 with
      | cons d2 t2 =>
        cases t2
        cases d2
        have key : ∀ a xs, DpAll K S1 xs ds → (SqL K H1 a xs ∨ SqT K H1 a xs) → ∃ (a' : Addr) (xs' : List V) (r' : Nat), [V.ref a, V.int (r : Int)] = [.ref a', .int (r' : Int)] ∧ r' ≤ 1000 ∧ (SqL K H1 a' xs' ∨ SqT K H1 a' xs') ∧ R (Cm.ItC xs' r') H1 := fun a xs ha hq => by
          have hl := dpa_len ha
          refine ⟨a, xs, r, rfl, hr, hq, k (cmD ds r) _ S1 H1 s1 ?_ q⟩
          rw [cmD_len, ← hl]
          exact (walk_cmb (vs := xs) (r := r)).mono (fun _ _ => trivial) fun i H2 x H3 hi e y S2 e1 e2 => by
            obtain ⟨T, c, rfl, hT, hc, rfl⟩ := y
            refine ⟨_, .tuple (c.map fun k => ds.getD k (.int 0)), ?_, Step.new e2 hT, dp_tup (ex_none e2 hT) ?_⟩
            · unfold cmD
              rw [← hl, List.getElem?_map, hc]
              rfl
            · exact dpa_pick (dpAll_mono e1 _ _ ha) fun j hj => by
                have := (Cm.mem_ge (List.mem_of_getElem? hc) j hj).2
                omega
        rcases hx with rfl | rfl
        · cases d1 with
          | @lst a xs _ hx ha => exact key a xs ha (.inl (ex_l s1.k hx))
        · cases d1 with
          | @tup a xs _ hx ha => exact key a xs ha (.inr (ex_tp s1.k hx))
end Rf
set_option Elab.async false
set_option linter.all false
set_option maxRecDepth 100000
namespace Rf
open PySem PySem.Spec PyProof.Rows L2 Evl
section
variable {K : PySem.W.Frag} {C : Fm} {env : En} {te tl : TE} {Φ : D → Prop} {f : List Key → Option D} {n : Nat}
theorem dpa_keys {S : Hp} : ∀ {k : List Key}, DpAll K S (k.map kV) (k.map keyD)
  | [] => .nil
  | .inl i :: k => .cons (.int i) dpa_keys
  | .inr x :: k => .cons (.str x) dpa_keys
/-- tuples of keys that the heap holds may be known -/
theorem reveal {H : Hp} : ∀ {kvs : List (List Key × V)} {bs : List Addr} {S : Hp}, IsKeys H kvs bs → Ex S H → ∃ S', Step S H S' H ∧ DpAll K S' (bs.map V.ref) (kvs.map fun p => .tuple (p.1.map keyD))
  | [], [], S, _, e => ⟨S, Step.refl e, .nil⟩
  | [], _ :: _, _, h, _ => nomatch h
  | _ :: _, [], _, h, _ => nomatch h
  | p :: kvs, b :: bs, S, h, e => by
    cases h with
    | cons hb t =>
      have hb : H b = some (.tup (p.1.map kV)) := hb
      have st : Step S H (upd S b (.tup (p.1.map kV))) H := by
        refine ⟨fun a o q => ?_, fun a o q => ?_, Ex.refl H, fun c o q nt z => ?_⟩
        · by_cases hc : a = b
          · subst hc
            rw [upd_same]
            exact hb.symm.trans (e a o q)
          · rw [upd_ne hc]; exact q
        · by_cases hc : a = b
          · subst hc
            rw [upd_same] at q
            exact hb.trans q
          · rw [upd_ne hc] at q; exact e a o q
        · by_cases hc : c = b
          · subst hc
            exact absurd (Option.some.inj (q.symm.trans hb)) (nt _)
          · rw [upd_ne hc]; exact z
      obtain ⟨S', st2, da⟩ := reveal (S := upd S b (.tup (p.1.map kV))) t st.k
      refine ⟨S', st.trans st2, .cons ?_ da⟩
      exact dp_mono st2.s _ _ (.tup upd_same dpa_keys)
/-- list(d) of a dict of the def's own -/
theorem we_listdic {j : Nat} (hj : env[j]? = some (some (.dic f n))) (h : ∀ ks : List (List Key), ks.Nodup → ks.length ≤ n → (∀ k, k ∈ ks ↔ (f k).isSome = true) → Φ (.list (ks.map fun k => .tuple (k.map keyD)))) :
    WE K C (tCB (fun xs H Q => ∃ d kvs, xs = [V.ref d] ∧ Rd H d (.dT kvs) ∧ ∀ p bs, H p = none → IsKeys H kvs bs → Q (.ref p) (upd H p (.lst (bs.map V.ref)))) (tCons (tVar j) tNil)) env Φ := fun S σ H p Q k => by
  obtain ⟨w, e0, a, ws, rfl, n1, n0, nr, e1, e2, e3⟩ := p.slot j _ hj
  refine ⟨.ref a, e0, a, ws, rfl, .inl e1, fun q bs hq hk => ?_⟩
  obtain ⟨S', st, da⟩ := reveal (K := K) hk p.base.ex
  have hS : S' q = none := ex_none st.k hq
  refine k _ _ _ _ ((st.trans (Step.new st.k hq)).stp p.base) (dp_lst hS da) ?_
  have := h (ws.map fun p => p.1) e2.2 (by rw [List.length_map]; exact e2.1) fun k => by
    rw [← optD_some (e3 k), ← valV_any, List.any_eq_true]
    constructor
    · intro hm
      obtain ⟨p, hp, e⟩ := List.mem_map.mp hm
      exact ⟨p, hp, by rw [e]; simp⟩
    · rintro ⟨p, hp, e⟩
      exact List.mem_map.mpr ⟨p, hp, by simpa using e⟩
  rw [List.map_map] at this
  exact this
theorem dpa_intsV {S : Hp} : ∀ {ns : List Int} {xs : List V}, DpAll K S xs (ns.map PyData.int) → xs = ns.map V.int
  | [], _, .nil => rfl
  | _ :: ns, _, .cons h t => by
    cases h
    rw [dpa_intsV t]
    rfl
/-- l.count(i) of a list of ints -/
theorem we_count (h : WE K C tl env fun l => ∃ ns : List Int, l = .list (ns.map PyData.int) ∧ WE K C te env fun d => ∃ k : Int, d = .int k ∧ Φ (.int (ns.count k : Nat))) : WE K C (tBM K "list" (rCntI K) tl (tCons te tNil)) env Φ := fun S σ H p Q k =>
  h S σ H p _ fun l v S1 H1 s1 d1 ⟨ns, e, h1⟩ => by
    subst e
    obtain ⟨a, rfl, hs⟩ : ∃ a, v = .ref a ∧ SqL K S1 a (ns.map V.int) := by
      cases d1 with
      | lst hs ha => exact ⟨_, rfl, by rw [← dpa_intsV ha]; exact hs⟩
    refine ⟨.inl ⟨rfl, _, ex_l s1.k hs⟩, ?_⟩
    refine h1 S1 σ H1 (p.step s1) _ fun d w S2 H2 s2 d2 ⟨i, e, q⟩ => ?_
    subst e
    cases d2
    exact ⟨a, ns, i, rfl, rfl, ex_l (s2.s.trans s2.k) hs, k _ _ S2 H2 (s1.trans s2) (.int _) q⟩
end
theorem mt_lcountK {X : Cx} {K : PySem.W.Frag} (h : X.K = K) : MtR X "list.count" (rCntI K) := by subst h; exact mt_lcount
end Rf
set_option Elab.async false
set_option linter.all false
set_option maxRecDepth 100000
namespace Rf
open PySem PySem.Spec PyProof.Rows L2 Evl
theorem sl_listK {X : Cx} {K : PySem.W.Frag} (h : X.K = K) : SlR X (rSlL K) := by subst h; exact sl_list
section
variable {K : PySem.W.Frag} {C : Fm} {env : En} {te t1 t2 : TE} {tl th : TO} {P : Po} {Φ : D → Prop}
/-- x, y, z = [], .., .. -/
theorem ws_par3Own {i j l : Nat} (h : WE K C t1 env fun d => WE K C t2 env fun e => P.nx (((env.set i (some (.own []))).set j (some (.dat d))).set l (some (.dat e)))) : WS K C (tPar3 i j l (tCons (tLst tNil) (tCons t1 (tCons t2 tNil)))) env P := fun S σ H p X k1 k2 k3 k4 => by
  refine ⟨Nat.zero_le _, fun a ha => ?_⟩
  have b := p.base.none0 ha
  have p0 := p.alloc (o := .lst []) ha
  refine h S σ _ p0 _ fun d v S1 H1 s1 d1 h2 => ?_
  refine h2 S1 σ H1 (p0.step s1) _ fun d' v' S2 H2 s2 d2 q => ?_
  have st := s1.trans s2
  have e1 : H2 a = some (.lst []) := st.h a _ b.2.2 upd_same
  have eS : S2 a = none := st.hid a _ upd_same (fun _ z => nomatch z) b.1
  have p2 := (p0.step st).put i (ds := []) (xs := []) eS b.2.1 b.2.2 .nil (fun j es _ e => p.fresh (c := .row) ha j es e) (nd_lst e1)
  rw [upd_own e1] at p2
  exact ⟨.ref a, v, v', rfl, k1 _ S2 _ H2 ((p2.set j (dp_mono s2.s _ _ d1)).set l d2) st.s q⟩
/-- l[lo:hi] of a list of the def's own -/
theorem we_slOwn {i : Nat} {ds : List D} (hi : env[i]? = some (some (.own ds))) (h : WP K C tl env fun lo => WP K C th env fun hi => Φ (.list (cutD ds lo hi))) : WE K C (tSl (rSlL K) (tVar i) tl th) env Φ := fun S σ H p Q k => by
  obtain ⟨w, h1, a, xs, rfl, n, n0, nr, e1, e2⟩ := p.slot i _ hi
  refine ⟨.ref a, h1, ?_⟩
  refine h S σ H p _ fun lo S2 H2 s2 h2 => ?_
  refine h2 S2 σ H2 (p.step s2) _ fun hi S3 H3 s3 q => ?_
  have st := s2.trans s3
  have f1 : H3 a = some (.lst xs) := st.h a _ nr e1
  have hl := dpa_len e2
  have dc : DpAll K S3 (cutV xs lo hi) (cutD ds lo hi) := by
    unfold cutV cutD
    rw [hl]
    exact dpa_take _ (dpa_drop _ (dpAll_mono st.s _ _ e2))
  refine ⟨a, xs, rfl, SqL.of f1, fun q2 hp => ?_⟩
  exact k _ _ _ _ (st.trans ((Step.new st.k hp).stp ((p.step st).base))) (dp_lst (ex_none st.k hp) dc) q
end
theorem eqv_nil {ds : List D} : PyData.eqv (.list ds) (.list []) = ds.isEmpty := by
  cases ds <;> simp [PyData.eqv, PyData.eqvAll]
end Rf
namespace Rf
open PySem PySem.Spec PyProof.Rows L2 Evl
section
variable {K : PySem.W.Frag} {C : Fm} {env : En} {t1 t2 : TE} {P : Po}
/-- x, y, z = [], .., .. by a tuple -/
theorem ws_tup3Own {i j l n : Nat} (hn : n = 3) (h : WE K C t1 env fun d => WE K C t2 env fun e => P.nx (((env.set i (some (.own []))).set j (some (.dat d))).set l (some (.dat e)))) :
    WS K C (tAsg (tTup (tCons (tLst tNil) (tCons t1 (tCons t2 tNil)))) (gTup K n (gCons (gName i) (gCons (gName j) (gCons (gName l) gNil))))) env P := fun S σ H p X k1 k2 k3 k4 => by
  refine ⟨Nat.zero_le _, fun a ha => ?_⟩
  have b := p.base.none0 ha
  have p0 := p.alloc (o := .lst []) ha
  refine h S σ _ p0 _ fun d v S1 H1 s1 d1 h2 => ?_
  refine h2 S1 σ H1 (p0.step s1) _ fun d' v' S2 H2 s2 d2 q => ?_
  have st := s1.trans s2
  have e1 : H2 a = some (.lst []) := st.h a _ b.2.2 upd_same
  have eS : S2 a = none := st.hid a _ upd_same (fun _ z => nomatch z) b.1
  refine ⟨by show 3 ≤ sizeLine; decide, fun c hc => ?_⟩
  have hca : a ≠ c := fun z => by rw [z] at e1; rw [hc] at e1; cases e1
  have e2 : upd H2 c (.tup [V.ref a, v, v']) a = some (.lst []) := by rw [upd_ne hca]; exact e1
  have p2 := ((p0.step st).alloc (o := .tup [V.ref a, v, v']) hc).put i (ds := []) (xs := []) eS b.2.1 b.2.2 .nil (fun j es _ e => p.fresh (c := .row) ha j es e) (nd_lst e2)
  rw [upd_own e2] at p2
  refine ⟨c, _, rfl, SqT.of upd_same, hn.symm, ?_⟩
  exact ⟨_, _, rfl, _, _, rfl, _, _, rfl, rfl, k1 _ S2 _ _ ((p2.set j (dp_mono s2.s _ _ d1)).set l d2) st.s q⟩
end
end Rf
set_option Elab.async false
set_option linter.all false
set_option maxRecDepth 100000
namespace Rf
open PySem PySem.Spec PyProof.Rows L2 Evl
section
variable {K : PySem.W.Frag} {C : Fm} {env : En} {te ta : TE} {tl th : TO} {P : Po} {Φ : D → Prop}
/-- sums of lists -/
theorem rd_catL {xs ys : List D} (hl : xs.length + ys.length ≤ 100000) (q : Φ (.list (xs ++ ys))) : RD K rCat (.list xs) (.list ys) Φ := fun S H v w e d1 d2 Q k => by
  cases d1 with
  | @lst a us _ _ ha hp =>
    cases d2 with
    | @lst b ws _ _ hb hq =>
      refine ⟨a, b, us, ws, rfl, rfl, e _ _ hp, e _ _ hq, by rw [dpa_len ha, dpa_len hb]; exact line_of hl, fun l hl' => ?_⟩
      exact k _ _ _ _ (Step.new e hl') (dp_lst (ex_none e hl') (dpa_app ha hb)) q
/-- l[lo:hi] of a list -/
theorem we_slL (h : WE K C te env fun d => ∃ ds, d = .list ds ∧ WP K C tl env fun lo => WP K C th env fun hi => Φ (.list (cutD ds lo hi))) : WE K C (tSl (rSlL K) te tl th) env Φ := fun S σ H p Q k =>
  h S σ H p _ fun d v S1 H1 s1 d1 ⟨ds, e, h1⟩ => by
    subst e
    have p1 := p.step s1
    refine h1 S1 σ H1 p1 _ fun lo S2 H2 s2 h2 => ?_
    have p2 := p1.step s2
    refine h2 S2 σ H2 p2 _ fun hi S3 H3 s3 q => ?_
    have st := (s1.trans s2).trans s3
    have d3 := dp_mono (s2.s.trans s3.s) _ _ d1
    cases d3 with
    | @lst a xs _ ha da hp =>
      have hl := dpa_len da
      have dc : DpAll K S3 (cutV xs lo hi) (cutD ds lo hi) := by
        unfold cutV cutD
        rw [hl]
        exact dpa_take _ (dpa_drop _ da)
      refine ⟨a, xs, rfl, ex_l s3.k ha, fun l hl' => ?_⟩
      exact k _ _ _ _ (st.trans ((Step.new s3.k hl').stp (p2.step s3).base)) (dp_lst (ex_none s3.k hl') dc) q
theorem dpa_rep {S : Hp} {i : Int} : ∀ n : Nat, DpAll K S (List.replicate n (V.int i)) (List.replicate n (PyData.int i))
  | 0 => .nil
  | n + 1 => .cons (.int i) (dpa_rep n)
/-- [0] * n, a list of the def's own -/
theorem wo_rep {Φ : List D → Prop} {i : Int} (h : WE K C ta env fun d => ∃ n : Nat, d = .int (n : Int) ∧ n ≤ 100000 ∧ Φ (List.replicate n (.int i))) : WO K C (tOp rRep (tLst (tCons (tC (.int i)) tNil)) ta) env Φ := fun S σ H p Q k => by
  refine ⟨by show 1 ≤ sizeLine; decide, fun a ha => ?_⟩
  have b0 := p.base.none0 ha
  have p0 := p.alloc (o := .lst [V.int i]) ha
  refine h S σ _ p0 _ fun d v S1 H1 s1 d1 ⟨n, e, hn, q⟩ => ?_
  subst e
  cases d1
  have e1 : H1 a = some (.lst [V.int i]) := s1.h a _ b0.2.2 upd_same
  refine ⟨a, n, [V.int i], rfl, rfl, e1, by omega, by omega, by rw [Int.toNat_natCast, List.length_singleton, Nat.one_mul]; exact line_of hn, fun l hl => ?_⟩
  have b1 := (p0.step s1).base.none0 hl
  have st : Stp K C S H S1 (upd H1 l (.lst (List.replicate n [V.int i]).flatten)) := by
    have s0 : Stp K C S H S (upd H a (.lst [V.int i])) := Step.stp ⟨Ex.refl S, p.base.ex.trans (Ex.new ha), Ex.new ha, fun _ _ _ _ n => n⟩ p.base
    exact (s0.trans s1).trans (Step.stp ⟨Ex.refl S1, s1.k.trans (Ex.new hl), Ex.new hl, fun _ _ _ _ n => n⟩ (p0.step s1).base)
  have fl : (List.replicate n [V.int i]).flatten = List.replicate n (V.int i) := by
    rw [List.flatten_replicate_singleton]
  have da : DpAll K S1 (List.replicate n [V.int i]).flatten (List.replicate n (PyData.int i)) := by
    rw [fl]
    exact dpa_rep n
  exact k _ l _ S1 _ st b1.1 b1.2.1 b1.2.2 upd_same da (fun j es e => (p0.step s1).fresh (c := .row) hl j es e) q
/-- l[k] = .. in a list of the def's own -/
theorem ws_setOwn {i : Nat} {ds : List D} {tk : TE} (hi : env[i]? = some (some (.own ds))) (h : WE K C te env fun d => WE K C tk env fun kd => ∃ k : Nat, kd = .int (k : Int) ∧ k < ds.length ∧ P.nx (env.set i (some (.own (ds.set k d))))) :
    WS K C (tAsg te (gSub (tVar i) tk rSetL)) env P := fun S σ H p X k1 k2 k3 k4 => by
  refine h S σ H p _ fun d v S1 H1 s1 d1 h1 => ?_
  have p1 := p.step s1
  obtain ⟨w, e0, _⟩ := p1.slot i _ hi
  refine ⟨w, e0, ?_⟩
  refine h1 S1 σ H1 p1 _ fun kd y S2 H2 s2 d2 ⟨k, ek, hk, q⟩ => ?_
  subst ek
  cases d2
  have p2 := p1.step s2
  obtain ⟨w', e0', a, xs, rfl, n1, n0, nr, f1, f2⟩ := p2.slot i _ hi
  have ew : w = .ref a := Option.some.inj (Option.some.inj (e0.symm.trans e0'))
  subst ew
  have hl := dpa_len f2
  refine ⟨a, xs, (k : Int), k, rfl, rfl, f1, ?_, ?_⟩
  · unfold ixN
    simp
    omega
  have dset : ∀ {vs : List V} {es : List D} {k : Nat}, DpAll K S2 vs es → DpAll K S2 (vs.set k v) (es.set k d) := by
    intro vs
    induction vs with
    | nil => intro es k h; cases h; exact .nil
    | cons u us ih =>
      intro es k h
      cases h with
      | cons c t =>
        cases k with
        | zero => exact .cons (dp_mono s2.s _ _ d1) t
        | succ k => exact .cons c (ih t)
  have p3 := p2.put i (xs := xs.set k v) (ds := ds.set k d) n1 n0 nr (dset f2) (fun j es hj e e2 => p2.apart i j ds es _ (fun z => hj z.symm) hi e e0' e2) (nd_lst f1)
  have hset : σ.set i (some (.ref a)) = σ := by
    apply List.ext_getElem?
    intro m
    by_cases hm : i = m
    · subst hm
      rw [e0', List.getElem?_set_self]
      exact (List.getElem?_eq_some_iff.mp e0').1
    · rw [List.getElem?_set_ne hm]
  rw [hset] at p3
  exact k1 _ S2 σ _ p3 (s1.s.trans s2.s) q
end
end Rf
namespace Rf
open PySem PySem.Spec PyProof.Rows L2 Evl
section
variable {K : PySem.W.Frag} {C : Fm} {env : En} {t1 t2 : TE} {P : Po}
/-- x, y = .., a new list of the def's own, by a tuple -/
theorem ws_tup2Own {i j n : Nat} (hn : n = 2) (hij : i ≠ j) (h : WE K C t1 env fun d => WO K C t2 env fun es => P.nx ((env.set i (some (.dat d))).set j (some (.own es)))) :
    WS K C (tAsg (tTup (tCons t1 (tCons t2 tNil))) (gTup K n (gCons (gName i) (gCons (gName j) gNil)))) env P := fun S σ H p X k1 k2 k3 k4 => by
  refine h S σ H p _ fun d v S1 H1 s1 d1 h2 => ?_
  refine h2 S1 σ H1 (p.step s1) _ fun es a xs S2 H2 s2 n1 n2 n3 e1 d2 fr q => ?_
  have st := s1.trans s2
  refine ⟨by show 2 ≤ sizeLine; decide, fun c hc => ?_⟩
  have hca : a ≠ c := fun z => by rw [z] at e1; rw [hc] at e1; cases e1
  have e2 : upd H2 c (.tup [v, V.ref a]) a = some (.lst xs) := by rw [upd_ne hca]; exact e1
  have p2 := ((p.step st).alloc (o := .tup [v, V.ref a]) hc).set i (dp_mono s2.s _ _ d1)
  have p3 := p2.put j n1 n2 n3 d2 (fun m es' _ e => by
    by_cases hm : i = m
    · subst hm
      by_cases hl : i < env.length
      · rw [List.getElem?_set_self hl] at e; cases e
      · rw [List.getElem?_eq_none (by rw [List.length_set]; omega)] at e; cases e
    · rw [List.getElem?_set_ne hm] at e ⊢
      exact fr m es' e) (nd_lst e2)
  rw [upd_own e2] at p3
  refine ⟨c, _, rfl, SqT.of upd_same, hn.symm, ?_⟩
  exact ⟨_, _, rfl, _, _, rfl, rfl, k1 _ S2 _ _ p3 st.s q⟩
end
end Rf
set_option Elab.async false
set_option linter.all false
namespace Rf
open PySem
theorem divInt_lt {a b c d : Int} (hb : 0 < b) (hd : 0 < d) : Rat.divInt a b < Rat.divInt c d ↔ a * d < c * b := by
  have h : Rat.divInt c d ≤ Rat.divInt a b ↔ c * b ≤ a * d := by
    rw [Rat.le_iff_sub_nonneg, Rat.divInt_sub_divInt _ _ (by omega) (by omega), Rat.divInt_nonneg_iff_of_pos_right (Int.mul_pos hb hd)]
    omega
  rw [← Rat.not_le, h]
  omega
theorem divInt_eq' {a b c d : Int} (hb : 0 < b) (hd : 0 < d) : Rat.divInt a b = Rat.divInt c d ↔ a * d = c * b := Rat.divInt_eq_divInt_iff (by omega) (by omega)
/-- a before b -/
def Lx (a b : P3) : Prop := qx a < qx b ∨ (qx a = qx b ∧ qy a < qy b)
theorem sign_neg {x : Int} : x.sign = -1 ↔ x < 0 := Int.sign_eq_neg_one_iff_neg
theorem ord_cases {a b : P3} (ha : Nm a) (hb : Nm b) : (Lx a b ∧ ord a b = -1) ∨ (Lx b a ∧ ord a b = 1) ∨ (qx a = qx b ∧ qy a = qy b ∧ ord a b = 0) := by
  have x1 := divInt_lt (a := a.1) (c := b.1) ha.1 hb.1
  have x2 := divInt_lt (a := b.1) (c := a.1) hb.1 ha.1
  have x3 := divInt_eq' (a := a.1) (c := b.1) ha.1 hb.1
  have y1 := divInt_lt (a := a.2.1) (c := b.2.1) ha.1 hb.1
  have y2 := divInt_lt (a := b.2.1) (c := a.2.1) hb.1 ha.1
  have y3 := divInt_eq' (a := a.2.1) (c := b.2.1) ha.1 hb.1
  change qx a < qx b ↔ _ at x1
  change qx b < qx a ↔ _ at x2
  change qx a = qx b ↔ _ at x3
  change qy a < qy b ↔ _ at y1
  change qy b < qy a ↔ _ at y2
  change qy a = qy b ↔ _ at y3
  unfold ord Lx
  rcases Int.lt_trichotomy (a.1 * b.2.2 - b.1 * a.2.2) 0 with c | c | c
  · have e := Int.sign_eq_neg_one_of_neg c
    rw [e, if_pos (by decide)]
    exact .inl ⟨.inl (x1.mpr (by omega)), rfl⟩
  · rw [c, Int.sign_zero, if_neg (by decide)]
    have ex := x3.mpr (by omega)
    rcases Int.lt_trichotomy (a.2.1 * b.2.2 - b.2.1 * a.2.2) 0 with c | c | c
    · rw [Int.sign_eq_neg_one_of_neg c]
      exact .inl ⟨.inr ⟨ex, y1.mpr (by omega)⟩, rfl⟩
    · rw [c]
      exact .inr (.inr ⟨ex, y3.mpr (by omega), rfl⟩)
    · rw [Int.sign_eq_one_of_pos c]
      exact .inr (.inl ⟨.inr ⟨ex.symm, y2.mpr (by omega)⟩, rfl⟩)
  · have e := Int.sign_eq_one_of_pos c
    rw [e, if_pos (by decide)]
    exact .inr (.inl ⟨.inl (x2.mpr (by omega)), rfl⟩)
theorem Lx.irrefl {a b : P3} (h : Lx a b) : ¬ Lx b a := by unfold Lx at *; grind
theorem Lx.trans {a b c : P3} (h : Lx a b) (g : Lx b c) : Lx a c := by unfold Lx at *; grind
theorem Lx.ne {a b : P3} (h : Lx a b) : ¬ (qx a = qx b ∧ qy a = qy b) := by unfold Lx at *; grind
theorem ord_neg {a b : P3} (ha : Nm a) (hb : Nm b) : ord a b < 0 ↔ Lx a b := by
  rcases ord_cases ha hb with ⟨h, e⟩ | ⟨h, e⟩ | ⟨h1, h2, e⟩
  · rw [e]; exact ⟨fun _ => h, fun _ => by decide⟩
  · rw [e]; exact ⟨fun z => absurd z (by decide), fun z => absurd h z.irrefl⟩
  · rw [e]; exact ⟨fun z => absurd z (by decide), fun z => absurd ⟨h1, h2⟩ z.ne⟩
theorem ord_pos {a b : P3} (ha : Nm a) (hb : Nm b) : 0 < ord a b ↔ Lx b a := by
  rcases ord_cases ha hb with ⟨h, e⟩ | ⟨h, e⟩ | ⟨h1, h2, e⟩
  · rw [e]; exact ⟨fun z => absurd z (by decide), fun z => absurd h z.irrefl⟩
  · rw [e]; exact ⟨fun _ => h, fun _ => by decide⟩
  · rw [e]; exact ⟨fun z => absurd z (by decide), fun z => absurd ⟨h1.symm, h2.symm⟩ z.ne⟩
theorem ord_zero {a b : P3} (ha : Nm a) (hb : Nm b) : ord a b = 0 ↔ a = b := by
  constructor
  · intro h
    rcases ord_cases ha hb with ⟨_, e⟩ | ⟨_, e⟩ | ⟨h1, h2, e⟩
    · omega
    · omega
    · exact pt_ext ha hb h1 h2
  · rintro rfl
    rcases ord_cases ha ha with ⟨h, e⟩ | ⟨h, e⟩ | ⟨h1, h2, e⟩
    · exact absurd h h.irrefl
    · exact absurd h h.irrefl
    · exact e
theorem ord_tri {a b : P3} (ha : Nm a) (hb : Nm b) : Lx a b ∨ Lx b a ∨ a = b := by
  rcases ord_cases ha hb with ⟨h, e⟩ | ⟨h, e⟩ | ⟨h1, h2, e⟩
  · exact .inl h
  · exact .inr (.inl h)
  · exact .inr (.inr (pt_ext ha hb h1 h2))
/-- p on the segment: between its ends in the order -/
theorem prod_sign {a b p : P3} (ha : Nm a) (hb : Nm b) (hp : Nm p) : 0 ≤ ord a p * ord p b ↔ (p = a ∨ p = b ∨ (Lx a p ∧ Lx p b) ∨ (Lx p a ∧ Lx b p)) := by
  rcases ord_cases ha hp with ⟨h, e⟩ | ⟨h, e⟩ | ⟨h1, h2, e⟩
  · rcases ord_cases hp hb with ⟨g, f⟩ | ⟨g, f⟩ | ⟨g1, g2, f⟩
    · rw [e, f]
      exact ⟨fun _ => .inr (.inr (.inl ⟨h, g⟩)), fun _ => by decide⟩
    · rw [e, f]
      refine ⟨fun z => absurd z (by decide), ?_⟩
      rintro (rfl | rfl | ⟨_, z⟩ | ⟨z, _⟩)
      · exact absurd h h.irrefl
      · exact absurd g g.irrefl
      · exact absurd g z.irrefl
      · exact absurd h z.irrefl
    · rw [e, f]
      exact ⟨fun _ => .inr (.inl (pt_ext hp hb g1 g2)), fun _ => by decide⟩
  · rcases ord_cases hp hb with ⟨g, f⟩ | ⟨g, f⟩ | ⟨g1, g2, f⟩
    · rw [e, f]
      refine ⟨fun z => absurd z (by decide), ?_⟩
      rintro (rfl | rfl | ⟨z, _⟩ | ⟨_, z⟩)
      · exact absurd h h.irrefl
      · exact absurd g g.irrefl
      · exact absurd h z.irrefl
      · exact absurd g z.irrefl
    · rw [e, f]
      exact ⟨fun _ => .inr (.inr (.inr ⟨h, g⟩)), fun _ => by decide⟩
    · rw [e, f]
      exact ⟨fun _ => .inr (.inl (pt_ext hp hb g1 g2)), fun _ => by decide⟩
  · rw [e, Int.zero_mul]
    exact ⟨fun _ => .inl (pt_ext hp ha h1.symm h2.symm), fun _ => Int.le_refl _⟩
theorem det_same (a p : P3) : det a a p = 0 := by
  obtain ⟨x, y, w⟩ := a
  obtain ⟨x', y', w'⟩ := p
  simp only [det]
  grind
theorem det_end (a b : P3) : det a b a = 0 := by
  obtain ⟨x, y, w⟩ := a
  obtain ⟨x', y', w'⟩ := b
  simp only [det]
  grind
theorem btw_off {a b p : P3} (h : (det a b p).sign ≠ 0) : btw a b p = decide (p = a) := by
  unfold btw
  rw [decide_eq_false h, Bool.false_and]
  symm
  exact decide_eq_false fun e => h (by rw [e, det_end]; rfl)
theorem btw_one {a p : P3} (ha : Nm a) (hp : Nm p) : btw a a p = decide (p = a) := by
  unfold btw
  rw [det_same, Int.sign_zero, decide_eq_true rfl, Bool.true_and]
  have h := prod_sign ha ha hp
  rw [Bool.eq_iff_iff, decide_eq_true_eq, decide_eq_true_eq, h]
  constructor
  · rintro (h | h | ⟨h1, h2⟩ | ⟨h1, h2⟩)
    · exact h
    · exact h
    · exact absurd h1 h2.irrefl
    · exact absurd h1 h2.irrefl
  · exact .inl
theorem btw_low {a b p : P3} (ha : Nm a) (hb : Nm b) (hp : Nm p) (hd : (det a b p).sign = 0) (hab : Lx a b) : btw a b p = (decide (ord a p ≤ 0) && decide (ord p b ≤ 0)) := by
  unfold btw
  rw [decide_eq_true hd, Bool.true_and, Bool.eq_iff_iff, Bool.and_eq_true, decide_eq_true_eq, decide_eq_true_eq, decide_eq_true_eq, prod_sign ha hb hp]
  have p1 := ord_pos ha hp
  have p2 := ord_pos hp hb
  have t1 := ord_tri ha hp
  have t2 := ord_tri hp hb
  constructor
  · rintro (rfl | rfl | ⟨h1, h2⟩ | ⟨h1, h2⟩)
    · have z := (ord_zero ha ha).mpr rfl
      have n : ¬ 0 < ord p b := fun z => (hab.irrefl) (p2.mp z)
      omega
    · have z := (ord_zero hb hb).mpr rfl
      have n : ¬ 0 < ord a p := fun z => (hab.irrefl) (p1.mp z)
      omega
    · have n : ¬ 0 < ord a p := fun z => (h1.irrefl) (p1.mp z)
      have n2 : ¬ 0 < ord p b := fun z => (h2.irrefl) (p2.mp z)
      omega
    · exact absurd (h2.trans h1) hab.irrefl
  · rintro ⟨h1, h2⟩
    rcases t1 with t1 | t1 | t1
    · rcases t2 with t2 | t2 | t2
      · exact .inr (.inr (.inl ⟨t1, t2⟩))
      · have := p2.mpr t2; omega
      · exact .inr (.inl t2)
    · have := p1.mpr t1; omega
    · exact .inl t1.symm
theorem btw_swap {a b p : P3} (ha : Nm a) (hb : Nm b) (hp : Nm p) : btw a b p = btw b a p := by
  have hd : det b a p = -det a b p := by
    obtain ⟨x, y, w⟩ := a
    obtain ⟨x', y', w'⟩ := b
    obtain ⟨x2, y2, w2⟩ := p
    simp only [det]
    grind
  unfold btw
  have h1 := prod_sign ha hb hp
  have h2 := prod_sign hb ha hp
  congr 1
  · rw [hd, Int.sign_neg, Bool.eq_iff_iff, decide_eq_true_eq, decide_eq_true_eq]
    omega
  rw [Bool.eq_iff_iff, decide_eq_true_eq, decide_eq_true_eq, h1, h2]
  constructor
  · rintro (h | h | ⟨h1, h2⟩ | ⟨h1, h2⟩)
    · exact .inr (.inl h)
    · exact .inl h
    · exact .inr (.inr (.inr ⟨h2, h1⟩))
    · exact .inr (.inr (.inl ⟨h2, h1⟩))
  · rintro (h | h | ⟨h1, h2⟩ | ⟨h1, h2⟩)
    · exact .inr (.inl h)
    · exact .inl h
    · exact .inr (.inr (.inr ⟨h2, h1⟩))
    · exact .inr (.inr (.inl ⟨h2, h1⟩))
theorem btw_high {a b p : P3} (ha : Nm a) (hb : Nm b) (hp : Nm p) (hd : (det a b p).sign = 0) (hab : Lx b a) : btw a b p = (decide (ord b p ≤ 0) && decide (ord p a ≤ 0)) := by
  have hd' : (det b a p).sign = 0 := by
    have : det b a p = -det a b p := by
      obtain ⟨x, y, w⟩ := a
      obtain ⟨x', y', w'⟩ := b
      obtain ⟨x2, y2, w2⟩ := p
      simp only [det]
      grind
    rw [this, Int.sign_neg, hd]; rfl
  rw [← btw_low hb ha hp hd' hab]
  exact btw_swap ha hb hp
theorem rat_tri (a b : Rat) : a < b ∨ a = b ∨ b < a := by grind
/-- a point of the line, told by its place on it -/
theorem btw_on1 {a b p : P3} (ha : Nm a) (hb : Nm b) (hp : Nm p) (t : Rat) (hx : qx p = qx a + t * (qx b - qx a)) (hy : qy p = qy a + t * (qy b - qy a)) (h : Lx a b) : btw a b p = decide (0 ≤ t ∧ t ≤ 1) := by
  have hd : (det a b p).sign = 0 := by
    have : det a b p = 0 := (det_sign ha hb hp).mpr (by rw [ar_eq ha hb hp, hx, hy]; grind)
    rw [this]; rfl
  have e : a ≠ b := fun z => by subst z; exact h.irrefl h
  · unfold btw
    rw [decide_eq_true hd, Bool.true_and, Bool.eq_iff_iff, decide_eq_true_eq, decide_eq_true_eq, prod_sign ha hb hp]
    have lt_mul : ∀ {s u : Rat}, 0 < s → 0 < u → 0 < s * u := fun h g => Rat.mul_pos h g
    have key : ∀ {u : Rat}, 0 < u → ((0 < t * u ↔ 0 < t) ∧ (t * u < 0 ↔ t < 0) ∧ (t * u < u ↔ t < 1) ∧ (u < t * u ↔ 1 < t) ∧ (t * u = 0 ↔ t = 0) ∧ (t * u = u ↔ t = 1)) := fun {u} hu => by
      have k1 := Rat.mul_pos_iff_of_pos_right (a := t) hu
      have k2 := Rat.mul_neg_iff_of_pos_right (a := t) hu
      have k3 := Rat.mul_lt_mul_right (a := t) (b := 1) hu
      have k4 := Rat.mul_lt_mul_right (a := 1) (b := t) hu
      rw [Rat.one_mul] at k3 k4
      refine ⟨k1, k2, k3, k4, ?_, ?_⟩
      · constructor
        · intro z; grind
        · intro z; rw [z]; grind
      · constructor
        · intro z; grind
        · intro z; rw [z]; grind
    · -- a before b
      have pa : p = a ↔ t = 0 := by
        constructor
        · rintro rfl
          rcases h with h | ⟨h, g⟩
          · have := (key (u := qx b - qx p) (by grind)).2.2.2.2.1
            exact this.mp (by grind)
          · have := (key (u := qy b - qy p) (by grind)).2.2.2.2.1
            exact this.mp (by grind)
        · rintro rfl
          exact pt_ext hp ha (by rw [hx]; grind) (by rw [hy]; grind)
      have pb : p = b ↔ t = 1 := by
        constructor
        · rintro rfl
          rcases h with h | ⟨h, g⟩
          · have := (key (u := qx p - qx a) (by grind)).2.2.2.2.2
            exact this.mp (by grind)
          · have := (key (u := qy p - qy a) (by grind)).2.2.2.2.2
            exact this.mp (by grind)
        · rintro rfl
          exact pt_ext hp hb (by rw [hx]; grind) (by rw [hy]; grind)
      have lap : Lx a p ↔ 0 < t := by
        unfold Lx
        rcases h with h | ⟨h, g⟩
        · have k := key (u := qx b - qx a) (by grind)
          grind
        · have k := key (u := qy b - qy a) (by grind)
          have e0 : qx p = qx a := by rw [hx, h]; grind
          grind
      have lpb : Lx p b ↔ t < 1 := by
        unfold Lx
        rcases h with h | ⟨h, g⟩
        · have k := key (u := qx b - qx a) (by grind)
          grind
        · have k := key (u := qy b - qy a) (by grind)
          have e0 : qx p = qx b := by rw [hx, h]; grind
          grind
      have lpa : Lx p a → t < 0 := fun z => by
        rcases rat_tri t 0 with c | c | c
        · exact c
        · have := pa.mpr c
          subst this
          exact absurd z z.irrefl
        · exact absurd (lap.mpr c) z.irrefl
      have lbp : Lx b p → 1 < t := fun z => by
        rcases rat_tri t 1 with c | c | c
        · exact absurd (lpb.mpr c) z.irrefl
        · have := pb.mpr c
          subst this
          exact absurd z z.irrefl
        · exact c
      rw [pa, pb, lap, lpb]
      constructor
      · rintro (h | h | h | ⟨h1, h2⟩)
        · grind
        · grind
        · grind
        · have := lpa h1
          have := lbp h2
          grind
      · rintro ⟨h1, h2⟩
        grind
theorem btw_on {a b p : P3} (ha : Nm a) (hb : Nm b) (hp : Nm p) (t : Rat) (hx : qx p = qx a + t * (qx b - qx a)) (hy : qy p = qy a + t * (qy b - qy a)) : btw a b p = (decide (0 ≤ t ∧ t ≤ 1) || decide (a = b)) := by
  rcases ord_tri ha hb with h | h | h
  · rw [btw_on1 ha hb hp t hx hy h, decide_eq_false (p := a = b) (fun z => by subst z; exact h.irrefl h), Bool.or_false]
  · rw [btw_swap ha hb hp, btw_on1 hb ha hp (1 - t) (by rw [hx]; grind) (by rw [hy]; grind) h, decide_eq_false (p := a = b) (fun z => by subst z; exact h.irrefl h), Bool.or_false, Bool.eq_iff_iff, decide_eq_true_eq, decide_eq_true_eq]
    constructor <;> (rintro ⟨h1, h2⟩; grind)
  · subst h
    rw [btw_one ha hp, decide_eq_true (show a = a from rfl), Bool.or_true]
    exact decide_eq_true (pt_ext hp ha (by rw [hx]; grind) (by rw [hy]; grind))
end Rf
set_option Elab.async false
set_option linter.all false
namespace Rf
open PySem
/-! rationals with small numbers, lines -/
def pr (a : Int × Int) : D := .tuple [.int a.1, .int a.2]
def PrOk (a : Int × Int) : Prop := a.2 ≠ 0 ∧ Bd 1000 a.1 ∧ Bd 1000 a.2
abbrev qr (a : Int × Int) : Rat := Rat.divInt a.1 a.2
/-- a rational whose two numbers are small -/
def QB (n : Nat) (q : Rat) : Prop := Bd n q.num ∧ Bd n (q.den : Int)
theorem rat_le {u l : Int} (h : l ≠ 0) : (Rat.divInt u l).num.natAbs ≤ u.natAbs ∧ (Rat.divInt u l).den ≤ l.natAbs := by
  have g1 : (Nat.gcd u.natAbs l.natAbs : Int) ∣ u := Int.ofNat_dvd_left.mpr (Nat.gcd_dvd_left _ _)
  have g2 : (Nat.gcd u.natAbs l.natAbs : Int) ∣ l := Int.ofNat_dvd_left.mpr (Nat.gcd_dvd_right _ _)
  have g0 : (Nat.gcd u.natAbs l.natAbs : Int) ≠ 0 := by
    have : 0 < Nat.gcd u.natAbs l.natAbs := Nat.gcd_pos_of_pos_right _ (by omega)
    omega
  obtain ⟨e1, e2⟩ := rr_eq (u := u) (l := l) h
  have s0 := sg_ne (l := l) g0
  have d1 := dvd_fdiv s0 (sg_dvd (l := l) g1)
  have d2 := dvd_fdiv s0 (sg_dvd (l := l) g2)
  rw [e1] at d1
  rw [e2] at d2
  constructor
  · conv => rhs; rw [d1]
    exact abs_le_mul s0
  · have := abs_le_mul (a := ((Rat.divInt u l).den : Int)) s0
    rw [← d2] at this
    omega
theorem QB.of {n : Nat} {u l : Int} (h : l ≠ 0) (h1 : Bd n u) (h2 : Bd n l) : QB n (Rat.divInt u l) :=
  ⟨Nat.lt_of_le_of_lt (rat_le h).1 h1, Nat.lt_of_le_of_lt (show ((Rat.divInt u l).den : Int).natAbs ≤ l.natAbs from (rat_le h).2) h2⟩
theorem QB.mono {a b : Nat} {q : Rat} (h : QB a q) (l : a ≤ b) : QB b q := ⟨h.1.mono l, h.2.mono l⟩
theorem QB.ok {n : Nat} {q : Rat} (h : QB n q) (l : n ≤ 1000) : PrOk (q.num, (q.den : Int)) :=
  ⟨by have := q.den_nz; simp only; omega, h.1.mono l, h.2.mono l⟩
theorem qr_self (q : Rat) : qr (q.num, (q.den : Int)) = q := Rat.num_divInt_den q
theorem den_ne (q : Rat) : (q.den : Int) ≠ 0 := by have := q.den_nz; omega
theorem den_pos (q : Rat) : 0 < (q.den : Int) := by have := q.den_nz; omega
theorem den2 (q r : Rat) : ((q.den : Int) * (r.den : Int)) ≠ 0 := Int.mul_ne_zero (den_ne q) (den_ne r)
theorem QB.mul {a b : Nat} {q r : Rat} (h : QB a q) (g : QB b r) : QB (a + b) (q * r) := by
  have e : q * r = Rat.divInt (q.num * r.num) ((q.den : Int) * (r.den : Int)) := by
    rw [← Rat.divInt_mul_divInt, Rat.num_divInt_den, Rat.num_divInt_den]
  rw [e]
  exact QB.of (Int.mul_ne_zero (den_ne q) (den_ne r)) (h.1.mul g.1) (h.2.mul g.2)
theorem QB.add {a b : Nat} {q r : Rat} (h : QB a q) (g : QB b r) : QB (a + b + 1) (q + r) := by
  have e : q + r = Rat.divInt (q.num * (r.den : Int) + r.num * (q.den : Int)) ((q.den : Int) * (r.den : Int)) := by
    rw [← Rat.divInt_add_divInt _ _ (den_ne q) (den_ne r), Rat.num_divInt_den, Rat.num_divInt_den]
  rw [e]
  exact QB.of (Int.mul_ne_zero (den_ne q) (den_ne r)) (((h.1.mul g.2).add (g.1.mul h.2)).mono (by omega)) ((h.2.mul g.2).mono (by omega))
theorem QB.neg {a : Nat} {q : Rat} (h : QB a q) : QB a (-q) := ⟨show Bd a (-q.num) from h.1.neg, show Bd a (q.den : Int) from h.2⟩
theorem qx_bd {n : Nat} {p : P3} (hp : 0 < p.2.2) (h : BP n p) : QB n (qx p) := QB.of (by omega) h.1 h.2.2
theorem qy_bd {n : Nat} {p : P3} (hp : 0 < p.2.2) (h : BP n p) : QB n (qy p) := QB.of (by omega) h.2.1 h.2.2
theorem divInt_cross (q r : Rat) : Rat.divInt (q.num * (r.den : Int)) ((q.den : Int) * (r.den : Int)) = q := by
  rw [← Rat.divInt_mul_divInt, Rat.num_divInt_den, Rat.divInt_self' (den_ne r), Rat.mul_one]
theorem divInt_cross' (q r : Rat) : Rat.divInt (q.num * (r.den : Int)) ((r.den : Int) * (q.den : Int)) = q := by
  rw [Int.mul_comm (r.den : Int), divInt_cross]
theorem rt_zero : rt 0 = .tuple [.int 0, .int 1] := rfl
theorem num_sign {a b : Int} (hb : 0 < b) : (Rat.divInt a b).num.sign = a.sign := by
  obtain ⟨e1, e2⟩ := rr_eq (u := a) (l := b) (by omega)
  have e : (Rat.divInt a b).num * b = a * ((Rat.divInt a b).den : Int) := by
    have := Rat.num_divInt_den (Rat.divInt a b)
    exact (Rat.divInt_eq_divInt_iff (den_ne _) (by omega)).mp this
  have h := congrArg Int.sign e
  rw [Int.sign_mul, Int.sign_mul, Int.sign_eq_one_of_pos hb, Int.sign_eq_one_of_pos (den_pos _), Int.mul_one, Int.mul_one] at h
  exact h
theorem neg_divInt0 (a b : Int) : Rat.divInt (-a) b = - Rat.divInt a b := (Rat.neg_divInt a b).symm
/-- the point itself -/
theorem low_self {p : P3} (h : Nm p) : low p.1 p.2.1 p.2.2 = p := by
  have hw : p.2.2 ≠ 0 := by have := h.1; omega
  exact pt_ext (low_nm hw) h (low_qx hw) (low_qy hw)
/-! ### lines -/
def Ln (l : Rat × Rat) : D := .tuple [rt l.1, rt l.2]
def hgt (l : Rat × Rat) (p : P3) : Int := (p.2.1 * (l.1.den : Int) * (l.2.den : Int) - l.1.num * p.1 * (l.2.den : Int) - l.2.num * p.2.2 * (l.1.den : Int)).sign
def upQ (l : Rat × Rat) (p : P3) : Rat := qy p + -(l.1 * qx p + l.2)
theorem hgt_eq {l : Rat × Rat} {p : P3} (hp : 0 < p.2.2) : hgt l p = (upQ l p).num.sign := by
  have e : upQ l p = Rat.divInt (p.2.1 * (l.1.den : Int) * (l.2.den : Int) - l.1.num * p.1 * (l.2.den : Int) - l.2.num * p.2.2 * (l.1.den : Int)) (p.2.2 * (l.1.den : Int) * (l.2.den : Int)) := by
    have e1 : l.1 = ((l.1.num : Int) : Rat) / (((l.1.den : Int)) : Rat) := by rw [← divInt_eq, Rat.num_divInt_den]
    have e2 : l.2 = ((l.2.num : Int) : Rat) / (((l.2.den : Int)) : Rat) := by rw [← divInt_eq, Rat.num_divInt_den]
    have h1 : (((l.1.den : Int)) : Rat) ≠ 0 := by have := den_ne l.1; exact_mod_cast this
    have h2 : (((l.2.den : Int)) : Rat) ≠ 0 := by have := den_ne l.2; exact_mod_cast this
    have h3 : ((p.2.2 : Int) : Rat) ≠ 0 := by
      have : p.2.2 ≠ 0 := by omega
      exact_mod_cast this
    unfold upQ qx qy
    conv => lhs; rw [e1, e2]
    generalize ((l.1.den : Int)) = d1 at *
    generalize ((l.2.den : Int)) = d2 at *
    generalize l.1.num = n1 at *
    generalize l.2.num = n2 at *
    simp only [divInt_eq, Rat.intCast_mul, Rat.intCast_sub]
    grind
  rw [e, num_sign (Int.mul_pos (Int.mul_pos hp (den_pos _)) (den_pos _))]
  rfl
def dlP (l : Rat × Rat) : P3 := low (l.1.num * (l.2.den : Int)) (-l.2.num * (l.1.den : Int)) ((l.1.den : Int) * (l.2.den : Int))
theorem dl_qx (l : Rat × Rat) : qx (dlP l) = l.1 := by rw [dlP, low_qx (den2 _ _), divInt_cross]
theorem dl_qy (l : Rat × Rat) : qy (dlP l) = -l.2 := by
  rw [dlP, low_qy (den2 _ _), Int.neg_mul, neg_divInt0, divInt_cross']
theorem dl_nm (l : Rat × Rat) : Nm (dlP l) := low_nm (den2 _ _)
theorem dl_bd {n : Nat} {l : Rat × Rat} (h1 : QB n l.1) (h2 : QB n l.2) : BP (2 * n) (dlP l) := by
  obtain ⟨l1, l2, l3⟩ := low_le (x := l.1.num * (l.2.den : Int)) (y := -l.2.num * (l.1.den : Int)) (den2 l.1 l.2)
  have m1 := h1.1.mul h2.2
  have m2 := h2.1.neg.mul h1.2
  have m3 := h1.2.mul h2.2
  exact ⟨Nat.lt_of_le_of_lt l1 (m1.mono (by omega)), Nat.lt_of_le_of_lt l2 (m2.mono (by omega)), Nat.lt_of_le_of_lt l3 (m3.mono (by omega))⟩
def dpL (p : P3) : Rat × Rat := (qx p, -qy p)
theorem dl_dp {p : P3} (h : Nm p) : dlP (dpL p) = p := pt_ext (dl_nm _) h (dl_qx _) (by rw [dl_qy]; show - -qy p = qy p; rw [Rat.neg_neg])
theorem dp_dl (l : Rat × Rat) : dpL (dlP l) = l := by
  show (qx (dlP l), -qy (dlP l)) = l
  rw [dl_qx, dl_qy, Rat.neg_neg]
theorem up_dual (l : Rat × Rat) (p : P3) : upQ (dpL p) (dlP l) = upQ l p := by
  unfold upQ
  rw [dl_qx, dl_qy]
  show -l.2 + -(qx p * l.1 + -qy p) = qy p + -(l.1 * qx p + l.2)
  grind
theorem eqv_Ln (l m : Rat × Rat) : PyData.eqv (Ln l) (Ln m) = decide (l = m) := by
  rw [Bool.eq_iff_iff]
  have h1 := eqv_rt l.1 m.1
  have h2 := eqv_rt l.2 m.2
  have e : PyData.eqv (Ln l) (Ln m) = (PyData.eqv (rt l.1) (rt m.1) && (PyData.eqv (rt l.2) (rt m.2) && true)) := by
    simp only [Ln, PyData.eqv, PyData.eqvAll]
  rw [e, h1, h2]
  simp only [Bool.and_true, Bool.and_eq_true, decide_eq_true_eq]
  constructor
  · rintro ⟨a, b⟩; exact Prod.ext a b
  · rintro rfl; exact ⟨rfl, rfl⟩
end Rf
set_option Elab.async false
set_option linter.all false
set_option maxRecDepth 100000
namespace Rf
open PySem
/-! the order of points by rows of integers -/
/-- the least common multiple of the last coordinates -/
def lcw (ps : List P3) : Nat := ps.foldl (fun c p => Nat.lcm c p.2.2.natAbs) 1
theorem lcw_snoc (ps : List P3) (p : P3) : lcw (ps ++ [p]) = Nat.lcm (lcw ps) p.2.2.natAbs := by
  unfold lcw
  rw [List.foldl_append]
  rfl
theorem lcw_dvd : ∀ (ps : List P3) (p : P3), p ∈ ps → p.2.2.natAbs ∣ lcw ps := by
  have gen : ∀ (qs : List P3) (n : Nat), n ∣ qs.foldl (fun c p => Nat.lcm c p.2.2.natAbs) n ∧ ∀ p ∈ qs, p.2.2.natAbs ∣ qs.foldl (fun c p => Nat.lcm c p.2.2.natAbs) n := by
    intro qs
    induction qs with
    | nil => intro n; exact ⟨Nat.dvd_refl _, fun p h => nomatch h⟩
    | cons q qs ih =>
      intro n
      rw [List.foldl_cons]
      obtain ⟨h1, h2⟩ := ih (Nat.lcm n q.2.2.natAbs)
      refine ⟨Nat.dvd_trans (Nat.dvd_lcm_left _ _) h1, fun p hp => ?_⟩
      rcases List.mem_cons.mp hp with rfl | hp
      · exact Nat.dvd_trans (Nat.dvd_lcm_right _ _) h1
      · exact h2 p hp
  exact fun ps p hp => (gen ps 1).2 p hp
theorem lcw_pos : ∀ (ps : List P3), (∀ p ∈ ps, 0 < p.2.2) → 0 < lcw ps := by
  have gen : ∀ (qs : List P3) (n : Nat), 0 < n → (∀ p ∈ qs, 0 < p.2.2) → 0 < qs.foldl (fun c p => Nat.lcm c p.2.2.natAbs) n := by
    intro qs
    induction qs with
    | nil => intro n h _; exact h
    | cons q qs ih =>
      intro n h hq
      rw [List.foldl_cons]
      have := hq q List.mem_cons_self
      exact ih _ (Nat.lcm_pos h (by omega)) fun p hp => hq p (List.mem_cons_of_mem _ hp)
  exact fun ps h => gen ps 1 (by decide) h
def rowsOf (c : Int) (ps : List P3) : List P3 := ps.mapIdx fun k p => (p.1 * (c.fdiv p.2.2), p.2.1 * (c.fdiv p.2.2), (k : Int))
theorem rowsOf_len (c : Int) (ps : List P3) : (rowsOf c ps).length = ps.length := by simp [rowsOf]
theorem rowsOf_at {c : Int} {ps : List P3} {i : Nat} : (rowsOf c ps)[i]? = ps[i]?.map fun p => (p.1 * (c.fdiv p.2.2), p.2.1 * (c.fdiv p.2.2), (i : Int)) := by simp [rowsOf]
theorem sc_lt {x w m x' w' m' c : Int} (hw : 0 < w) (hw' : 0 < w') (hc : 0 < c) (e : m * w = c) (e' : m' * w' = c) : x * m < x' * m' ↔ x * w' < x' * w := by
  have hp : 0 < w * w' := Int.mul_pos hw hw'
  have a1 : x * m * (w * w') = c * (x * w') := by rw [← e]; grind
  have a2 : x' * m' * (w * w') = c * (x' * w) := by rw [← e']; grind
  constructor
  · intro h
    have := Int.mul_lt_mul_of_pos_right h hp
    rw [a1, a2] at this
    exact Int.lt_of_mul_lt_mul_left this (Int.le_of_lt hc)
  · intro h
    have := Int.mul_lt_mul_of_pos_left h hc
    rw [← a1, ← a2] at this
    exact Int.lt_of_mul_lt_mul_right this (Int.le_of_lt hp)
/-- rows in their order, by the points -/
theorem row_lx {p q : P3} {c i j : Int} (hp : Nm p) (hq : Nm q) (hc : 0 < c) (dp : (p.2.2 : Int) ∣ c) (dq : (q.2.2 : Int) ∣ c) (hne : p ≠ q)
    (h : lx3 (q.1 * (c.fdiv q.2.2), q.2.1 * (c.fdiv q.2.2), j) (p.1 * (c.fdiv p.2.2), p.2.1 * (c.fdiv p.2.2), i) = false) : Lx p q := by
  have e1 : c.fdiv p.2.2 * p.2.2 = c := by rw [Int.mul_comm]; exact (dvd_fdiv (Int.ne_of_gt hp.1) dp).symm
  have e2 : c.fdiv q.2.2 * q.2.2 = c := by rw [Int.mul_comm]; exact (dvd_fdiv (Int.ne_of_gt hq.1) dq).symm
  have x1 := sc_lt (x := q.1) (x' := p.1) hq.1 hp.1 hc e2 e1
  have x2 := sc_lt (x := q.2.1) (x' := p.2.1) hq.1 hp.1 hc e2 e1
  have x3 := sc_lt (x := p.1) (x' := q.1) hp.1 hq.1 hc e1 e2
  have x4 := sc_lt (x := p.2.1) (x' := q.2.1) hp.1 hq.1 hc e1 e2
  have h := of_decide_eq_false h
  simp only at h
  have k1 : ¬ q.1 * (c.fdiv q.2.2) < p.1 * (c.fdiv p.2.2) := fun z => h (.inl z)
  by_cases c1 : p.1 * (c.fdiv p.2.2) < q.1 * (c.fdiv q.2.2)
  · exact .inl ((divInt_lt hp.1 hq.1).mpr (x3.mp c1))
  · have c2 : q.1 * (c.fdiv q.2.2) = p.1 * (c.fdiv p.2.2) := by omega
    have k2 : ¬ q.2.1 * (c.fdiv q.2.2) < p.2.1 * (c.fdiv p.2.2) := fun z => h (.inr ⟨c2, .inl z⟩)
    have ex : qx p = qx q := (divInt_eq' hp.1 hq.1).mpr (by
      have a := fun z => k1 (x1.mpr z)
      have b := fun z => c1 (x3.mpr z)
      omega)
    refine .inr ⟨ex, ?_⟩
    by_cases c3 : p.2.1 * (c.fdiv p.2.2) < q.2.1 * (c.fdiv q.2.2)
    · exact (divInt_lt hp.1 hq.1).mpr (x4.mp c3)
    · have ey : qy p = qy q := (divInt_eq' hp.1 hq.1).mpr (by
        have a := fun z => k2 (x2.mpr z)
        have b := fun z => c3 (x4.mpr z)
        omega)
      exact absurd (pt_ext hp hq ex ey) hne
/-- the places in the order of the points -/
def Rank (ps : List P3) (ks : List Nat) : Prop := ks.Perm (List.range ps.length) ∧ ks.Pairwise fun i j => ∃ p q, ps[i]? = some p ∧ ps[j]? = some q ∧ Lx p q
theorem rank_of {ps us : List P3} (hnd : ps.Nodup) (hn : ∀ p ∈ ps, Nm p) (hp : us.Perm (rowsOf (lcw ps) ps)) (hw : us.Pairwise fun x y => lx3 y x = false) : ∃ ks : List Nat, (us.map fun u => (.int u.2.2 : D)) = ks.map (fun k : Nat => PyData.int (k : Int)) ∧ Rank ps ks := by
  have mem : ∀ u ∈ us, ∃ (i : Nat) (p : P3), ps[i]? = some p ∧ u = (p.1 * ((lcw ps : Int).fdiv p.2.2), p.2.1 * ((lcw ps : Int).fdiv p.2.2), (i : Int)) := fun u hu => by
    have := hp.mem_iff.mp hu
    obtain ⟨i, hi⟩ := List.mem_iff_getElem?.mp this
    rw [rowsOf_at] at hi
    cases q : ps[i]? with
    | none => rw [q] at hi; cases hi
    | some p => rw [q] at hi; exact ⟨i, p, q, (Option.some.inj hi).symm⟩
  have perm : (us.map fun u => u.2.2.toNat).Perm (List.range ps.length) := by
    have e : (rowsOf (lcw ps) ps).map (fun u => u.2.2.toNat) = List.range ps.length := by
      apply List.ext_getElem?
      intro i
      rw [List.getElem?_map, rowsOf_at]
      by_cases hi : i < ps.length
      · rw [List.getElem?_eq_getElem hi]
        simp [hi]
      · rw [List.getElem?_eq_none (by omega), List.getElem?_eq_none (by simp; omega)]
        rfl
    rw [← e]
    exact hp.map _
  refine ⟨us.map fun u => u.2.2.toNat, ?_, perm, ?_⟩
  · rw [List.map_map]
    refine List.map_congr_left fun u hu => ?_
    obtain ⟨i, p, _, rfl⟩ := mem u hu
    rfl
  · have nd : (us.map fun u => u.2.2.toNat).Nodup := perm.nodup_iff.mpr List.nodup_range
    have pw := hw.and (List.pairwise_map.mp nd)
    refine List.pairwise_map.mpr (pw.imp_of_mem ?_)
    rintro u v hu hv ⟨h1, h2⟩
    obtain ⟨i, p, ei, rfl⟩ := mem u hu
    obtain ⟨j, q, ej, rfl⟩ := mem v hv
    have mp := List.mem_of_getElem? ei
    have mq := List.mem_of_getElem? ej
    have np := hn p mp
    have nq := hn q mq
    have dv : ∀ r ∈ ps, 0 < r.2.2 → (r.2.2 : Int) ∣ (lcw ps : Int) := fun r hr h0 => by
      have := lcw_dvd ps r hr
      have e : ((r.2.2.natAbs : Nat) : Int) = r.2.2 := by omega
      rw [← e]
      exact Int.natCast_dvd_natCast.mpr this
    refine ⟨p, q, by simpa using ei, by simpa using ej, row_lx np nq ?_ (dv p mp np.1) (dv q mq nq.1) ?_ h1⟩
    · have := lcw_pos ps fun r hr => (hn r hr).1
      omega
    · rintro rfl
      refine h2 ?_
      have i1 := (List.getElem?_eq_some_iff.mp ei).1
      have i2 := (List.getElem?_eq_some_iff.mp ej).1
      have : i = j := (List.getElem?_inj i1 hnd).mp (ei.trans ej.symm)
      simp [this]
theorem rank_list {ps : List P3} {ks : List Nat} (h : Rank ps ks) : (ks.map fun k => ps.getD k (0, 0, 0)).Perm ps ∧ (ks.map fun k => ps.getD k (0, 0, 0)).Pairwise Lx ∧ ∀ k ∈ ks, k < ps.length := by
  refine ⟨?_, ?_, fun k hk => by have := h.1.mem_iff.mp hk; simpa using this⟩
  · have e : (List.range ps.length).map (fun k => ps.getD k (0, 0, 0)) = ps := by
      apply List.ext_getElem?
      intro i
      rw [List.getElem?_map]
      by_cases hi : i < ps.length
      · simp [hi]
      · rw [List.getElem?_eq_none (by simp; omega), List.getElem?_eq_none (by omega)]
        rfl
    have := h.1.map fun k => ps.getD k (0, 0, 0)
    rwa [e] at this
  · refine List.pairwise_map.mpr (h.2.imp ?_)
    rintro i j ⟨p, q, e1, e2, l⟩
    simp only [List.getD, e1, e2, Option.getD_some]
    exact l
theorem atI_last {α : Type} {xs : List α} (h : xs ≠ []) : L2.atI xs (-1) = some (xs.getLast h) := by
  have hl : 0 < xs.length := List.length_pos_iff.mpr h
  unfold L2.atI L2.ixN
  rw [if_neg (by decide), if_pos (by omega), Option.bind_some, List.getLast_eq_getElem]
  have e : (-1 + (xs.length : Int)).toNat = xs.length - 1 := by omega
  rw [e, List.getElem?_eq_getElem (by omega)]
/-- what ranking sorts -/
def flatD : D → D
  | .tuple [k, .tuple [x, y]] => .tuple [x, y, k]
  | _ => .none
def thirdD : D → D
  | .tuple [_, _, k] => k
  | _ => .none
def gridD (c : Int) (p : P3) : D := .tuple [.int (p.1 * (c.fdiv p.2.2)), .int (p.2.1 * (c.fdiv p.2.2))]
def gridF (c : Int) : D → D
  | .tuple [.int x, .int y, .int w] => gridD c (x, y, w)
  | _ => .none
theorem gridF_map (c : Int) (ps : List P3) : (ps.map pt).map (gridF c) = ps.map (gridD c) := by
  rw [List.map_map]
  rfl
theorem enD_inv {ds : List D} {i : Nat} {d : D} (h : (enD ds)[i]? = some d) : ∃ x, ds[i]? = some x ∧ d = .tuple [.int (i : Int), x] := by
  have hi := (List.getElem?_eq_some_iff.mp h).1
  rw [enD_len] at hi
  rw [enD_at (List.getElem?_eq_getElem hi)] at h
  exact ⟨_, List.getElem?_eq_getElem hi, (Option.some.inj h).symm⟩
theorem grid_at {c : Int} {ps : List P3} {i : Nat} {x : D} (h : (ps.map (gridD c))[i]? = some x) : ∃ p, ps[i]? = some p ∧ x = gridD c p := by
  rw [List.getElem?_map] at h
  cases q : ps[i]? with
  | none => rw [q] at h; cases h
  | some p => rw [q] at h; exact ⟨p, rfl, (Option.some.inj h).symm⟩
theorem flat_rows (c : Int) (ps : List P3) : (enD (ps.map (gridD c))).map flatD = (rowsOf c ps).map pt := by
  apply List.ext_getElem?
  intro i
  rw [List.getElem?_map, List.getElem?_map, rowsOf_at]
  cases q : ps[i]? with
  | none =>
    have : ps.length ≤ i := List.getElem?_eq_none_iff.mp q
    rw [List.getElem?_eq_none (by rw [enD_len, List.length_map]; exact this)]
    rfl
  | some p =>
    rw [enD_at (d := gridD c p) (by rw [List.getElem?_map, q]; rfl)]
    rfl
theorem third_pt (us : List P3) : (us.map pt).map thirdD = us.map fun u => (.int u.2.2 : D) := by
  rw [List.map_map]
  rfl
theorem map_at {ps : List P3} {i : Nat} {d : D} (h : (ps.map pt)[i]? = some d) : ∃ p, ps[i]? = some p ∧ d = pt p := by
  rw [List.getElem?_map] at h
  cases q : ps[i]? with
  | none => rw [q] at h; cases h
  | some p => rw [q] at h; exact ⟨p, rfl, (Option.some.inj h).symm⟩
end Rf
set_option Elab.async false
set_option linter.all false
set_option maxRecDepth 100000
namespace Rf
open PySem
/-! where two lines meet; lists of points in their order -/
/-- the point with these coordinates -/
def pq (x y : Rat) : P3 := low (x.num * (y.den : Int)) (y.num * (x.den : Int)) ((x.den : Int) * (y.den : Int))
theorem pq_nm (x y : Rat) : Nm (pq x y) := low_nm (den2 x y)
theorem pq_qx (x y : Rat) : qx (pq x y) = x := by rw [pq, low_qx (den2 x y), divInt_cross]
theorem pq_qy (x y : Rat) : qy (pq x y) = y := by rw [pq, low_qy (den2 x y), divInt_cross']
theorem pq_bd {n m : Nat} {x y : Rat} (h1 : QB n x) (h2 : QB m y) : BP (n + m) (pq x y) := by
  obtain ⟨l1, l2, l3⟩ := low_le (x := x.num * (y.den : Int)) (y := y.num * (x.den : Int)) (den2 x y)
  exact ⟨Nat.lt_of_le_of_lt l1 (h1.1.mul h2.2), Nat.lt_of_le_of_lt l2 ((h2.1.mul h1.2).mono (by omega)), Nat.lt_of_le_of_lt l3 (h1.2.mul h2.2)⟩
theorem pq_self {p : P3} (h : Nm p) : pq (qx p) (qy p) = p := pt_ext (pq_nm _ _) h (pq_qx _ _) (pq_qy _ _)
/-- where two lines meet -/
def crx (l m : Rat × Rat) : Rat := (m.2 - l.2) / (l.1 - m.1)
def crn (l m : Rat × Rat) : P3 := pq (crx l m) (l.1 * crx l m + l.2)
theorem crx_swap (l m : Rat × Rat) : crx l m = crx m l := by
  unfold crx
  rw [show m.2 - l.2 = -(l.2 - m.2) by grind, show l.1 - m.1 = -(m.1 - l.1) by grind]
  by_cases h : m.1 - l.1 = 0
  · rw [h]; grind
  · grind
theorem crn_nm (l m : Rat × Rat) : Nm (crn l m) := pq_nm _ _
theorem crn_on (l m : Rat × Rat) : upQ l (crn l m) = 0 := by
  unfold upQ crn
  rw [pq_qx, pq_qy]
  grind
theorem crn_swap {l m : Rat × Rat} (h : l.1 ≠ m.1) : crn l m = crn m l := by
  unfold crn
  rw [crx_swap m l]
  congr 1
  unfold crx
  have : l.1 - m.1 ≠ 0 := by grind
  grind
/-- the point on both lines -/
theorem crn_of {l m : Rat × Rat} (h : l.1 ≠ m.1) {p : P3} (hp : Nm p) (h1 : upQ l p = 0) (h2 : upQ m p = 0) : p = crn l m := by
  have ex : qx p = crx l m := by
    unfold crx
    unfold upQ at h1 h2
    have : l.1 - m.1 ≠ 0 := by grind
    grind
  refine pt_ext hp (crn_nm _ _) (by rw [ex, crn, pq_qx]) ?_
  rw [crn, pq_qy, ← ex]
  unfold upQ at h1
  grind
/-- .. by whole numbers -/
theorem crn_low {l m : Rat × Rat} (h : l.1 ≠ m.1) {X Y W : Int} (hW : W ≠ 0)
    (hx : Rat.divInt X W = crx l m) (hy : Rat.divInt Y W = l.1 * crx l m + l.2) : low X Y W = crn l m := by
  refine pt_ext (low_nm hW) (crn_nm _ _) ?_ ?_
  · rw [low_qx hW, hx, crn, pq_qx]
  · rw [low_qy hW, hy, crn, pq_qy]
theorem cr_r1 {a b c d u v s t : Rat} (hb : b ≠ 0) (hd : d ≠ 0) (hv : v ≠ 0) (ht : t ≠ 0) (hz : a * v - u * b ≠ 0) :
    ((s * d - c * t) * b * v * b * d) / ((a * v - u * b) * d * t * b * d) = (s / t - c / d) / (a / b - u / v) := by
  have e1 : a / b - u / v = (a * v - u * b) / (b * v) := by grind
  have e2 : s / t - c / d = (s * d - c * t) / (t * d) := by grind
  rw [e1, e2]
  generalize a * v - u * b = Z at hz ⊢
  generalize s * d - c * t = Y
  clear e1 e2
  grind
theorem cr_r2 {a b c d u v s t : Rat} (hb : b ≠ 0) (hd : d ≠ 0) (hv : v ≠ 0) (ht : t ≠ 0) (hz : a * v - u * b ≠ 0) :
    (a * ((s * d - c * t) * b * v) * d + c * ((a * v - u * b) * d * t) * b) / ((a * v - u * b) * d * t * b * d) = a / b * ((s / t - c / d) / (a / b - u / v)) + c / d := by
  rw [← cr_r1 hb hd hv ht hz]
  generalize a * v - u * b = Z at hz ⊢
  generalize s * d - c * t = Y
  grind
theorem crn_ints {l m : Rat × Rat} (h : l.1 ≠ m.1) {a b c d u v s t : Int} (ea : a = l.1.num) (eb : b = (l.1.den : Int)) (ec : c = l.2.num) (ed : d = (l.2.den : Int)) (eu : u = m.1.num) (ev : v = (m.1.den : Int)) (es : s = m.2.num) (et : t = (m.2.den : Int)) :
    (a * v - u * b) * d * t * b * d ≠ 0 ∧ low ((s * d - c * t) * b * v * b * d) (a * ((s * d - c * t) * b * v) * d + c * ((a * v - u * b) * d * t) * b) ((a * v - u * b) * d * t * b * d) = crn l m := by
  have hb : b ≠ 0 := by rw [eb]; exact den_ne _
  have hd : d ≠ 0 := by rw [ed]; exact den_ne _
  have hv : v ≠ 0 := by rw [ev]; exact den_ne _
  have ht : t ≠ 0 := by rw [et]; exact den_ne _
  have q1 : l.1 = (a : Rat) / (b : Rat) := by rw [← divInt_eq, ea, eb, Rat.num_divInt_den]
  have q2 : l.2 = (c : Rat) / (d : Rat) := by rw [← divInt_eq, ec, ed, Rat.num_divInt_den]
  have q3 : m.1 = (u : Rat) / (v : Rat) := by rw [← divInt_eq, eu, ev, Rat.num_divInt_den]
  have q4 : m.2 = (s : Rat) / (t : Rat) := by rw [← divInt_eq, es, et, Rat.num_divInt_den]
  have hb' : (b : Rat) ≠ 0 := by exact_mod_cast hb
  have hd' : (d : Rat) ≠ 0 := by exact_mod_cast hd
  have hv' : (v : Rat) ≠ 0 := by exact_mod_cast hv
  have ht' : (t : Rat) ≠ 0 := by exact_mod_cast ht
  have hz : a * v - u * b ≠ 0 := fun z => h (by
    rw [q1, q3]
    have z : (a : Rat) * (v : Rat) - (u : Rat) * (b : Rat) = 0 := by exact_mod_cast z
    grind)
  have hz' : (a : Rat) * (v : Rat) - (u : Rat) * (b : Rat) ≠ 0 := by exact_mod_cast hz
  have hW : (a * v - u * b) * d * t * b * d ≠ 0 := Int.mul_ne_zero (Int.mul_ne_zero (Int.mul_ne_zero (Int.mul_ne_zero hz hd) ht) hb) hd
  refine ⟨hW, crn_low h hW ?_ ?_⟩
  · unfold crx
    rw [q1, q2, q3, q4, divInt_eq]
    simp only [Rat.intCast_mul, Rat.intCast_sub]
    exact cr_r1 hb' hd' hv' ht' hz'
  · unfold crx
    rw [q1, q2, q3, q4, divInt_eq]
    simp only [Rat.intCast_mul, Rat.intCast_sub, Rat.intCast_add]
    exact cr_r2 hb' hd' hv' ht' hz'
/-- a list in its order is told by its members -/
theorem sorted_one : ∀ {ps qs : List P3}, ps.Pairwise Lx → qs.Pairwise Lx → (∀ p, p ∈ ps ↔ p ∈ qs) → ps = qs
  | [], [], _, _, _ => rfl
  | [], q :: qs, _, _, h => absurd ((h q).mpr (by simp)) (by simp)
  | p :: ps, [], _, _, h => absurd ((h p).mp (by simp)) (by simp)
  | p :: ps, q :: qs, h1, h2, h => by
    rw [List.pairwise_cons] at h1 h2
    have e : p = q := by
      rcases List.mem_cons.mp ((h p).mp (by simp)) with e | hp
      · exact e
      · rcases List.mem_cons.mp ((h q).mpr (by simp)) with e | hq
        · exact e.symm
        · exact absurd (h1.1 q hq) (h2.1 p hp).irrefl
    subst e
    congr 1
    refine sorted_one h1.2 h2.2 fun x => ?_
    constructor
    · intro hx
      rcases List.mem_cons.mp ((h x).mp (List.mem_cons_of_mem _ hx)) with e | hx'
      · subst e
        exact absurd (h1.1 x hx) (h1.1 x hx).irrefl
      · exact hx'
    · intro hx
      rcases List.mem_cons.mp ((h x).mpr (List.mem_cons_of_mem _ hx)) with e | hx'
      · subst e
        exact absurd (h2.1 x hx) (h2.1 x hx).irrefl
      · exact hx'
theorem crn_bd {l m : Rat × Rat} (h : l.1 ≠ m.1) (h1 : QB 24 l.1) (h2 : QB 24 l.2) (h3 : QB 24 m.1) (h4 : QB 24 m.2) : BP 200 (crn l m) ∧ (crn l m).2.2.natAbs ≤ 2 ^ 145 := by
  obtain ⟨hW, e⟩ := crn_ints h rfl rfl rfl rfl rfl rfl rfl rfl
  obtain ⟨l1, l2, l3⟩ := low_le (x := (m.2.num * (l.2.den : Int) - l.2.num * (m.2.den : Int)) * (l.1.den : Int) * (m.1.den : Int) * (l.1.den : Int) * (l.2.den : Int))
    (y := l.1.num * ((m.2.num * (l.2.den : Int) - l.2.num * (m.2.den : Int)) * (l.1.den : Int) * (m.1.den : Int)) * (l.2.den : Int) + l.2.num * ((l.1.num * (m.1.den : Int) - m.1.num * (l.1.den : Int)) * (l.2.den : Int) * (m.2.den : Int)) * (l.1.den : Int)) hW
  rw [e] at l1 l2 l3
  have r := (h4.1.mul h2.2).sub (h2.1.mul h4.2)
  have sl := (h1.1.mul h3.2).sub (h3.1.mul h1.2)
  have bW := (((sl.mul h2.2).mul h4.2).mul h1.2).mul h2.2
  have bX := (((r.mul h1.2).mul h3.2).mul h1.2).mul h2.2
  have bY := ((h1.1.mul ((r.mul h1.2).mul h3.2)).mul h2.2).add ((h2.1.mul ((sl.mul h2.2).mul h4.2)).mul h1.2)
  refine ⟨⟨Nat.lt_of_le_of_lt l1 (bX.mono (by decide)), Nat.lt_of_le_of_lt l2 (bY.mono (by decide)), Nat.lt_of_le_of_lt l3 (bW.mono (by decide))⟩, ?_⟩
  exact Nat.le_of_lt (Nat.lt_of_le_of_lt l3 (bW.mono (by decide)))
theorem lcw_pow {B : Nat} : ∀ (ps : List P3), (∀ p ∈ ps, p.2.2.natAbs ≤ B) → lcw ps ≤ B ^ ps.length := by
  intro ps
  have gen : ∀ (qs : List P3) (n : Nat), (∀ p ∈ qs, p.2.2.natAbs ≤ B) → qs.foldl (fun c p => Nat.lcm c p.2.2.natAbs) n ≤ n * B ^ qs.length := by
    intro qs
    induction qs with
    | nil => intro n _; simp
    | cons q qs ih =>
      intro n h
      rw [List.foldl_cons]
      refine Nat.le_trans (ih _ fun p hp => h p (List.mem_cons_of_mem _ hp)) ?_
      have hq := h q List.mem_cons_self
      have l1 : Nat.lcm n q.2.2.natAbs ≤ n * B := Nat.le_trans (Nat.div_le_self _ _) (Nat.mul_le_mul_left n hq)
      rw [List.length_cons, Nat.pow_succ, Nat.mul_comm (B ^ qs.length), ← Nat.mul_assoc]
      exact Nat.mul_le_mul_right _ l1
  intro h
  have := gen ps 1 h
  rw [Nat.one_mul] at this
  exact this
/-- how many lines lie below a point -/
def lev (ls : List (Rat × Rat)) (p : P3) : Nat := (ls.filter fun l => decide (0 < upQ l p)).length
theorem sign_one (q : Rat) : q.num.sign = 1 ↔ 0 < q := by
  rw [Int.sign_eq_one_iff_pos]
  have h := divInt_lt (a := 0) (b := 1) (c := q.num) (d := (q.den : Int)) (by decide) (den_pos q)
  rw [Rat.num_divInt_den, show Rat.divInt 0 1 = 0 from rfl, Int.zero_mul, Int.mul_one] at h
  exact h.symm
theorem lev_count {ls : List (Rat × Rat)} {p : P3} (hp : 0 < p.2.2) : (ls.map fun l => hgt l p).count 1 = lev ls p := by
  unfold lev
  rw [List.count_eq_countP, List.countP_map, List.countP_eq_length_filter]
  congr 1
  apply List.filter_congr
  intro l _
  show (hgt l p == 1) = decide (0 < upQ l p)
  rw [hgt_eq hp, Bool.eq_iff_iff, beq_iff_eq, decide_eq_true_eq]
  exact sign_one _
/-- where two of the lines meet -/
def CorP (ls : List (Rat × Rat)) (p : P3) : Prop := ∃ (i j : Nat) (l m : Rat × Rat), i < j ∧ ls[i]? = some l ∧ ls[j]? = some m ∧ p = crn l m
end Rf
namespace Cm
theorem mem_cmbs : ∀ {lo n r : Nat} {c : List Nat}, c ∈ cmbs lo n r ↔ c.length = r ∧ c.Pairwise (· < ·) ∧ ∀ x ∈ c, lo ≤ x ∧ x < lo + n
  | lo, n, 0, c => by
    simp only [cmbs, List.mem_singleton]
    constructor
    · rintro rfl
      exact ⟨rfl, .nil, fun x hx => nomatch hx⟩
    · rintro ⟨h, _, _⟩
      exact List.length_eq_zero_iff.mp h
  | lo, 0, r + 1, c => by
    constructor
    · intro h; cases h
    · rintro ⟨h1, _, h3⟩
      cases c with
      | nil => cases h1
      | cons x t =>
        have := h3 x (by simp)
        omega
  | lo, n + 1, r + 1, c => by
    simp only [cmbs, List.mem_append, List.mem_map]
    constructor
    · rintro (⟨t, h, rfl⟩ | h)
      · obtain ⟨h1, h2, h3⟩ := mem_cmbs.mp h
        refine ⟨by rw [List.length_cons, h1], List.pairwise_cons.mpr ⟨fun x hx => by have := h3 x hx; omega, h2⟩, fun x hx => ?_⟩
        rcases List.mem_cons.mp hx with rfl | hx
        · omega
        · have := h3 x hx; omega
      · obtain ⟨h1, h2, h3⟩ := mem_cmbs.mp h
        exact ⟨h1, h2, fun x hx => by have := h3 x hx; omega⟩
    · rintro ⟨h1, h2, h3⟩
      cases c with
      | nil => cases h1
      | cons x t =>
        rw [List.pairwise_cons] at h2
        have hx := h3 x (by simp)
        by_cases e : x = lo
        · subst e
          refine .inl ⟨t, mem_cmbs.mpr ⟨by simpa using h1, h2.2, fun y hy => ?_⟩, rfl⟩
          have := h2.1 y hy
          have := h3 y (List.mem_cons_of_mem _ hy)
          omega
        · refine .inr (mem_cmbs.mpr ⟨h1, List.pairwise_cons.mpr h2, fun y hy => ?_⟩)
          have h4 := h3 y hy
          rcases List.mem_cons.mp hy with rfl | hy
          · omega
          · have := h2.1 y hy
            omega
end Cm
set_option Elab.async false
set_option linter.all false
set_option maxRecDepth 100000
set_option maxHeartbeats 4000000
set_option exponentiation.threshold 20000
namespace Rf
open PySem PySem.Spec PyProof.Rows L2 Evl
local macro_rules | `(tactic| walk_at "bd") => `(tactic| first
  | assumption
  | ((with_reducible apply Bd.mul) <;> walk_at "bd")
  | ((with_reducible apply Bd.add) <;> walk_at "bd")
  | ((with_reducible apply Bd.sub) <;> walk_at "bd")
  | ((with_reducible apply Bd.neg); walk_at "bd")
  | (show Bd 64 _; decide))
local macro_rules | `(tactic| walk_at "we") => `(tactic| first
  | ((with_reducible refine' we_notInOwn ?hi ?_); (case hi => rfl))
  | ((with_reducible refine' we_lenOwn ?hi ?_); (case hi => rfl))
  | ((with_reducible refine' we_tupleOwn ?hi ?_); (case hi => rfl))
  | ((with_reducible refine' we_ixOwn ?hi ?_); (case hi => rfl))
  | ((with_reducible refine' we_callBOwn ?hi ?hj ?_); (case hi => rfl); (case hj => rfl))
  | ((with_reducible refine' we_callB ?hi ?_); (case hi => rfl))
  | ((with_reducible refine' ws_append ?hi ?_); (case hi => rfl))
  | ((with_reducible refine' ws_catOwn ?hi ?_); (case hi => rfl))
  | ((with_reducible refine' we_var ?hv ?_); (case hv => rfl))
  | with_reducible refine we_int ?_
  | with_reducible refine we_op ?_
  | with_reducible refine wa_cons ?_
  | with_reducible refine wa_nil ?_
  | with_reducible refine rd_I0i ?_
  | with_reducible refine rd_I0b ?_
  | with_reducible refine we_call ?_
  | with_reducible refine ws_seq ?_
  | with_reducible refine ws_asg ?_
  | with_reducible refine ws_ret ?_
  | with_reducible refine ws_if ?_
  | with_reducible refine ws_next ?_
  | with_reducible refine wt_test ?_
  | with_reducible refine wt_B ?_
  | with_reducible refine wt_and ?_
  | with_reducible refine wt_or ?_
  | with_reducible refine wt_not ?_
  | with_reducible refine we_tup ?_
  | with_reducible refine we_lst ?_
  | with_reducible refine we_isInt ?_
  | with_reducible refine we_isBool ?_
  | with_reducible refine we_isStr ?_
  | with_reducible refine we_isTup ?_
  | with_reducible refine we_isList ?_
  | with_reducible refine we_isSeq ?_
  | with_reducible refine we_CB ?_
  | with_reducible refine we_if ?_
  | with_reducible refine we_andV ?_
  | with_reducible refine we_orV ?_
  | with_reducible refine we_notV ?_
  | with_reducible refine we_chain ?_
  | with_reducible refine we_un ?_
  | with_reducible refine ud_U ?_
  | with_reducible refine we_bl ?_
  | with_reducible refine we_non ?_
  | with_reducible refine we_str ?_
  | with_reducible refine ws_par ?_
  | with_reducible refine ws_par3 ?_
  | ((with_reducible refine' we_callR ?hv ?_); (case hv => rfl))
  | with_reducible refine ws_drop ?_
  | with_reducible refine cd_abs ?_
  | with_reducible refine cd_gcd ?_
  | with_reducible refine cd_int ?_
  | with_reducible refine wt_yes ?_
  | with_reducible refine ws_break ?_
  | with_reducible refine ws_cont ?_
  | refine And.intro (Nat.le_of_ble_eq_true rfl) ?_
  | with_reducible refine Exists.intro _ (And.intro rfl ?_)
  | ((with_reducible refine' rd_Ii (cmulW ?b1 ?b2 ?b3) ?_); (case b1 => walk_at "bd"); (case b2 => walk_at "bd"); (case b3 => decide))
  | ((with_reducible refine' rd_ixS (.inl ?h1) ?h2 ?_); (case h1 => rfl); (case h2 => rfl))
  | with_reducible refine ws_asgG ?_
  | with_reducible refine wg_name ?_
  | ((with_reducible refine' wg_tup ?hn ?_); (case hn => rfl))
  | with_reducible refine wgs_cons ?_
  | with_reducible refine wgs_nil ?_)
local macro_rules | `(tactic| walk_at "og") => `(tactic| repeat first
  | with_reducible refine og_tup ?_
  | with_reducible refine og_cons ?_ ?_
  | with_reducible exact og_nil
  | exact og_name (by decide))

def top (i : Nat) : Stmt := PySem.Challenge.pw_meshcore_k22_whole_levels_and_edges.main.body.getD i (.Pass ⟨0, 0, 0, 0⟩)
abbrev s_is_whole : Stmt := top 8
abbrev s_are_numbers : Stmt := top 9
abbrev s_sign : Stmt := top 10
abbrev s_is_ratio : Stmt := top 11
abbrev s_common_divisor : Stmt := top 12
abbrev s_ratio : Stmt := top 13
abbrev s_lowest : Stmt := top 16
abbrev s_is_lowest : Stmt := top 17
abbrev s_is_within : Stmt := top 18
abbrev s_is_point : Stmt := top 19
abbrev s_check_each : Stmt := top 20
abbrev s_on_grid : Stmt := top 21
abbrev s_ranking : Stmt := top 22
abbrev s_is_line : Stmt := top 25
abbrev s_check_lines : Stmt := top 26
abbrev s_height : Stmt := top 27
abbrev s_dual_of_point : Stmt := top 28
abbrev s_common_of_lines : Stmt := top 29
abbrev s_level_corners : Stmt := top 30
abbrev s_law_taken : Stmt := top 32
abbrev s_law_pick : Stmt := top 33
abbrev s_law_signed : Stmt := top 34
abbrev s_law_grid : Stmt := top 35
abbrev s_law_sign : Stmt := top 36
abbrev s_law_doubled : Stmt := top 37
abbrev s_law_turn : Stmt := top 38
abbrev s_law_general : Stmt := top 39
abbrev s_law_gcd : Stmt := top 40
abbrev s_law_ratio : Stmt := top 41
abbrev s_law_times : Stmt := top 42
abbrev s_law_plus : Stmt := top 43
abbrev s_law_lowest : Stmt := top 44
abbrev s_law_corner : Stmt := top 45
abbrev s_law_above : Stmt := top 46
abbrev s_law_alike : Stmt := top 47
abbrev s_law_order : Stmt := top 48
abbrev s_law_ordered : Stmt := top 49
abbrev s_law : Stmt := top 50
structure Tx (K : PySem.W.Frag) (mg : Str → Option Value) : Prop where
  n_isinstance : mg "isinstance" = none
  n_bool : mg "bool" = none
  n_int : mg "int" = none
  n_len : mg "len" = none
  n_tuple : mg "tuple" = none
  n_max : mg "max" = none
  n_abs : mg "abs" = none
  n_sorted : mg "sorted" = none
  n_enumerate : mg "enumerate" = none
  n_list : mg "list" = none
  n_range : mg "range" = none
  n_str : mg "str" = none
  c_LIMIT : ∃ t, mg "LIMIT" = some (.int 1000000000000 t)
  c_MOST_LINES : ∃ t, mg "MOST_LINES" = some (.int 20 t)
  m_gcd : mg "gcd" = some (.builtin "math.gcd")
  m_lcm : mg "lcm" = some (.builtin "math.lcm")
  m_combinations : mg "combinations" = some (.type "itertools.combinations")
  g_is_whole : mg "is_whole" = some (.ref (He.fAd K ("is_whole", none)))
  d_is_whole : FunD K "is_whole" "is_whole" (defArgs s_is_whole) (defBody s_is_whole) (defScope s_is_whole) [] [] (He.fAd K ("is_whole", none)) (fdK K "is_whole")
  g_are_numbers : mg "are_numbers" = some (.ref (He.fAd K ("are_numbers", none)))
  d_are_numbers : FunD K "are_numbers" "are_numbers" (defArgs s_are_numbers) (defBody s_are_numbers) (defScope s_are_numbers) [] [] (He.fAd K ("are_numbers", none)) (fdK K "are_numbers")
  g_sign : mg "sign" = some (.ref (He.fAd K ("sign", none)))
  d_sign : FunD K "sign" "sign" (defArgs s_sign) (defBody s_sign) (defScope s_sign) [] [] (He.fAd K ("sign", none)) (fdK K "sign")
  g_is_ratio : mg "is_ratio" = some (.ref (He.fAd K ("is_ratio", none)))
  d_is_ratio : FunD K "is_ratio" "is_ratio" (defArgs s_is_ratio) (defBody s_is_ratio) (defScope s_is_ratio) [] [] (He.fAd K ("is_ratio", none)) (fdK K "is_ratio")
  g_common_divisor : mg "common_divisor" = some (.ref (He.fAd K ("common_divisor", none)))
  d_common_divisor : FunD K "common_divisor" "common_divisor" (defArgs s_common_divisor) (defBody s_common_divisor) (defScope s_common_divisor) [] [] (He.fAd K ("common_divisor", none)) (fdK K "common_divisor")
  g_ratio : mg "ratio" = some (.ref (He.fAd K ("ratio", none)))
  d_ratio : FunD K "ratio" "ratio" (defArgs s_ratio) (defBody s_ratio) (defScope s_ratio) [] [] (He.fAd K ("ratio", none)) (fdK K "ratio")
  g_lowest : mg "lowest" = some (.ref (He.fAd K ("lowest", none)))
  d_lowest : FunD K "lowest" "lowest" (defArgs s_lowest) (defBody s_lowest) (defScope s_lowest) [] [] (He.fAd K ("lowest", none)) (fdK K "lowest")
  g_is_lowest : mg "is_lowest" = some (.ref (He.fAd K ("is_lowest", none)))
  d_is_lowest : FunD K "is_lowest" "is_lowest" (defArgs s_is_lowest) (defBody s_is_lowest) (defScope s_is_lowest) [] [] (He.fAd K ("is_lowest", none)) (fdK K "is_lowest")
  g_is_within : mg "is_within" = some (.ref (He.fAd K ("is_within", none)))
  d_is_within : FunD K "is_within" "is_within" (defArgs s_is_within) (defBody s_is_within) (defScope s_is_within) [] [] (He.fAd K ("is_within", none)) (fdK K "is_within")
  g_is_point : mg "is_point" = some (.ref (He.fAd K ("is_point", none)))
  d_is_point : FunD K "is_point" "is_point" (defArgs s_is_point) (defBody s_is_point) (defScope s_is_point) [] [] (He.fAd K ("is_point", none)) (fdK K "is_point")
  g_check_each : mg "check_each" = some (.ref (He.fAd K ("check_each", none)))
  d_check_each : FunD K "check_each" "check_each" (defArgs s_check_each) (defBody s_check_each) (defScope s_check_each) [] [] (He.fAd K ("check_each", none)) (fdK K "check_each")
  g_on_grid : mg "on_grid" = some (.ref (He.fAd K ("on_grid", none)))
  d_on_grid : FunD K "on_grid" "on_grid" (defArgs s_on_grid) (defBody s_on_grid) (defScope s_on_grid) [] [] (He.fAd K ("on_grid", none)) (fdK K "on_grid")
  g_ranking : mg "ranking" = some (.ref (He.fAd K ("ranking", none)))
  d_ranking : FunD K "ranking" "ranking" (defArgs s_ranking) (defBody s_ranking) (defScope s_ranking) [] [] (He.fAd K ("ranking", none)) (fdK K "ranking")
  g_is_line : mg "is_line" = some (.ref (He.fAd K ("is_line", none)))
  d_is_line : FunD K "is_line" "is_line" (defArgs s_is_line) (defBody s_is_line) (defScope s_is_line) [] [] (He.fAd K ("is_line", none)) (fdK K "is_line")
  g_check_lines : mg "check_lines" = some (.ref (He.fAd K ("check_lines", none)))
  d_check_lines : FunD K "check_lines" "check_lines" (defArgs s_check_lines) (defBody s_check_lines) (defScope s_check_lines) [] [] (He.fAd K ("check_lines", none)) (fdK K "check_lines")
  g_height : mg "height" = some (.ref (He.fAd K ("height", none)))
  d_height : FunD K "height" "height" (defArgs s_height) (defBody s_height) (defScope s_height) [] [] (He.fAd K ("height", none)) (fdK K "height")
  g_dual_of_point : mg "dual_of_point" = some (.ref (He.fAd K ("dual_of_point", none)))
  d_dual_of_point : FunD K "dual_of_point" "dual_of_point" (defArgs s_dual_of_point) (defBody s_dual_of_point) (defScope s_dual_of_point) [] [] (He.fAd K ("dual_of_point", none)) (fdK K "dual_of_point")
  g_common_of_lines : mg "common_of_lines" = some (.ref (He.fAd K ("common_of_lines", none)))
  d_common_of_lines : FunD K "common_of_lines" "common_of_lines" (defArgs s_common_of_lines) (defBody s_common_of_lines) (defScope s_common_of_lines) [] [] (He.fAd K ("common_of_lines", none)) (fdK K "common_of_lines")
  g_level_corners : mg "level_corners" = some (.ref (He.fAd K ("level_corners", none)))
  d_level_corners : FunD K "level_corners" "level_corners" (defArgs s_level_corners) (defBody s_level_corners) (defScope s_level_corners) [] [] (He.fAd K ("level_corners", none)) (fdK K "level_corners")
  g_law_taken : mg "_law_taken" = some (.ref (He.fAd K ("_law_taken", none)))
  d_law_taken : FunD K "_law_taken" "_law_taken" (defArgs s_law_taken) (defBody s_law_taken) (defScope s_law_taken) [] [] (He.fAd K ("_law_taken", none)) (fdK K "_law_taken")
  g_law_pick : mg "_law_pick" = some (.ref (He.fAd K ("_law_pick", none)))
  d_law_pick : FunD K "_law_pick" "_law_pick" (defArgs s_law_pick) (defBody s_law_pick) (defScope s_law_pick) [] [] (He.fAd K ("_law_pick", none)) (fdK K "_law_pick")
  g_law_signed : mg "_law_signed" = some (.ref (He.fAd K ("_law_signed", none)))
  d_law_signed : FunD K "_law_signed" "_law_signed" (defArgs s_law_signed) (defBody s_law_signed) (defScope s_law_signed) [] [] (He.fAd K ("_law_signed", none)) (fdK K "_law_signed")
  g_law_grid : mg "_law_grid" = some (.ref (He.fAd K ("_law_grid", none)))
  d_law_grid : FunD K "_law_grid" "_law_grid" (defArgs s_law_grid) (defBody s_law_grid) (defScope s_law_grid) [] [] (He.fAd K ("_law_grid", none)) (fdK K "_law_grid")
  g_law_sign : mg "_law_sign" = some (.ref (He.fAd K ("_law_sign", none)))
  d_law_sign : FunD K "_law_sign" "_law_sign" (defArgs s_law_sign) (defBody s_law_sign) (defScope s_law_sign) [] [] (He.fAd K ("_law_sign", none)) (fdK K "_law_sign")
  g_law_doubled : mg "_law_doubled" = some (.ref (He.fAd K ("_law_doubled", none)))
  d_law_doubled : FunD K "_law_doubled" "_law_doubled" (defArgs s_law_doubled) (defBody s_law_doubled) (defScope s_law_doubled) [] [] (He.fAd K ("_law_doubled", none)) (fdK K "_law_doubled")
  g_law_turn : mg "_law_turn" = some (.ref (He.fAd K ("_law_turn", none)))
  d_law_turn : FunD K "_law_turn" "_law_turn" (defArgs s_law_turn) (defBody s_law_turn) (defScope s_law_turn) [] [] (He.fAd K ("_law_turn", none)) (fdK K "_law_turn")
  g_law_general : mg "_law_general" = some (.ref (He.fAd K ("_law_general", none)))
  d_law_general : FunD K "_law_general" "_law_general" (defArgs s_law_general) (defBody s_law_general) (defScope s_law_general) [] [] (He.fAd K ("_law_general", none)) (fdK K "_law_general")
  g_law_gcd : mg "_law_gcd" = some (.ref (He.fAd K ("_law_gcd", none)))
  d_law_gcd : FunD K "_law_gcd" "_law_gcd" (defArgs s_law_gcd) (defBody s_law_gcd) (defScope s_law_gcd) [] [] (He.fAd K ("_law_gcd", none)) (fdK K "_law_gcd")
  g_law_ratio : mg "_law_ratio" = some (.ref (He.fAd K ("_law_ratio", none)))
  d_law_ratio : FunD K "_law_ratio" "_law_ratio" (defArgs s_law_ratio) (defBody s_law_ratio) (defScope s_law_ratio) [] [] (He.fAd K ("_law_ratio", none)) (fdK K "_law_ratio")
  g_law_times : mg "_law_times" = some (.ref (He.fAd K ("_law_times", none)))
  d_law_times : FunD K "_law_times" "_law_times" (defArgs s_law_times) (defBody s_law_times) (defScope s_law_times) [] [] (He.fAd K ("_law_times", none)) (fdK K "_law_times")
  g_law_plus : mg "_law_plus" = some (.ref (He.fAd K ("_law_plus", none)))
  d_law_plus : FunD K "_law_plus" "_law_plus" (defArgs s_law_plus) (defBody s_law_plus) (defScope s_law_plus) [] [] (He.fAd K ("_law_plus", none)) (fdK K "_law_plus")
  g_law_lowest : mg "_law_lowest" = some (.ref (He.fAd K ("_law_lowest", none)))
  d_law_lowest : FunD K "_law_lowest" "_law_lowest" (defArgs s_law_lowest) (defBody s_law_lowest) (defScope s_law_lowest) [] [] (He.fAd K ("_law_lowest", none)) (fdK K "_law_lowest")
  g_law_corner : mg "_law_corner" = some (.ref (He.fAd K ("_law_corner", none)))
  d_law_corner : FunD K "_law_corner" "_law_corner" (defArgs s_law_corner) (defBody s_law_corner) (defScope s_law_corner) [] [] (He.fAd K ("_law_corner", none)) (fdK K "_law_corner")
  g_law_above : mg "_law_above" = some (.ref (He.fAd K ("_law_above", none)))
  d_law_above : FunD K "_law_above" "_law_above" (defArgs s_law_above) (defBody s_law_above) (defScope s_law_above) [] [] (He.fAd K ("_law_above", none)) (fdK K "_law_above")
  g_law_alike : mg "_law_alike" = some (.ref (He.fAd K ("_law_alike", none)))
  d_law_alike : FunD K "_law_alike" "_law_alike" (defArgs s_law_alike) (defBody s_law_alike) (defScope s_law_alike) [] [] (He.fAd K ("_law_alike", none)) (fdK K "_law_alike")
  g_law_order : mg "_law_order" = some (.ref (He.fAd K ("_law_order", none)))
  d_law_order : FunD K "_law_order" "_law_order" (defArgs s_law_order) (defBody s_law_order) (defScope s_law_order) [] [] (He.fAd K ("_law_order", none)) (fdK K "_law_order")
  g_law_ordered : mg "_law_ordered" = some (.ref (He.fAd K ("_law_ordered", none)))
  d_law_ordered : FunD K "_law_ordered" "_law_ordered" (defArgs s_law_ordered) (defBody s_law_ordered) (defScope s_law_ordered) [] [] (He.fAd K ("_law_ordered", none)) (fdK K "_law_ordered")
  g_law : mg "law" = some (.ref (He.fAd K ("law", none)))
  d_law : FunD K "law" "law" (defArgs s_law) (defBody s_law) (defScope s_law) [] [] (He.fAd K ("law", none)) (fdK K "law")
section
variable {P : Program} {w : World} {K : PySem.W.Frag} {mg : Str → Option Value} {base : Heap}
abbrev N_is_whole : List Str := ["value"]
theorem sc_is_whole : FnScope N_is_whole ["value"] (defScope s_is_whole) := ⟨rfl, rfl, rfl, by decide +kernel, rfl, by decide +kernel, by decide +kernel⟩
theorem b_is_whole (T : Tx K mg) : Binds K (fdK K "is_whole") ["value"] [] := T.d_is_whole.bindsN fun _ _ _ _ _ _ us hl => match us, hl with | [_], _ => rfl
def isWholeD : D → Bool
  | .int _ => true
  | _ => false

abbrev sp_is_whole (K : PySem.W.Frag) : Sp := spD K (fun d : D => [d]) (fun _ => True) (fun d r => r = .bool (isWholeD d))
theorem ok_is_whole (T : Tx K mg) : FnOk P w K mg base CX0 1 (He.fAd K ("is_whole", none)) (fdK K "is_whole") ["value"] (sp_is_whole K) := by
  refine okD T.d_is_whole sc_is_whole ?len (fun cdv A outer s H E hr => ⟨_, (pss_one (ps_ret (pe_and (pe_callB (call_isiK' (K := K) rfl) (by rfl) T.n_isinstance PyProof.Rows.boot_isinstance (pa_cons (pv 0) (pa_cons (pe_bltn (v := .ty "int") (by rfl) T.n_int PyProof.Rows.boot_int rfl) pa_nil))) (pe_one (pe_not (pe_callB (call_isiK' (K := K) rfl) (by rfl) T.n_isinstance PyProof.Rows.boot_isinstance (pa_cons (pv 0) (pa_cons (pe_bltn (v := .ty "bool") (by rfl) T.n_bool PyProof.Rows.boot_bool rfl) pa_nil)))))))), ?rd⟩)
  case len =>
    intro a h; rfl

  case rd =>
  intro d _ C _
  (try dsimp only [cxOf, Cx.nox, Cx.wish]); show WS K C _ [some (.dat _)] _
  repeat walk_at "we"
  refine ⟨fun h => ?_, fun h => ?_⟩
  · repeat walk_at "we"
    skip
    cases d <;> first | rfl | cases h
  · cases d <;> first | rfl | cases h

abbrev N_are_numbers : List Str := ["value", "many", "number"]
theorem sc_are_numbers : FnScope N_are_numbers ["value", "many"] (defScope s_are_numbers) := ⟨rfl, rfl, rfl, by decide +kernel, rfl, by decide +kernel, by decide +kernel⟩
theorem b_are_numbers (T : Tx K mg) : Binds K (fdK K "are_numbers") ["value", "many"] [] := T.d_are_numbers.bindsN fun _ _ _ _ _ _ us hl => match us, hl with | [_, _], _ => rfl
theorem an_snoc {α : Type} {l : List α} {i : Nat} {x : α} (h : l[i]? = some x) : l.take (i + 1) = l.take i ++ [x] := by
  rw [List.take_succ, h]
  rfl
/-- a tuple of n integers -/
def areNumsD (d : D) (n : Int) : Bool := match d with
  | .tuple ds => decide ((ds.length : Int) = n) && ds.all isWholeD
  | _ => false

abbrev sp_are_numbers (K : PySem.W.Frag) : Sp := spD K (fun a : D × Int => [a.1, .int a.2]) (fun _ => True) (fun a r => r = .bool (areNumsD a.1 a.2))
theorem ok_are_numbers (T : Tx K mg) : FnOk P w K mg base CX0 2 (He.fAd K ("are_numbers", none)) (fdK K "are_numbers") ["value", "many"] (sp_are_numbers K) := by
  have G_is_whole := ok_is_whole (P := P) (w := w) (base := base) T
  refine okD T.d_are_numbers sc_are_numbers ?len (fun cdv A outer s H E hr => ⟨_, (pss_cons (ps_if (PW.pt (pw_or (pt_not (pt_val (pe_callB (call_isiK' (K := K) rfl) (by rfl) T.n_isinstance PyProof.Rows.boot_isinstance (pa_cons (pv 0) (pa_cons (pe_bltn (v := .ty "tuple") (by rfl) T.n_tuple PyProof.Rows.boot_tuple rfl) pa_nil))))) (pw_or1 (pt_cmpR (op_neDK (K := K) rfl hr.units) (pe_callB (call_lenK (K := K) rfl) (by rfl) T.n_len PySem.boot_len (pa_cons (pv 0) pa_nil)) (pv 1) (nomark _))))) (pss_one (ps_ret pe_bl)) pss_nil)
      (pss_cons (ps_for PassesOwn.never rfl (pi_tupK (K := K) rfl (pv 0)) (pg_name (i := 2) sc_are_numbers.nd rfl (by first | exact Or.inl rfl | exact Or.inr rfl)) (pss_one (ps_if (pt_not (pt_val (pe_call G_is_whole (hr.mono (by first | decide | exact Nat.le_refl _)) (by rfl) T.g_is_whole T.d_is_whole.kp (b_is_whole T) .nil pass0 (pa_cons (pv 2) pa_nil)))) (pss_one (ps_ret pe_bl)) pss_nil)))
      (pss_one (ps_ret pe_bl)))), ?rd⟩)
  case len =>
    intro a h; rfl

  case rd =>
  rintro ⟨d, n⟩ _ C _
  (try dsimp only [cxOf, Cx.nox, Cx.wish]); show WS K C _ [some (.dat _), some (.dat _), none] _
  refine ws_seq (ws_if (WT.imp (Ψ := fun t => (t = true → areNumsD d n = false) ∧ (t = false → ∃ ds, d = .tuple ds ∧ (ds.length : Int) = n)) ?test ?_))
  case test =>
    repeat walk_at "we"
    refine ⟨fun h => ?_, fun h => ?_⟩
    · refine ⟨fun _ => ?_, fun z => (nomatch z)⟩
      cases d <;> first | rfl | cases h
    · obtain ⟨ds, rfl⟩ : ∃ ds, d = .tuple ds := by cases d <;> first | exact ⟨_, rfl⟩ | cases h
      repeat walk_at "we"
      refine cd_len (.inr rfl) ?_
      repeat walk_at "we"
      refine rd_neD rfl rfl ?_
      refine ⟨_, rfl, fun h => ?_, fun h => ?_⟩
      · rw [eqv_int] at h
        have h : ¬ ((ds.length : Int) = n) := by simpa using h
        show (decide ((ds.length : Int) = n) && ds.all isWholeD) = false
        rw [decide_eq_false h, Bool.false_and]
      · rw [eqv_int] at h
        have h : ¬ ¬ ((ds.length : Int) = n) := by simpa using h
        exact ⟨ds, rfl, by omega⟩
  intro t ht
  refine ⟨fun h => ?_, fun h => ?_⟩
  · repeat walk_at "we"
    show PyData.bool _ = _
    rw [ht.1 h]
  obtain ⟨ds, rfl, hl⟩ := ht.2 h
  refine ws_next ?_
  refine ws_seq (ws_for (wi_tup (we_var rfl ⟨_, rfl, fun i e => (∀ d ∈ ds.take i, isWholeD d = true) ∧ ∃ o, e = [some (.dat (.tuple ds)), some (.dat (.int n)), o], ⟨by simp, _, rfl⟩, ?_, ?_⟩)))
  · rintro i x e hi ⟨hw, o, rfl⟩
    refine wg_name ?_
    show WS K C _ [some (.dat (.tuple ds)), some (.dat (.int n)), some (.dat x)] _
    repeat walk_at "we"
    refine ⟨trivial, ?_⟩
    rintro _ rfl
    repeat walk_at "we"
    refine ⟨fun h => ?_, fun h => ?_⟩
    · have h : isWholeD x = false := by simpa using h
      repeat walk_at "we"
      show PyData.bool _ = PyData.bool (decide ((ds.length : Int) = n) && ds.all isWholeD)
      congr 1
      have : ds.all isWholeD = false := by
        rw [List.all_eq_false]
        exact ⟨x, List.mem_of_getElem? hi, by rw [h]; simp⟩
      rw [this, Bool.and_false]
    · have h : isWholeD x = true := by simpa using h
      refine ws_next ⟨?_, _, rfl⟩
      rw [an_snoc hi]
      intro d hd
      rcases List.mem_append.mp hd with hd | hd
      · exact hw d hd
      · rw [List.mem_singleton.mp hd]; exact h
  rintro e ⟨hw, o, rfl⟩
  rw [List.take_length] at hw
  repeat walk_at "we"
  show PyData.bool _ = PyData.bool (decide ((ds.length : Int) = n) && ds.all isWholeD)
  rw [decide_eq_true hl, List.all_eq_true.mpr hw]
  rfl

abbrev N_sign : List Str := ["number"]
theorem sc_sign : FnScope N_sign ["number"] (defScope s_sign) := ⟨rfl, rfl, rfl, by decide +kernel, rfl, by decide +kernel, by decide +kernel⟩
theorem b_sign (T : Tx K mg) : Binds K (fdK K "sign") ["number"] [] := T.d_sign.bindsN fun _ _ _ _ _ _ us hl => match us, hl with | [_], _ => rfl

abbrev sp_sign (K : PySem.W.Frag) : Sp := spD K (fun n : Int => [.int n]) (fun _ => True) (fun n r => r = .int n.sign)
theorem ok_sign (T : Tx K mg) : FnOk P w K mg base CX0 1 (He.fAd K ("sign", none)) (fdK K "sign") ["number"] (sp_sign K) := by
  refine okD T.d_sign sc_sign ?len (fun cdv A outer s H E hr => ⟨_, (pss_cons (ps_if (pt_cmpR op_gt (pv 0) pe_int (nomark _)) (pss_one (ps_ret pe_int)) pss_nil)
      (pss_cons (ps_if (pt_cmpR op_lt (pv 0) pe_int (nomark _)) (pss_one (ps_ret (pe_un un_neg pe_int))) pss_nil)
      (pss_one (ps_ret pe_int)))), ?rd⟩)
  case len =>
    intro a h; rfl

  case rd =>
  intro n _ C _
  (try dsimp only [cxOf, Cx.nox, Cx.wish]); show WS K C _ [some (.dat _)] _
  repeat walk_at "we"
  refine ⟨fun h => ?_, fun h => ?_⟩
  · repeat walk_at "we"
    have := of_decide_eq_true h
    rw [Int.sign_eq_one_of_pos this]
  · have h0 := of_decide_eq_false h
    repeat walk_at "we"
    refine ⟨fun h => ?_, fun h => ?_⟩
    · repeat walk_at "we"
      have := of_decide_eq_true h
      rw [Int.sign_eq_neg_one_of_neg this]
    · have h1 := of_decide_eq_false h
      repeat walk_at "we"
      have : n = 0 := by omega
      subst this
      rfl

abbrev N_is_ratio : List Str := ["value"]
theorem sc_is_ratio : FnScope N_is_ratio ["value"] (defScope s_is_ratio) := ⟨rfl, rfl, rfl, by decide +kernel, rfl, by decide +kernel, by decide +kernel⟩
theorem b_is_ratio (T : Tx K mg) : Binds K (fdK K "is_ratio") ["value"] [] := T.d_is_ratio.bindsN fun _ _ _ _ _ _ us hl => match us, hl with | [_], _ => rfl

abbrev sp_is_ratio (K : PySem.W.Frag) : Sp := spD K (fun q : Rat => [rt q]) (fun _ => True) (fun _ r => r = .bool true)
theorem ok_is_ratio (T : Tx K mg) : FnOk P w K mg base CX0 3 (He.fAd K ("is_ratio", none)) (fdK K "is_ratio") ["value"] (sp_is_ratio K) := by
  have G_are_numbers := ok_are_numbers (P := P) (w := w) (base := base) T
  refine okD T.d_is_ratio sc_is_ratio ?len (fun cdv A outer s H E hr => ⟨_, (pss_one (ps_ret (pe_and (pe_call G_are_numbers (hr.mono (by first | decide | exact Nat.le_refl _)) (by rfl) T.g_are_numbers T.d_are_numbers.kp (b_are_numbers T) .nil pass0 (pa_cons (pv 0) (pa_cons pe_int pa_nil))) (pe_and (pe_cmpR op_gt (pe_ix (ix_seqK (K := K) rfl) (pv 0) pe_int (fun _ _ => rfl)) pe_int (nomark _)) (pe_one (pe_cmpR (op_eqDK (K := K) rfl hr.units) (pe_callBfun cr_gcd (by rfl) T.m_gcd (pa_cons (pe_ix (ix_seqK (K := K) rfl) (pv 0) pe_int (fun _ _ => rfl)) (pa_cons (pe_ix (ix_seqK (K := K) rfl) (pv 0) pe_int (fun _ _ => rfl)) pa_nil))) pe_int (nomark _))))))), ?rd⟩)
  case len =>
    intro a h; rfl

  case rd =>
  intro q _ C _
  (try dsimp only [cxOf, Cx.nox, Cx.wish]); show WS K C _ [some (.dat _)] _
  repeat walk_at "we"
  refine ⟨(rt q, 2), rfl, trivial, ?_⟩
  rintro _ rfl
  repeat walk_at "we"
  refine ⟨fun _ => ?_, fun h => (nomatch h)⟩
  repeat walk_at "we"
  refine ⟨fun _ => ?_, fun h => absurd (den_pos q) (by simpa using h)⟩
  repeat walk_at "we"
  refine rd_eqD rfl rfl ?_
  show PyData.bool _ = _
  have e : Nat.gcd q.num.natAbs (q.den : Int).natAbs = 1 := q.reduced
  rw [eqv_int, e]
  rfl

abbrev N_common_divisor : List Str := ["numbers", "found", "number"]
theorem sc_common_divisor : FnScope N_common_divisor ["numbers"] (defScope s_common_divisor) := ⟨rfl, rfl, rfl, by decide +kernel, rfl, by decide +kernel, by decide +kernel⟩
theorem b_common_divisor (T : Tx K mg) : Binds K (fdK K "common_divisor") ["numbers"] [] := T.d_common_divisor.bindsN fun _ _ _ _ _ _ us hl => match us, hl with | [_], _ => rfl
def gcdL (ns : List Int) : Int := ns.foldl (fun a n => ((Nat.gcd a.natAbs n.natAbs : Nat) : Int)) 0
theorem gcdL_snoc {ns : List Int} {n : Int} : gcdL (ns ++ [n]) = ((Nat.gcd (gcdL ns).natAbs n.natAbs : Nat) : Int) := by
  unfold gcdL
  rw [List.foldl_append]
  rfl
theorem gcdL_pt (p : P3) : gcdL [p.1, p.2.1, p.2.2] = ((Nat.gcd (Nat.gcd p.1.natAbs p.2.1.natAbs) p.2.2.natAbs : Nat) : Int) := by
  unfold gcdL
  simp [List.foldl]
theorem take_snoc {α : Type} {l : List α} {i : Nat} {x : α} (h : l[i]? = some x) : l.take (i + 1) = l.take i ++ [x] := by
  rw [List.take_succ, h]
  rfl

abbrev sp_common_divisor (K : PySem.W.Frag) : Sp := spD K (fun ns : List Int => [.tuple (ns.map PyData.int)]) (fun _ => True) (fun ns r => r = .int (gcdL ns))
theorem ok_common_divisor (T : Tx K mg) : FnOk P w K mg base CX0 1 (He.fAd K ("common_divisor", none)) (fdK K "common_divisor") ["numbers"] (sp_common_divisor K) := by
  refine okD T.d_common_divisor sc_common_divisor ?len (fun cdv A outer s H E hr => ⟨_, (pss_cons (ps_set (i := 1) sc_common_divisor.nd rfl (by first | exact Or.inl rfl | exact Or.inr rfl) pe_int)
      (pss_cons (ps_for PassesOwn.never rfl (pi_tupK (K := K) rfl (pv 0)) (pg_name (i := 2) sc_common_divisor.nd rfl (by first | exact Or.inl rfl | exact Or.inr rfl)) (pss_one (ps_set (i := 1) sc_common_divisor.nd rfl (by first | exact Or.inl rfl | exact Or.inr rfl) (pe_callBfun cr_gcd (by rfl) T.m_gcd (pa_cons (pv 1) (pa_cons (pv 2) pa_nil))))))
      (pss_one (ps_ret (pv 1))))), ?rd⟩)
  case len =>
    intro a h; rfl

  case rd =>
  intro ns _ C _
  (try dsimp only [cxOf, Cx.nox, Cx.wish]); show WS K C _ [some (.dat _), none, none] _
  repeat walk_at "we"
  refine ws_forT (we_var rfl ⟨_, rfl, fun i e => ∃ o, e = [some (.dat (.tuple (ns.map PyData.int))), some (.dat (.int (gcdL (ns.take i)))), o], ⟨_, rfl⟩, ?_, ?_⟩)
  · rintro i d e hi ⟨o, rfl⟩
    obtain ⟨n, hn, rfl⟩ : ∃ n, ns[i]? = some n ∧ d = .int n := by
      rw [List.getElem?_map] at hi
      cases q : ns[i]? with
      | none => rw [q] at hi; cases hi
      | some p => rw [q] at hi; exact ⟨p, rfl, (Option.some.inj hi).symm⟩
    refine wg_name ?_
    show WS K C _ [some (.dat (.tuple (ns.map PyData.int))), some (.dat (.int (gcdL (ns.take i)))), some (.dat (.int n))] _
    repeat walk_at "we"
    exact ⟨_, by rw [take_snoc hn, gcdL_snoc]; rfl⟩
  · rintro e ⟨o, rfl⟩
    repeat walk_at "we"
    show PyData.int _ = _
    rw [List.length_map, List.take_length]

abbrev N_ratio : List Str := ["upper", "lower", "common"]
theorem sc_ratio : FnScope N_ratio ["upper", "lower"] (defScope s_ratio) := ⟨rfl, rfl, rfl, by decide +kernel, rfl, by decide +kernel, by decide +kernel⟩
theorem b_ratio (T : Tx K mg) : Binds K (fdK K "ratio") ["upper", "lower"] [] := T.d_ratio.bindsN fun _ _ _ _ _ _ us hl => match us, hl with | [_, _], _ => rfl

abbrev sp_ratio (K : PySem.W.Frag) : Sp := spD K (fun a : Int × Int => [.int a.1, .int a.2]) (fun a => a.2 ≠ 0 ∧ Bd 8000 a.2) (fun a r => r = rt (Rat.divInt a.1 a.2))
theorem ok_ratio (T : Tx K mg) : FnOk P w K mg base CX0 1 (He.fAd K ("ratio", none)) (fdK K "ratio") ["upper", "lower"] (sp_ratio K) := by
  refine okD T.d_ratio sc_ratio ?len (fun cdv A outer s H E hr => ⟨_, (pss_cons (ps_set (i := 2) sc_ratio.nd rfl (by first | exact Or.inl rfl | exact Or.inr rfl) (pe_callBfun cr_gcd (by rfl) T.m_gcd (pa_cons (pv 0) (pa_cons (pv 1) pa_nil))))
      (pss_cons (ps_if (pt_cmpR op_lt (pv 1) pe_int (nomark _)) (pss_one (ps_set (i := 2) sc_ratio.nd rfl (by first | exact Or.inl rfl | exact Or.inr rfl) (pe_un un_neg (pv 2)))) pss_nil)
      (pss_one (ps_ret (pe_tup (pa_cons (pe_op op_fdivX (pv 0) (pv 2)) (pa_cons (pe_op op_fdivX (pv 1) (pv 2)) pa_nil))))))), ?rd⟩)
  case len =>
    intro a h; rfl

  case rd =>
  rintro ⟨u, l⟩ ⟨h0, hb⟩ C _
  (try dsimp only [cxOf, Cx.nox, Cx.wish]); show WS K C _ [some (.dat _), some (.dat _), none] _
  obtain ⟨e1, e2⟩ := rr_eq (u := u) (l := l) h0
  have hg0 : 0 < Nat.gcd u.natAbs l.natAbs := Nat.gcd_pos_of_pos_right _ (by simp only at h0; omega)
  have hg1 : Nat.gcd u.natAbs l.natAbs ≤ l.natAbs := Nat.le_of_dvd (by simp only at h0; omega) (Nat.gcd_dvd_right _ _)
  simp only at h0 hb
  have hb1 : Bd 8000 ((Nat.gcd u.natAbs l.natAbs : Nat) : Int) := by unfold Bd at *; omega
  repeat walk_at "we"
  unfold sg at e1 e2
  refine ⟨fun h => ?_, fun h => ?_⟩
  · have h := of_decide_eq_true h
    rw [if_pos h] at e1 e2
    repeat walk_at "we"
    refine rd_Ii (cdivX (by omega) hb1.neg (by decide)) ?_
    repeat walk_at "we"
    refine rd_Ii (cdivX (by omega) hb1.neg (by decide)) ?_
    repeat walk_at "we"
    show PyData.tuple _ = _
    rw [e1, e2]
    rfl
  · have h := of_decide_eq_false h
    rw [if_neg h] at e1 e2
    repeat walk_at "we"
    refine rd_Ii (cdivX (by omega) hb1 (by decide)) ?_
    repeat walk_at "we"
    refine rd_Ii (cdivX (by omega) hb1 (by decide)) ?_
    repeat walk_at "we"
    show PyData.tuple _ = _
    rw [e1, e2]
    rfl

abbrev N_lowest : List Str := ["x", "y", "w", "common"]
theorem sc_lowest : FnScope N_lowest ["x", "y", "w"] (defScope s_lowest) := ⟨rfl, rfl, rfl, by decide +kernel, rfl, by decide +kernel, by decide +kernel⟩
theorem b_lowest (T : Tx K mg) : Binds K (fdK K "lowest") ["x", "y", "w"] [] := T.d_lowest.bindsN fun _ _ _ _ _ _ us hl => match us, hl with | [_, _, _], _ => rfl

abbrev sp_lowest (K : PySem.W.Frag) : Sp := spD K (fun a : P3 => [.int a.1, .int a.2.1, .int a.2.2]) (fun a => a.2.2 ≠ 0 ∧ Bd 8000 a.2.2) (fun a r => r = pt (low a.1 a.2.1 a.2.2))
theorem ok_lowest (T : Tx K mg) : FnOk P w K mg base CX0 1 (He.fAd K ("lowest", none)) (fdK K "lowest") ["x", "y", "w"] (sp_lowest K) := by
  refine okD T.d_lowest sc_lowest ?len (fun cdv A outer s H E hr => ⟨_, (pss_cons (ps_set (i := 3) sc_lowest.nd rfl (by first | exact Or.inl rfl | exact Or.inr rfl) (pe_callBfun cr_gcd (by rfl) T.m_gcd (pa_cons (pe_callBfun cr_gcd (by rfl) T.m_gcd (pa_cons (pv 0) (pa_cons (pv 1) pa_nil))) (pa_cons (pv 2) pa_nil))))
      (pss_cons (ps_if (pt_cmpR op_lt (pv 2) pe_int (nomark _)) (pss_one (ps_set (i := 3) sc_lowest.nd rfl (by first | exact Or.inl rfl | exact Or.inr rfl) (pe_un un_neg (pv 3)))) pss_nil)
      (pss_one (ps_ret (pe_tup (pa_cons (pe_op op_fdivX (pv 0) (pv 3)) (pa_cons (pe_op op_fdivX (pv 1) (pv 3)) (pa_cons (pe_op op_fdivX (pv 2) (pv 3)) pa_nil)))))))), ?rd⟩)
  case len =>
    intro a h; rfl

  case rd =>
  rintro ⟨x, y, z⟩ ⟨h0, hb⟩ C _
  (try dsimp only [cxOf, Cx.nox, Cx.wish]); show WS K C _ [some (.dat _), some (.dat _), some (.dat _), none] _
  simp only at h0 hb
  have hg0 : 0 < Nat.gcd (Nat.gcd x.natAbs y.natAbs) z.natAbs := Nat.gcd_pos_of_pos_right _ (by omega)
  have hg1 : Nat.gcd (Nat.gcd x.natAbs y.natAbs) z.natAbs ≤ z.natAbs := Nat.le_of_dvd (by omega) (Nat.gcd_dvd_right _ _)
  have hb1 : Bd 8000 ((Nat.gcd (Nat.gcd x.natAbs y.natAbs) z.natAbs : Nat) : Int) := by unfold Bd at *; omega
  have hp0 : ((Nat.gcd (Nat.gcd x.natAbs y.natAbs) z.natAbs : Nat) : Int) ≠ 0 := by omega
  have hn0 : -((Nat.gcd (Nat.gcd x.natAbs y.natAbs) z.natAbs : Nat) : Int) ≠ 0 := by omega
  repeat walk_at "we"
  refine ⟨fun h => ?_, fun h => ?_⟩
  · have h := of_decide_eq_true h
    repeat walk_at "we"
    refine rd_Ii (cdivX hn0 hb1.neg (by decide)) ?_
    repeat walk_at "we"
    refine rd_Ii (cdivX hn0 hb1.neg (by decide)) ?_
    repeat walk_at "we"
    refine rd_Ii (cdivX hn0 hb1.neg (by decide)) ?_
    repeat walk_at "we"
    simp only [Int.natAbs_natCast, pt, low, sg, if_pos h]
  · have h := of_decide_eq_false h
    repeat walk_at "we"
    refine rd_Ii (cdivX hp0 hb1 (by decide)) ?_
    repeat walk_at "we"
    refine rd_Ii (cdivX hp0 hb1 (by decide)) ?_
    repeat walk_at "we"
    refine rd_Ii (cdivX hp0 hb1 (by decide)) ?_
    repeat walk_at "we"
    simp only [Int.natAbs_natCast, pt, low, sg, if_neg h]

abbrev N_is_lowest : List Str := ["value", "many"]
theorem sc_is_lowest : FnScope N_is_lowest ["value", "many"] (defScope s_is_lowest) := ⟨rfl, rfl, rfl, by decide +kernel, rfl, by decide +kernel, by decide +kernel⟩
theorem b_is_lowest (T : Tx K mg) : Binds K (fdK K "is_lowest") ["value", "many"] [] := T.d_is_lowest.bindsN fun _ _ _ _ _ _ us hl => match us, hl with | [_, _], _ => rfl

abbrev sp_is_lowest (K : PySem.W.Frag) : Sp := spD K (fun p : P3 => [pt p, .int 3]) (fun p => Nm p) (fun _ r => r = .bool true)
theorem ok_is_lowest (T : Tx K mg) : FnOk P w K mg base CX0 3 (He.fAd K ("is_lowest", none)) (fdK K "is_lowest") ["value", "many"] (sp_is_lowest K) := by
  have G_common_divisor := ok_common_divisor (P := P) (w := w) (base := base) T
  have G_are_numbers := ok_are_numbers (P := P) (w := w) (base := base) T
  refine okD T.d_is_lowest sc_is_lowest ?len (fun cdv A outer s H E hr => ⟨_, (pss_one (ps_ret (pe_and (pe_call G_are_numbers (hr.mono (by first | decide | exact Nat.le_refl _)) (by rfl) T.g_are_numbers T.d_are_numbers.kp (b_are_numbers T) .nil pass0 (pa_cons (pv 0) (pa_cons (pv 1) pa_nil))) (pe_and (pe_cmpR op_gt (pe_ix (ix_seqK (K := K) rfl) (pv 0) (pe_un un_neg pe_int) (fun _ _ => rfl)) pe_int (nomark _)) (pe_one (pe_cmpR (op_eqDK (K := K) rfl hr.units) (pe_call G_common_divisor (hr.mono (by first | decide | exact Nat.le_refl _)) (by rfl) T.g_common_divisor T.d_common_divisor.kp (b_common_divisor T) .nil pass0 (pa_cons (pv 0) pa_nil)) pe_int (nomark _))))))), ?rd⟩)
  case len =>
    intro a h; rfl

  case rd =>
  intro p hp C _
  (try dsimp only [cxOf, Cx.nox, Cx.wish]); show WS K C _ [some (.dat _), some (.dat _)] _
  repeat walk_at "we"
  refine ⟨(pt p, 3), rfl, trivial, ?_⟩
  rintro _ rfl
  repeat walk_at "we"
  refine ⟨fun _ => ?_, fun h => (nomatch h)⟩
  repeat walk_at "we"
  refine ⟨fun h => ?_, fun h => absurd hp.1 (by simpa using h)⟩
  repeat walk_at "we"
  refine ⟨[p.1, p.2.1, p.2.2], rfl, trivial, ?_⟩
  rintro _ rfl
  repeat walk_at "we"
  refine rd_eqD rfl rfl ?_
  show PyData.bool _ = _
  rw [eqv_int, gcdL_pt, hp.2]
  rfl

abbrev N_is_within : List Str := ["numbers", "number"]
theorem sc_is_within : FnScope N_is_within ["numbers"] (defScope s_is_within) := ⟨rfl, rfl, rfl, by decide +kernel, rfl, by decide +kernel, by decide +kernel⟩
theorem b_is_within (T : Tx K mg) : Binds K (fdK K "is_within") ["numbers"] [] := T.d_is_within.bindsN fun _ _ _ _ _ _ us hl => match us, hl with | [_], _ => rfl

abbrev sp_is_within (K : PySem.W.Frag) : Sp := spD K (fun p : P3 => [pt p]) (fun p => p.1.natAbs ≤ 1000000000000 ∧ p.2.1.natAbs ≤ 1000000000000 ∧ p.2.2.natAbs ≤ 1000000000000) (fun _ r => r = .bool true)
theorem ok_is_within (T : Tx K mg) : FnOk P w K mg base CX0 1 (He.fAd K ("is_within", none)) (fdK K "is_within") ["numbers"] (sp_is_within K) := by
  refine okD T.d_is_within sc_is_within ?len (fun cdv A outer s H E hr => ⟨_, (pss_one (ps_ret (pe_cmpR op_le (pe_callB (cr_maxK (K := K) rfl rfl) (by rfl) T.n_max PyProof.Rows.boot_max (pa_cons (pe_lc (by rfl) sc_is_within.nd (pi_tupK (K := K) rfl (pv 0)) (blkOk_by (own := [("number", 1)]) (N := N_is_within) (sc := defScope s_is_within) (by decide +kernel)) (fun _ _ _ _ _ => (pg_name (i := 1) sc_is_within.nd rfl (by first | exact Or.inl rfl | exact Or.inr rfl))) (fun _ _ _ _ _ => pts_nil) (fun _ _ _ _ _ => (pe_callB call_abs (by rfl) T.n_abs PyProof.Rows.boot_abs (pa_cons (pv 1) pa_nil)))) pa_nil)) (pe_glob (v := .int 1000000000000) (by rfl) T.c_LIMIT.choose_spec ⟨_, rfl⟩) (nomark _)))), ?rd⟩)
  case len =>
    intro a h; rfl

  case rd =>
  intro p hp C _
  (try dsimp only [cxOf, Cx.nox, Cx.wish]); show WS K C _ [some (.dat _), none] _
  repeat walk_at "we"
  refine we_lcT (we_var rfl ⟨_, rfl, Nat.le_of_ble_eq_true rfl, fun i acc => acc = ([(p.1.natAbs : Int), (p.2.1.natAbs : Int), (p.2.2.natAbs : Int)].take i).map PyData.int, rfl, ?_, ?_, ?_⟩)
  · rintro i d acc hi rfl
    obtain ⟨n, hn, rfl⟩ : ∃ n : Int, [(p.1.natAbs : Int), (p.2.1.natAbs : Int), (p.2.2.natAbs : Int)][i]? = some (n.natAbs : Int) ∧ d = .int n := by
      match i, hi with
      | 0, hi => exact ⟨p.1, rfl, (Option.some.inj hi).symm⟩
      | 1, hi => exact ⟨p.2.1, rfl, (Option.some.inj hi).symm⟩
      | 2, hi => exact ⟨p.2.2, rfl, (Option.some.inj hi).symm⟩
    show WT K C _ [some (.dat (pt p)), some (.dat (.int n))] _
    repeat walk_at "we"
    refine ⟨fun _ => ?_, fun h => nomatch h⟩
    repeat walk_at "we"
    show List.map _ _ ++ _ = List.map _ (List.take (i + 1) _)
    rw [take_snoc hn, List.map_append]
    congr 1
    show [PyData.int _] = [PyData.int _]
    congr 2
    split <;> omega
  · rintro i acc rfl
    simp
    omega
  · rintro acc rfl
    refine wa_nil ?_
    refine cd_max (ns := [(p.1.natAbs : Int), (p.2.1.natAbs : Int), (p.2.2.natAbs : Int)]) (Nat.succ_pos _) fun m hm _ => ?_
    repeat walk_at "we"
    show PyData.bool _ = _
    congr 1
    simp only [List.mem_cons, List.not_mem_nil, or_false] at hm
    rw [decide_eq_true_eq]
    omega

abbrev N_is_point : List Str := ["value"]
theorem sc_is_point : FnScope N_is_point ["value"] (defScope s_is_point) := ⟨rfl, rfl, rfl, by decide +kernel, rfl, by decide +kernel, by decide +kernel⟩
theorem b_is_point (T : Tx K mg) : Binds K (fdK K "is_point") ["value"] [] := T.d_is_point.bindsN fun _ _ _ _ _ _ us hl => match us, hl with | [_], _ => rfl
def isPointD (d : D) : Bool := match d with
  | .tuple [.int x, .int y, .int w] => decide (x.natAbs ≤ 1000000000000) && (decide (y.natAbs ≤ 1000000000000) && (decide (w.natAbs ≤ 1000000000000) && (decide (0 < w) && decide (Nat.gcd (Nat.gcd x.natAbs y.natAbs) w.natAbs = 1))))
  | _ => false
/-- a point that may be an argument -/
def VP (p : P3) : Prop := isPointD (pt p) = true
theorem VP.bd {p : P3} (h : VP p) : p.1.natAbs ≤ 1000000000000 ∧ p.2.1.natAbs ≤ 1000000000000 ∧ p.2.2.natAbs ≤ 1000000000000 := by
  obtain ⟨x, y, w⟩ := p
  have h : (decide (x.natAbs ≤ 1000000000000) && (decide (y.natAbs ≤ 1000000000000) && (decide (w.natAbs ≤ 1000000000000) && (decide (0 < w) && decide (Nat.gcd (Nat.gcd x.natAbs y.natAbs) w.natAbs = 1))))) = true := h
  simp only [Bool.and_eq_true, decide_eq_true_eq] at h
  exact ⟨h.1, h.2.1, h.2.2.1⟩
theorem VP.all {p : P3} (h : VP p) : Nm p ∧ BP 40 p := by
  obtain ⟨x, y, w⟩ := p
  have h : (decide (x.natAbs ≤ 1000000000000) && (decide (y.natAbs ≤ 1000000000000) && (decide (w.natAbs ≤ 1000000000000) && (decide (0 < w) && decide (Nat.gcd (Nat.gcd x.natAbs y.natAbs) w.natAbs = 1))))) = true := h
  simp only [Bool.and_eq_true, decide_eq_true_eq] at h
  obtain ⟨h1, h2, h3, h4, h5⟩ := h
  exact ⟨⟨h4, h5⟩, Bd.of 1000000000000 h1 (by decide), Bd.of 1000000000000 h2 (by decide), Bd.of 1000000000000 h3 (by decide)⟩
theorem VP.of {p : P3} (n : Nm p) (h1 : p.1.natAbs ≤ 1000000000000) (h2 : p.2.1.natAbs ≤ 1000000000000) (h3 : p.2.2.natAbs ≤ 1000000000000) : VP p := by
  obtain ⟨x, y, w⟩ := p
  show (decide (x.natAbs ≤ 1000000000000) && (decide (y.natAbs ≤ 1000000000000) && (decide (w.natAbs ≤ 1000000000000) && (decide (0 < w) && decide (Nat.gcd (Nat.gcd x.natAbs y.natAbs) w.natAbs = 1))))) = true
  simp only [Bool.and_eq_true, decide_eq_true_eq]
  exact ⟨h1, h2, h3, n.1, n.2⟩

abbrev sp_is_point (K : PySem.W.Frag) : Sp := spD K (fun p : P3 => [pt p]) VP (fun _ r => r = .bool true)
theorem ok_is_point (T : Tx K mg) : FnOk P w K mg base CX0 4 (He.fAd K ("is_point", none)) (fdK K "is_point") ["value"] (sp_is_point K) := by
  have G_is_within := ok_is_within (P := P) (w := w) (base := base) T
  have G_is_lowest := ok_is_lowest (P := P) (w := w) (base := base) T
  refine okD T.d_is_point sc_is_point ?len (fun cdv A outer s H E hr => ⟨_, (pss_one (ps_ret (pe_and (pe_call G_is_lowest (hr.mono (by first | decide | exact Nat.le_refl _)) (by rfl) T.g_is_lowest T.d_is_lowest.kp (b_is_lowest T) .nil pass0 (pa_cons (pv 0) (pa_cons pe_int pa_nil))) (pe_one (pe_call G_is_within (hr.mono (by first | decide | exact Nat.le_refl _)) (by rfl) T.g_is_within T.d_is_within.kp (b_is_within T) .nil pass0 (pa_cons (pv 0) pa_nil)))))), ?rd⟩)
  case len =>
    intro a h; rfl

  case rd =>
  intro p hp C _
  (try dsimp only [cxOf, Cx.nox, Cx.wish]); show WS K C _ [some (.dat _)] _
  repeat walk_at "we"
  refine ⟨hp.all.1, ?_⟩
  rintro _ rfl
  repeat walk_at "we"
  refine ⟨fun _ => ?_, fun h => nomatch h⟩
  repeat walk_at "we"
  refine ⟨hp.bd, ?_⟩
  rintro _ rfl
  rfl

abbrev N_check_each : List Str := ["values", "value"]
theorem sc_check_each : FnScope N_check_each ["values"] (defScope s_check_each) := ⟨rfl, rfl, rfl, by decide +kernel, rfl, by decide +kernel, by decide +kernel⟩
theorem b_check_each (T : Tx K mg) : Binds K (fdK K "check_each") ["values"] [] := T.d_check_each.bindsN fun _ _ _ _ _ _ us hl => match us, hl with | [_], _ => rfl

abbrev sp_check_each (K : PySem.W.Frag) : Sp := spD K (fun a : List P3 => [.tuple (a.map pt)]) (fun a => ∀ p ∈ a, VP p) (fun a r => r = .none)
theorem ok_check_each (T : Tx K mg) : FnOk P w K mg base CX0 5 (He.fAd K ("check_each", none)) (fdK K "check_each") ["values"] (sp_check_each K) := by
  have G_is_point := ok_is_point (P := P) (w := w) (base := base) T
  refine okD T.d_check_each sc_check_each ?len (fun cdv A outer s H E hr => ⟨_, (pss_one (ps_for PassesOwn.never rfl (pi_tupK (K := K) rfl (pv 0)) (pg_name (i := 1) sc_check_each.nd rfl (by first | exact Or.inl rfl | exact Or.inr rfl)) (pss_one (ps_if (pt_not (pt_val (pe_call G_is_point (hr.mono (by first | decide | exact Nat.le_refl _)) (by rfl) T.g_is_point T.d_is_point.kp (b_is_point T) .nil pass0 (pa_cons (pv 1) pa_nil)))) (pss_one ps_never) pss_nil)))), ?rd⟩)
  case len =>
    intro a h; rfl

  case rd =>
  rintro ps hp C _
  (try dsimp only [cxOf, Cx.nox, Cx.wish]); show WS K C _ [some (.dat _), none] _
  refine ws_forT (we_var rfl ⟨_, rfl, fun i e => ∃ o, e = [some (.dat (.tuple (ps.map pt))), o], ⟨_, rfl⟩, ?_, ?_⟩)
  · rintro i d e hi ⟨o, rfl⟩
    obtain ⟨p, hm, rfl⟩ : ∃ p, p ∈ ps ∧ d = pt p := by
      rw [List.getElem?_map] at hi
      cases q : ps[i]? with
      | none => rw [q] at hi; cases hi
      | some p => rw [q] at hi; exact ⟨p, List.mem_of_getElem? q, (Option.some.inj hi).symm⟩
    refine wg_name ?_
    show WS K C _ [some (.dat (.tuple (ps.map pt))), some (.dat (pt p))] _
    repeat walk_at "we"
    refine ⟨hp p hm, ?_⟩
    rintro _ rfl
    repeat walk_at "we"
    refine ⟨(fun h => nomatch h), fun h => ?_⟩
    repeat walk_at "we"
    exact ⟨_, rfl⟩
  · rintro e ⟨o, rfl⟩
    rfl

abbrev N_on_grid : List Str := ["points", "common", "item", "x", "y", "w"]
theorem sc_on_grid : FnScope N_on_grid ["points"] (defScope s_on_grid) := ⟨rfl, rfl, rfl, by decide +kernel, rfl, by decide +kernel, by decide +kernel⟩
theorem b_on_grid (T : Tx K mg) : Binds K (fdK K "on_grid") ["points"] [] := T.d_on_grid.bindsN fun _ _ _ _ _ _ us hl => match us, hl with | [_], _ => rfl

abbrev sp_on_grid (K : PySem.W.Frag) : Sp := spD K (fun ps : List P3 => [.list (ps.map pt)]) (fun ps => ps.length ≤ 1000 ∧ (∀ n, lcw (ps.take n) < 2 ^ 3900) ∧ ∀ p ∈ ps, 0 < p.2.2 ∧ BP 500 p) (fun ps r => r = .tuple [.int (lcw ps : Int), .list (ps.map (gridD (lcw ps : Int)))])
theorem ok_on_grid (T : Tx K mg) : FnOk P w K mg base CX0 1 (He.fAd K ("on_grid", none)) (fdK K "on_grid") ["points"] (sp_on_grid K) := by
  refine okD T.d_on_grid sc_on_grid ?len (fun cdv A outer s H E hr => ⟨_, (pss_cons (ps_set (i := 1) sc_on_grid.nd rfl (by first | exact Or.inl rfl | exact Or.inr rfl) pe_int)
      (pss_cons (ps_for PassesOwn.never rfl (pi_listK (K := K) rfl (pv 0)) (pg_name (i := 2) sc_on_grid.nd rfl (by first | exact Or.inl rfl | exact Or.inr rfl)) (pss_one (ps_set (i := 1) sc_on_grid.nd rfl (by first | exact Or.inl rfl | exact Or.inr rfl) (pe_callBfun cr_lcm (by rfl) T.m_lcm (pa_cons (pv 1) (pa_cons (pe_ix (ix_seqK (K := K) rfl) (pv 2) pe_int (fun _ _ => rfl)) pa_nil))))))
      (pss_one (ps_ret (pe_tup (pa_cons (pv 1) (pa_cons (pe_lc (by rfl) sc_on_grid.nd (pi_listK (K := K) rfl (pv 0)) (blkOk_by (own := [("x", 3), ("y", 4), ("w", 5)]) (N := N_on_grid) (sc := defScope s_on_grid) (by decide +kernel)) (fun _ _ _ _ _ => (pg_tupK (K := K) (n := 3) rfl rfl (pgs_cons (pg_name (i := 3) sc_on_grid.nd rfl (by first | exact Or.inl rfl | exact Or.inr rfl)) (pgs_cons (pg_name (i := 4) sc_on_grid.nd rfl (by first | exact Or.inl rfl | exact Or.inr rfl)) (pgs_cons (pg_name (i := 5) sc_on_grid.nd rfl (by first | exact Or.inl rfl | exact Or.inr rfl)) pgs_nil))))) (fun _ _ _ _ _ => pts_nil) (fun _ _ _ _ _ => (pe_tup (pa_cons (pe_op op_mulW (pv 3) (pe_op op_fdivX (pv 1) (pv 5))) (pa_cons (pe_op op_mulW (pv 4) (pe_op op_fdivX (pv 1) (pv 5))) pa_nil))))) pa_nil))))))), ?rd⟩)
  case len =>
    intro a h; rfl

  case rd =>
  rintro ps ⟨h1, h2, h3⟩ C _
  (try dsimp only [cxOf, Cx.nox, Cx.wish]); show WS K C _ [some (.dat _), none, none, none, none, none] _
  repeat walk_at "we"
  refine ws_for (wi_list (we_var rfl ⟨_, rfl, fun i e => ∃ x2, e = [some (.dat (.list (ps.map pt))), some (.dat (.int ((lcw (ps.take i) : Nat) : Int))), x2, none, none, none], ⟨none, rfl⟩, ?_, ?_⟩))
  · rintro i d e hi ⟨x2, rfl⟩
    obtain ⟨p, hp, rfl⟩ := map_at hi
    obtain ⟨w0, b1, b2, b3⟩ := h3 p (List.mem_of_getElem? hp)
    refine wg_name ?_
    repeat walk_at "we"
    refine cd_lcmB (by rw [Int.natAbs_natCast]; exact Nat.lt_of_lt_of_le (h2 i) (Nat.pow_le_pow_right (by decide) (by decide))) (Nat.lt_of_lt_of_le b3 (by decide)) ?_
    repeat walk_at "we"
    refine ⟨some (.dat (pt p)), ?_⟩
    rw [take_snoc hp, lcw_snoc]
    rfl
  rintro e ⟨x2, rfl⟩
  have hc : (ps.map pt).length = ps.length := List.length_map ..
  rw [hc, List.take_length]
  have c64 : lcw ps < 2 ^ 3900 := by have := h2 ps.length; rwa [List.take_length] at this
  generalize hC : ((lcw ps : Nat) : Int) = c
  have c0 : 0 ≤ c := by omega
  have cb : Bd 3900 c := by rw [← hC]; exact c64
  repeat walk_at "we"
  refine we_map (by walk_at "og") (gridF c) (wi_list (we_var rfl ⟨_, rfl, by rw [hc]; omega, ?_, ?_⟩))
  · rintro i d hi
    obtain ⟨p, hp, rfl⟩ := map_at hi
    obtain ⟨w0, b1, b2, b3⟩ := h3 p (List.mem_of_getElem? hp)
    have qb : Bd 3900 (c.fdiv p.2.2) := by
      rw [Int.fdiv_eq_ediv_of_nonneg _ (by omega)]
      have g1 := Int.ediv_nonneg c0 (Int.le_of_lt w0)
      have g2 : c / p.2.2 ≤ c := Int.ediv_le_self _ c0
      exact Nat.lt_of_le_of_lt (show (c / p.2.2).natAbs ≤ c.natAbs by omega) cb
    show WG K C _ (.tuple [.int p.1, .int p.2.1, .int p.2.2]) [some (.dat (.list (ps.map pt))), some (.dat (.int c)), x2, none, none, none] _
    repeat walk_at "we"
    refine rd_Ii (cdivX (Int.ne_of_gt w0) b3 (by decide)) ?_
    repeat walk_at "we"
    refine rd_Ii (cdivX (Int.ne_of_gt w0) b3 (by decide)) ?_
    repeat walk_at "we"
    rfl
  repeat walk_at "we"
  rw [gridF_map]

abbrev N_ranking : List Str := ["points", "_", "rows", "row", "k", "x", "y"]
theorem sc_ranking : FnScope N_ranking ["points"] (defScope s_ranking) := ⟨rfl, rfl, rfl, by decide +kernel, rfl, by decide +kernel, by decide +kernel⟩
theorem b_ranking (T : Tx K mg) : Binds K (fdK K "ranking") ["points"] [] := T.d_ranking.bindsN fun _ _ _ _ _ _ us hl => match us, hl with | [_], _ => rfl

abbrev sp_ranking (K : PySem.W.Frag) : Sp := spD K (fun ps : List P3 => [.list (ps.map pt)]) (fun ps => (ps.length ≤ 1000 ∧ (∀ n, lcw (ps.take n) < 2 ^ 3900) ∧ ∀ p ∈ ps, 0 < p.2.2 ∧ BP 500 p) ∧ ps.Nodup ∧ ∀ p ∈ ps, Nm p) (fun ps r => ∃ ks : List Nat, Rank ps ks ∧ r = .list (ks.map fun k : Nat => PyData.int (k : Int)))
theorem ok_ranking (T : Tx K mg) : FnOk P w K mg base CX0 2 (He.fAd K ("ranking", none)) (fdK K "ranking") ["points"] (sp_ranking K) := by
  have G_on_grid := ok_on_grid (P := P) (w := w) (base := base) T
  refine okD T.d_ranking sc_ranking ?len (fun cdv A outer s H E hr => ⟨_, (pss_cons (ps_asg (pe_call G_on_grid (hr.mono (by first | decide | exact Nat.le_refl _)) (by rfl) T.g_on_grid T.d_on_grid.kp (b_on_grid T) .nil pass0 (pa_cons (pv 0) pa_nil)) (pg_tupK (K := K) rfl rfl (pgs_cons (pg_name (i := 1) sc_ranking.nd rfl (by first | exact Or.inl rfl | exact Or.inr rfl)) (pgs_cons (pg_name (i := 2) sc_ranking.nd rfl (by first | exact Or.inl rfl | exact Or.inr rfl)) pgs_nil))))
      (pss_one (ps_ret (pe_lc (by rfl) sc_ranking.nd (pi_listK (K := K) rfl (pe_callB (cr_sorted3K (K := K) rfl) (by rfl) T.n_sorted boot_sorted (pa_cons (pe_lc (by rfl) sc_ranking.nd (pi_enumK (K := K) rfl (by rfl) T.n_enumerate (pa_cons (pv 2) pa_nil)) (blkOk_by (own := [("k", 4), ("x", 5), ("y", 6)]) (N := N_ranking) (sc := defScope s_ranking) (by decide +kernel)) (fun _ _ _ _ _ => (pg_tupK (K := K) (n := 2) rfl rfl (pgs_cons (pg_name (i := 4) sc_ranking.nd rfl (by first | exact Or.inl rfl | exact Or.inr rfl)) (pgs_cons (pg_tupK (K := K) (n := 2) rfl rfl (pgs_cons (pg_name (i := 5) sc_ranking.nd rfl (by first | exact Or.inl rfl | exact Or.inr rfl)) (pgs_cons (pg_name (i := 6) sc_ranking.nd rfl (by first | exact Or.inl rfl | exact Or.inr rfl)) pgs_nil))) pgs_nil)))) (fun _ _ _ _ _ => pts_nil) (fun _ _ _ _ _ => (pe_tup (pa_cons (pv 5) (pa_cons (pv 6) (pa_cons (pv 4) pa_nil)))))) pa_nil))) (blkOk_by (own := [("row", 3)]) (N := N_ranking) (sc := defScope s_ranking) (by decide +kernel)) (fun _ _ _ _ _ => (pg_name (i := 3) sc_ranking.nd rfl (by first | exact Or.inl rfl | exact Or.inr rfl))) (fun _ _ _ _ _ => pts_nil) (fun _ _ _ _ _ => (pe_ix (ix_seqK (K := K) rfl) (pv 3) pe_int (fun _ _ => rfl))))))), ?rd⟩)
  case len =>
    intro a h; rfl

  case rd =>
  rintro ps ⟨h1, h2, h3⟩ C _
  (try dsimp only [cxOf, Cx.nox, Cx.wish]); show WS K C _ [some (.dat _), none, none, none, none, none, none] _
  have hl := h1.1
  repeat walk_at "we"
  refine ⟨h1, ?_⟩
  rintro _ rfl
  repeat walk_at "we"
  refine we_map (by walk_at "og") thirdD (wi_list ?_)
  repeat walk_at "we"
  refine we_map (by walk_at "og") flatD (wi_enum ?_)
  repeat walk_at "we"
  refine ⟨by rw [enD_len, List.length_map]; omega, ?_, ?_⟩
  · rintro i d hi
    obtain ⟨x, hx, rfl⟩ := enD_inv hi
    obtain ⟨p, hp, rfl⟩ := grid_at hx
    show WG K C _ (.tuple [.int (i : Int), .tuple [.int (p.1 * ((lcw ps : Int).fdiv p.2.2)), .int (p.2.1 * ((lcw ps : Int).fdiv p.2.2))]]) [_, _, _, none, none, none, none] _
    repeat walk_at "we"
    rfl
  refine wa_nil ?_
  rw [flat_rows]
  refine cd_sorted3 fun us hp hw => ?_
  have ul : us.length = ps.length := by rw [hp.length_eq, rowsOf_len]
  refine ⟨us.map pt, rfl, by rw [List.length_map]; omega, ?_, ?_⟩
  · rintro i d hi
    obtain ⟨u, hu, rfl⟩ := map_at hi
    show WG K C _ (.tuple [.int u.1, .int u.2.1, .int u.2.2]) [_, _, _, none, _, _, _] _
    repeat walk_at "we"
    rfl
  obtain ⟨ks, e1, e2⟩ := rank_of h2 h3 hp hw
  exact ⟨ks, e2, by rw [third_pt, e1]⟩

abbrev N_is_line : List Str := ["value"]
theorem sc_is_line : FnScope N_is_line ["value"] (defScope s_is_line) := ⟨rfl, rfl, rfl, by decide +kernel, rfl, by decide +kernel, by decide +kernel⟩
theorem b_is_line (T : Tx K mg) : Binds K (fdK K "is_line") ["value"] [] := T.d_is_line.bindsN fun _ _ _ _ _ _ us hl => match us, hl with | [_], _ => rfl

abbrev sp_is_line (K : PySem.W.Frag) : Sp := spD K (fun l : Rat × Rat => [Ln l]) (fun _ => True) (fun _ r => r = .bool true)
theorem ok_is_line (T : Tx K mg) : FnOk P w K mg base CX0 4 (He.fAd K ("is_line", none)) (fdK K "is_line") ["value"] (sp_is_line K) := by
  have G_is_ratio := ok_is_ratio (P := P) (w := w) (base := base) T
  refine okD T.d_is_line sc_is_line ?len (fun cdv A outer s H E hr => ⟨_, (pss_cons (ps_if (PW.pt (pw_or (pt_not (pt_val (pe_callB (call_isiK' (K := K) rfl) (by rfl) T.n_isinstance PyProof.Rows.boot_isinstance (pa_cons (pv 0) (pa_cons (pe_bltn (v := .ty "tuple") (by rfl) T.n_tuple PyProof.Rows.boot_tuple rfl) pa_nil))))) (pw_or1 (pt_cmpR (op_neDK (K := K) rfl hr.units) (pe_callB (call_lenK (K := K) rfl) (by rfl) T.n_len PySem.boot_len (pa_cons (pv 0) pa_nil)) pe_int (nomark _))))) (pss_one (ps_ret pe_bl)) pss_nil)
      (pss_one (ps_ret (pe_and (pe_call G_is_ratio (hr.mono (by first | decide | exact Nat.le_refl _)) (by rfl) T.g_is_ratio T.d_is_ratio.kp (b_is_ratio T) .nil pass0 (pa_cons (pe_ix (ix_seqK (K := K) rfl) (pv 0) pe_int (fun _ _ => rfl)) pa_nil)) (pe_one (pe_call G_is_ratio (hr.mono (by first | decide | exact Nat.le_refl _)) (by rfl) T.g_is_ratio T.d_is_ratio.kp (b_is_ratio T) .nil pass0 (pa_cons (pe_ix (ix_seqK (K := K) rfl) (pv 0) pe_int (fun _ _ => rfl)) pa_nil))))))), ?rd⟩)
  case len =>
    intro a h; rfl

  case rd =>
  intro l _ C _
  (try dsimp only [cxOf, Cx.nox, Cx.wish]); show WS K C _ [some (.dat _)] _
  repeat walk_at "we"
  refine ⟨fun h => (nomatch h), fun _ => ?_⟩
  repeat walk_at "we"
  refine cd_len (.inr rfl) ?_
  repeat walk_at "we"
  refine rd_neD rfl rfl ?_
  repeat walk_at "we"
  refine ⟨fun h => absurd h (by rw [eqv_int]; simp), fun _ => ?_⟩
  repeat walk_at "we"
  refine ⟨trivial, ?_⟩
  rintro _ rfl
  repeat walk_at "we"
  refine ⟨fun _ => ?_, fun h => nomatch h⟩
  repeat walk_at "we"
  refine ⟨trivial, ?_⟩
  rintro _ rfl
  rfl

abbrev N_check_lines : List Str := ["value", "seen", "k", "item"]
theorem sc_check_lines : FnScope N_check_lines ["value"] (defScope s_check_lines) := ⟨rfl, rfl, rfl, by decide +kernel, rfl, by decide +kernel, by decide +kernel⟩
theorem b_check_lines (T : Tx K mg) : Binds K (fdK K "check_lines") ["value"] [] := T.d_check_lines.bindsN fun _ _ _ _ _ _ us hl => match us, hl with | [_], _ => rfl
def rk (q : Rat) : List Key := [.inl q.num, .inl (q.den : Int)]
theorem rk_inj {p q : Rat} (h : rk p = rk q) : p = q := by
  simp [rk] at h
  obtain ⟨h1, h2⟩ := h
  exact Rat.ext h1 (by exact_mod_cast h2)
/-- keys that were seen -/
def seenK (ks : List (List Key)) : List Key → Option D := fun q => if (ks.any fun k => decide (q = k)) = true then some (.bool true) else none
theorem seenK_nil : seenK [] = fun _ => none := by funext q; simp [seenK]
theorem seenK_snoc (ks : List (List Key)) (k : List Key) : seenK (ks ++ [k]) = fun q => if q = k then some (.bool true) else seenK ks q := by
  funext q
  unfold seenK
  rw [List.any_append]
  by_cases h1 : q = k
  · simp [h1]
  · have e : ([k].any fun p => decide (q = p)) = false := by
      show (decide (q = k) || false) = false
      rw [decide_eq_false h1]
      rfl
    rw [e, Bool.or_false]
    exact (if_neg h1).symm
theorem seenK_some {ks : List (List Key)} {q : List Key} : (seenK ks q).isSome = true ↔ q ∈ ks := by
  unfold seenK
  constructor
  · intro h
    split at h
    · rename_i z
      obtain ⟨k, hk, e⟩ := List.any_eq_true.mp z
      rw [of_decide_eq_true e]
      exact hk
    · cases h
  · intro h
    rw [if_pos (List.any_eq_true.mpr ⟨q, h, decide_eq_true rfl⟩)]
    rfl
theorem seenK_no {ks : List (List Key)} {q : List Key} (h : q ∉ ks) : seenK ks q = none := by
  cases e : seenK ks q with
  | none => rfl
  | some d => exact absurd (seenK_some.mp (by rw [e]; rfl)) h
theorem nodup_takeR {α : Type} {ps : List α} (h : ps.Nodup) {i : Nat} {p : α} (hp : ps[i]? = some p) : p ∉ ps.take i := by
  intro z
  obtain ⟨j, hj, e⟩ := List.mem_iff_getElem.mp z
  rw [List.length_take] at hj
  rw [List.getElem_take] at e
  have hjl : j < ps.length := by omega
  have : ps[j]? = ps[i]? := by rw [hp, ← e]; exact List.getElem?_eq_getElem hjl
  have := (List.getElem?_inj hjl h).mp this
  omega
theorem map_atR {α : Type} {f : α → D} {ls : List α} {i : Nat} {d : D} (h : (ls.map f)[i]? = some d) : ∃ l, ls[i]? = some l ∧ d = f l := by
  rw [List.getElem?_map] at h
  cases q : ls[i]? with
  | none => rw [q] at h; cases h
  | some l => rw [q] at h; exact ⟨l, rfl, (Option.some.inj h).symm⟩

abbrev sp_check_lines (K : PySem.W.Frag) : Sp := spD K (fun ls : List (Rat × Rat) => [.tuple (ls.map Ln)]) (fun ls => (1 ≤ ls.length ∧ ls.length ≤ 20) ∧ (ls.map fun l => l.1).Nodup) (fun _ r => r = .none)
theorem ok_check_lines (T : Tx K mg) : FnOk P w K mg base CX0 5 (He.fAd K ("check_lines", none)) (fdK K "check_lines") ["value"] (sp_check_lines K) := by
  have G_is_line := ok_is_line (P := P) (w := w) (base := base) T
  refine okD T.d_check_lines sc_check_lines ?len (fun cdv A outer s H E hr => ⟨_, (pss_cons (ps_if (PW.pt (pw_or (pt_not (pt_val (pe_callB (call_isiK' (K := K) rfl) (by rfl) T.n_isinstance PyProof.Rows.boot_isinstance (pa_cons (pv 0) (pa_cons (pe_bltn (v := .ty "tuple") (by rfl) T.n_tuple PyProof.Rows.boot_tuple rfl) pa_nil))))) (pw_or1 (pt_not (pt_chain op_le op_le pe_int (pe_callB (call_lenK (K := K) rfl) (by rfl) T.n_len PySem.boot_len (pa_cons (pv 0) pa_nil)) (pe_glob (v := .int 20) (by rfl) T.c_MOST_LINES.choose_spec ⟨_, rfl⟩)))))) (pss_one ps_never) pss_nil)
      (pss_cons (ps_set (i := 1) sc_check_lines.nd rfl (by first | exact Or.inl rfl | exact Or.inr rfl) pe_dnewT)
      (pss_one (ps_for PassesOwn.never rfl (pi_enumTK (K := K) rfl (by rfl) T.n_enumerate (pa_cons (pv 0) pa_nil)) (pg_tupK (K := K) rfl rfl (pgs_cons (pg_name (i := 2) sc_check_lines.nd rfl (by first | exact Or.inl rfl | exact Or.inr rfl)) (pgs_cons (pg_name (i := 3) sc_check_lines.nd rfl (by first | exact Or.inl rfl | exact Or.inr rfl)) pgs_nil))) (pss_cons (ps_if (PW.pt (pw_or (pt_not (pt_val (pe_call G_is_line (hr.mono (by first | decide | exact Nat.le_refl _)) (by rfl) T.g_is_line T.d_is_line.kp (b_is_line T) .nil pass0 (pa_cons (pv 3) pa_nil)))) (pw_or1 (pt_cmp (pc_din (room1 hr) (pe_ix (ix_seqK (K := K) rfl) (pv 3) pe_int (fun _ _ => rfl)) (pv 1)))))) (pss_one ps_never) pss_nil)
      (pss_one (ps_asg pe_bl (pg_sub (pv 1) (pe_ix (ix_seqK (K := K) rfl) (pv 3) pe_int (fun _ _ => rfl)) (set_dict (room1 hr)))))))))), ?rd⟩)
  case len =>
    intro a h; rfl

  case rd =>
  rintro ls ⟨⟨l1, l2⟩, nd⟩ C _
  (try dsimp only [cxOf, Cx.nox, Cx.wish]); show WS K C _ [some (.dat _), none, none, none] _
  repeat walk_at "we"
  refine ⟨fun h => (nomatch h), fun _ => ?_⟩
  repeat walk_at "we"
  refine cd_len (.inr rfl) ?_
  repeat walk_at "we"
  refine ⟨fun _ => ?_, fun h => absurd (of_decide_eq_false h) (by rw [List.length_map]; omega)⟩
  repeat walk_at "we"
  refine ⟨fun h => absurd h (by rw [List.length_map, decide_eq_true (by omega)]; exact fun z => nomatch z), fun _ => ?_⟩
  refine ws_next ?_
  refine ws_seq (ws_dnew ?_)
  refine ws_for (wi_enumT ?_)
  repeat walk_at "we"
  refine ⟨fun i e => ∃ x2 x3, e = [some (.dat (.tuple (ls.map Ln))), some (.dic (seenK ((ls.take i).map fun l => rk l.1)) i), x2, x3], ⟨none, none, ?_⟩, ?_, ?_⟩
  · rw [List.take_zero, List.map_nil, seenK_nil]
    rfl
  · rintro i d e hi ⟨x2, x3, rfl⟩
    obtain ⟨x, hx, rfl⟩ := enD_inv hi
    obtain ⟨l, hl, rfl⟩ := map_atR hx
    have hil : i < ls.length := (List.getElem?_eq_some_iff.mp hl).1
    have no : seenK ((ls.take i).map fun l => rk l.1) (rk l.1) = none := seenK_no fun z => by
      obtain ⟨m, hm, e⟩ := List.mem_map.mp z
      have h1 : (ls.map fun l => l.1)[i]? = some l.1 := by rw [List.getElem?_map, hl]; rfl
      refine nodup_takeR nd h1 ?_
      rw [← List.map_take]
      exact List.mem_map.mpr ⟨m, hm, rk_inj e⟩
    refine wg_tup (ds := [_, _]) rfl (wgs_cons (wg_name (wgs_cons (wg_name (wgs_nil ?_)))))
    show WS K C _ [some (.dat (.tuple (ls.map Ln))), some (.dic (seenK ((ls.take i).map fun l => rk l.1)) i), some (.dat (.int (i : Int))), some (.dat (Ln l))] _
    repeat walk_at "we"
    refine ⟨trivial, ?_⟩
    rintro _ rfl
    repeat walk_at "we"
    refine ⟨fun h => (nomatch h), fun _ => ?_⟩
    refine wt_B (we_din rfl ?_)
    show WE K C _ [some (.dat (.tuple (ls.map Ln))), some (.dic (seenK ((ls.take i).map fun l => rk l.1)) i), some (.dat (.int (i : Int))), some (.dat (.tuple [rt l.1, rt l.2]))] _
    repeat walk_at "we"
    refine ⟨rk l.1, rfl, _, rfl, ?_⟩
    rw [no]
    refine ⟨fun h => (nomatch h), fun _ => ?_⟩
    refine ws_next ?_
    refine ws_dset rfl ?_
    show WE K C _ [some (.dat (.tuple (ls.map Ln))), some (.dic (seenK ((ls.take i).map fun l => rk l.1)) i), some (.dat (.int (i : Int))), some (.dat (.tuple [rt l.1, rt l.2]))] _
    repeat walk_at "we"
    refine ⟨rk l.1, rfl, by omega, ?_⟩
    refine ⟨some (.dat (.int (i : Int))), some (.dat (Ln l)), ?_⟩
    rw [take_snoc hl, List.map_append, List.map_singleton, seenK_snoc]
    rfl
  · rintro e ⟨x2, x3, rfl⟩
    rfl

abbrev N_height : List Str := ["line", "p", "m", "n", "k", "d", "x", "y", "w"]
theorem sc_height : FnScope N_height ["line", "p"] (defScope s_height) := ⟨rfl, rfl, rfl, by decide +kernel, rfl, by decide +kernel, by decide +kernel⟩
theorem b_height (T : Tx K mg) : Binds K (fdK K "height") ["line", "p"] [] := T.d_height.bindsN fun _ _ _ _ _ _ us hl => match us, hl with | [_, _], _ => rfl

abbrev sp_height (K : PySem.W.Frag) : Sp := spD K (fun a : (Rat × Rat) × P3 => [Ln a.1, pt a.2]) (fun a => QB 1000 a.1.1 ∧ QB 1000 a.1.2 ∧ BP 1000 a.2) (fun a r => r = .int (hgt a.1 a.2))
theorem ok_height (T : Tx K mg) : FnOk P w K mg base CX0 2 (He.fAd K ("height", none)) (fdK K "height") ["line", "p"] (sp_height K) := by
  have G_sign := ok_sign (P := P) (w := w) (base := base) T
  refine okD T.d_height sc_height ?len (fun cdv A outer s H E hr => ⟨_, (pss_cons (ps_asg (pv 0) (pg_tupK (K := K) rfl rfl (pgs_cons (pg_tupK (K := K) rfl rfl (pgs_cons (pg_name (i := 2) sc_height.nd rfl (by first | exact Or.inl rfl | exact Or.inr rfl)) (pgs_cons (pg_name (i := 3) sc_height.nd rfl (by first | exact Or.inl rfl | exact Or.inr rfl)) pgs_nil))) (pgs_cons (pg_tupK (K := K) rfl rfl (pgs_cons (pg_name (i := 4) sc_height.nd rfl (by first | exact Or.inl rfl | exact Or.inr rfl)) (pgs_cons (pg_name (i := 5) sc_height.nd rfl (by first | exact Or.inl rfl | exact Or.inr rfl)) pgs_nil))) pgs_nil))))
      (pss_cons (ps_asg (pv 1) (pg_tupK (K := K) rfl rfl (pgs_cons (pg_name (i := 6) sc_height.nd rfl (by first | exact Or.inl rfl | exact Or.inr rfl)) (pgs_cons (pg_name (i := 7) sc_height.nd rfl (by first | exact Or.inl rfl | exact Or.inr rfl)) (pgs_cons (pg_name (i := 8) sc_height.nd rfl (by first | exact Or.inl rfl | exact Or.inr rfl)) pgs_nil)))))
      (pss_one (ps_ret (pe_call G_sign (hr.mono (by first | decide | exact Nat.le_refl _)) (by rfl) T.g_sign T.d_sign.kp (b_sign T) .nil pass0 (pa_cons (pe_op op_sub (pe_op op_sub (pe_op op_mulW (pe_op op_mulW (pv 7) (pv 3)) (pv 5)) (pe_op op_mulW (pe_op op_mulW (pv 2) (pv 6)) (pv 5))) (pe_op op_mulW (pe_op op_mulW (pv 4) (pv 8)) (pv 3))) pa_nil)))))), ?rd⟩)
  case len =>
    intro a h; rfl

  case rd =>
  rintro ⟨⟨m, k⟩, ⟨x, y, w⟩⟩ ⟨⟨h1, h2⟩, ⟨h3, h4⟩, ⟨h5, h6, h7⟩⟩ C _
  (try dsimp only [cxOf, Cx.nox, Cx.wish]); show WS K C _ [some (.dat _), some (.dat _), none, none, none, none, none, none, none] _
  simp only at h1 h2 h3 h4 h5 h6 h7
  repeat walk_at "we"
  show WG K C _ (.tuple [.tuple [.int m.num, .int (m.den : Int)], .tuple [.int k.num, .int (k.den : Int)]]) _ _
  repeat walk_at "we"
  show WG K C _ (.tuple [.int x, .int y, .int w]) _ _
  repeat walk_at "we"
  refine ⟨trivial, ?_⟩
  rintro _ rfl
  rfl

abbrev N_dual_of_point : List Str := ["p"]
theorem sc_dual_of_point : FnScope N_dual_of_point ["p"] (defScope s_dual_of_point) := ⟨rfl, rfl, rfl, by decide +kernel, rfl, by decide +kernel, by decide +kernel⟩
theorem b_dual_of_point (T : Tx K mg) : Binds K (fdK K "dual_of_point") ["p"] [] := T.d_dual_of_point.bindsN fun _ _ _ _ _ _ us hl => match us, hl with | [_], _ => rfl

abbrev sp_dual_of_point (K : PySem.W.Frag) : Sp := spD K (fun p : P3 => [pt p]) VP (fun p r => r = Ln (dpL p))
theorem ok_dual_of_point (T : Tx K mg) : FnOk P w K mg base CX0 6 (He.fAd K ("dual_of_point", none)) (fdK K "dual_of_point") ["p"] (sp_dual_of_point K) := by
  have G_check_each := ok_check_each (P := P) (w := w) (base := base) T
  have G_ratio := ok_ratio (P := P) (w := w) (base := base) T
  refine okD T.d_dual_of_point sc_dual_of_point ?len (fun cdv A outer s H E hr => ⟨_, (pss_cons (ps_expr (pe_call G_check_each (hr.mono (by first | decide | exact Nat.le_refl _)) (by rfl) T.g_check_each T.d_check_each.kp (b_check_each T) .nil pass0 (pa_cons (pe_tup (pa_cons (pv 0) pa_nil)) pa_nil)))
      (pss_one (ps_ret (pe_tup (pa_cons (pe_call G_ratio (hr.mono (by first | decide | exact Nat.le_refl _)) (by rfl) T.g_ratio T.d_ratio.kp (b_ratio T) .nil pass0 (pa_cons (pe_ix (ix_seqK (K := K) rfl) (pv 0) pe_int (fun _ _ => rfl)) (pa_cons (pe_ix (ix_seqK (K := K) rfl) (pv 0) pe_int (fun _ _ => rfl)) pa_nil))) (pa_cons (pe_call G_ratio (hr.mono (by first | decide | exact Nat.le_refl _)) (by rfl) T.g_ratio T.d_ratio.kp (b_ratio T) .nil pass0 (pa_cons (pe_un un_neg (pe_ix (ix_seqK (K := K) rfl) (pv 0) pe_int (fun _ _ => rfl))) (pa_cons (pe_ix (ix_seqK (K := K) rfl) (pv 0) pe_int (fun _ _ => rfl)) pa_nil))) pa_nil)))))), ?rd⟩)
  case len =>
    intro a h; rfl

  case rd =>
  rintro p hp C _
  (try dsimp only [cxOf, Cx.nox, Cx.wish]); show WS K C _ [some (.dat _)] _
  have hw := hp.all.1.1
  obtain ⟨b1, b2, b3⟩ := id hp.all.2
  repeat walk_at "we"
  refine ⟨[p], rfl, fun q hq => by simp at hq; subst hq; exact hp, ?_⟩
  rintro _ rfl
  repeat walk_at "we"
  refine ⟨(p.1, p.2.2), rfl, ⟨show p.2.2 ≠ 0 by omega, b3.mono (by decide)⟩, ?_⟩
  rintro _ rfl
  repeat walk_at "we"
  refine ⟨(-p.2.1, p.2.2), rfl, ⟨show p.2.2 ≠ 0 by omega, b3.mono (by decide)⟩, ?_⟩
  rintro _ rfl
  repeat walk_at "we"
  show PyData.tuple [rt _, rt (Rat.divInt (-p.2.1) p.2.2)] = PyData.tuple [rt _, rt (-qy p)]
  rw [neg_divInt0]
  rfl

abbrev N_common_of_lines : List Str := ["one", "other", "m", "n", "k", "d", "u", "v", "s", "t", "slope", "rise"]
theorem sc_common_of_lines : FnScope N_common_of_lines ["one", "other"] (defScope s_common_of_lines) := ⟨rfl, rfl, rfl, by decide +kernel, rfl, by decide +kernel, by decide +kernel⟩
theorem b_common_of_lines (T : Tx K mg) : Binds K (fdK K "common_of_lines") ["one", "other"] [] := T.d_common_of_lines.bindsN fun _ _ _ _ _ _ us hl => match us, hl with | [_, _], _ => rfl

abbrev sp_common_of_lines (K : PySem.W.Frag) : Sp := spD K (fun a : (Rat × Rat) × (Rat × Rat) => [Ln a.1, Ln a.2]) (fun a => a.1.1 ≠ a.2.1 ∧ (QB 400 a.1.1 ∧ QB 400 a.1.2) ∧ (QB 400 a.2.1 ∧ QB 400 a.2.2)) (fun a r => r = pt (crn a.1 a.2))
theorem ok_common_of_lines (T : Tx K mg) : FnOk P w K mg base CX0 2 (He.fAd K ("common_of_lines", none)) (fdK K "common_of_lines") ["one", "other"] (sp_common_of_lines K) := by
  have G_lowest := ok_lowest (P := P) (w := w) (base := base) T
  refine okD T.d_common_of_lines sc_common_of_lines ?len (fun cdv A outer s H E hr => ⟨_, (pss_cons (ps_asg (pv 0) (pg_tupK (K := K) rfl rfl (pgs_cons (pg_tupK (K := K) rfl rfl (pgs_cons (pg_name (i := 2) sc_common_of_lines.nd rfl (by first | exact Or.inl rfl | exact Or.inr rfl)) (pgs_cons (pg_name (i := 3) sc_common_of_lines.nd rfl (by first | exact Or.inl rfl | exact Or.inr rfl)) pgs_nil))) (pgs_cons (pg_tupK (K := K) rfl rfl (pgs_cons (pg_name (i := 4) sc_common_of_lines.nd rfl (by first | exact Or.inl rfl | exact Or.inr rfl)) (pgs_cons (pg_name (i := 5) sc_common_of_lines.nd rfl (by first | exact Or.inl rfl | exact Or.inr rfl)) pgs_nil))) pgs_nil))))
      (pss_cons (ps_asg (pv 1) (pg_tupK (K := K) rfl rfl (pgs_cons (pg_tupK (K := K) rfl rfl (pgs_cons (pg_name (i := 6) sc_common_of_lines.nd rfl (by first | exact Or.inl rfl | exact Or.inr rfl)) (pgs_cons (pg_name (i := 7) sc_common_of_lines.nd rfl (by first | exact Or.inl rfl | exact Or.inr rfl)) pgs_nil))) (pgs_cons (pg_tupK (K := K) rfl rfl (pgs_cons (pg_name (i := 8) sc_common_of_lines.nd rfl (by first | exact Or.inl rfl | exact Or.inr rfl)) (pgs_cons (pg_name (i := 9) sc_common_of_lines.nd rfl (by first | exact Or.inl rfl | exact Or.inr rfl)) pgs_nil))) pgs_nil))))
      (pss_cons (ps_set (i := 10) sc_common_of_lines.nd rfl (by first | exact Or.inl rfl | exact Or.inr rfl) (pe_op op_mulW (pe_op op_mulW (pe_op op_sub (pe_op op_mulW (pv 2) (pv 7)) (pe_op op_mulW (pv 6) (pv 3))) (pv 5)) (pv 9)))
      (pss_cons (ps_set (i := 11) sc_common_of_lines.nd rfl (by first | exact Or.inl rfl | exact Or.inr rfl) (pe_op op_mulW (pe_op op_mulW (pe_op op_sub (pe_op op_mulW (pv 8) (pv 5)) (pe_op op_mulW (pv 4) (pv 9))) (pv 3)) (pv 7)))
      (pss_one (ps_ret (pe_call G_lowest (hr.mono (by first | decide | exact Nat.le_refl _)) (by rfl) T.g_lowest T.d_lowest.kp (b_lowest T) .nil pass0 (pa_cons (pe_op op_mulW (pe_op op_mulW (pv 11) (pv 3)) (pv 5)) (pa_cons (pe_op op_add (pe_op op_mulW (pe_op op_mulW (pv 2) (pv 11)) (pv 5)) (pe_op op_mulW (pe_op op_mulW (pv 4) (pv 10)) (pv 3))) (pa_cons (pe_op op_mulW (pe_op op_mulW (pv 10) (pv 3)) (pv 5)) pa_nil)))))))))), ?rd⟩)
  case len =>
    intro a h; rfl

  case rd =>
  rintro ⟨⟨p, q⟩, ⟨r, z⟩⟩ ⟨hne, ⟨⟨h1, h2⟩, ⟨h3, h4⟩⟩, ⟨⟨h5, h6⟩, ⟨h7, h8⟩⟩⟩ C _
  (try dsimp only [cxOf, Cx.nox, Cx.wish]); show WS K C _ [some (.dat _), some (.dat _), none, none, none, none, none, none, none, none, none, none] _
  simp only at hne h1 h2 h3 h4 h5 h6 h7 h8
  obtain ⟨hW, hcr⟩ := crn_ints (l := (p, q)) (m := (r, z)) hne rfl rfl rfl rfl rfl rfl rfl rfl
  repeat walk_at "we"
  show WG K C _ (.tuple [.tuple [.int p.num, .int (p.den : Int)], .tuple [.int q.num, .int (q.den : Int)]]) _ _
  repeat walk_at "we"
  show WG K C _ (.tuple [.tuple [.int r.num, .int (r.den : Int)], .tuple [.int z.num, .int (z.den : Int)]]) _ _
  repeat walk_at "we"
  refine ⟨(_, _, _), rfl, ⟨hW, ?_⟩, ?_⟩
  · exact ((((((h1.mul h6).sub (h5.mul h2)).mul h4).mul h8).mul h2).mul h4).mono (by decide)
  rintro _ rfl
  show pt _ = pt _
  rw [← hcr]

abbrev N_level_corners : List Str := ["lines", "k", "found", "one", "other", "corners", "p", "at", "line"]
theorem sc_level_corners : FnScope N_level_corners ["lines", "k"] (defScope s_level_corners) := ⟨rfl, rfl, rfl, by decide +kernel, rfl, by decide +kernel, by decide +kernel⟩
theorem b_level_corners (T : Tx K mg) : Binds K (fdK K "level_corners") ["lines", "k"] [] := T.d_level_corners.bindsN fun _ _ _ _ _ _ us hl => match us, hl with | [_, _], _ => rfl
def pk (p : P3) : List Key := [.inl p.1, .inl p.2.1, .inl p.2.2]
theorem pk_inj {p q : P3} (h : pk p = pk q) : p = q := by
  obtain ⟨x, y, w⟩ := p
  obtain ⟨x', y', w'⟩ := q
  simp [pk] at h
  obtain ⟨rfl, rfl, rfl⟩ := h
  rfl
/-- lines as the law has them -/
def LsOk (ls : List (Rat × Rat)) : Prop := (1 ≤ ls.length ∧ ls.length ≤ 7) ∧ (ls.map fun l => l.1).Nodup ∧ ∀ l ∈ ls, QB 24 l.1 ∧ QB 24 l.2
theorem slope_ne {ls : List (Rat × Rat)} (h : (ls.map fun l => l.1).Nodup) {i j : Nat} {l m : Rat × Rat} (hij : i ≠ j) (hi : ls[i]? = some l) (hj : ls[j]? = some m) : l.1 ≠ m.1 := fun e => by
  have h1 : (ls.map fun l => l.1)[i]? = some l.1 := by rw [List.getElem?_map, hi]; rfl
  have h2 : (ls.map fun l => l.1)[j]? = some l.1 := by rw [List.getElem?_map, hj, e]; rfl
  have hl : i < (ls.map fun l => l.1).length := (List.getElem?_eq_some_iff.mp h1).1
  exact hij ((List.getElem?_inj hl h).mp (h1.trans h2.symm))
theorem cm2_at {ls : List (Rat × Rat)} {i : Nat} {d : D} (h : (cmD (ls.map Ln) 2)[i]? = some d) : ∃ (a b : Nat) (l m : Rat × Rat), (Cm.cmbs 0 ls.length 2)[i]? = some [a, b] ∧ a < b ∧ ls[a]? = some l ∧ ls[b]? = some m ∧ d = .tuple [Ln l, Ln m] := by
  unfold cmD at h
  rw [List.getElem?_map, List.length_map] at h
  cases e : (Cm.cmbs 0 ls.length 2)[i]? with
  | none => rw [e] at h; cases h
  | some c =>
    rw [e] at h
    obtain ⟨h1, h2, h3⟩ := Cm.mem_cmbs.mp (List.mem_of_getElem? e)
    match c, h1 with
    | [a, b], _ =>
      have ha := (h3 a (by simp)).2
      have hb := (h3 b (by simp)).2
      have hab : a < b := by simpa using h2
      refine ⟨a, b, ls[a], ls[b], rfl, hab, List.getElem?_eq_getElem (by omega), List.getElem?_eq_getElem (by omega), ?_⟩
      rw [← Option.some.inj h]
      simp [List.getD, show a < ls.length by omega, show b < ls.length by omega]
theorem cm2_len : ∀ n ≤ 7, (Cm.cmbs 0 n 2).length ≤ 21 := by decide
/-- met among the first pairs -/
def CorN (ls : List (Rat × Rat)) (n : Nat) (p : P3) : Prop := ∃ (i a b : Nat) (l m : Rat × Rat), i < n ∧ (Cm.cmbs 0 ls.length 2)[i]? = some [a, b] ∧ ls[a]? = some l ∧ ls[b]? = some m ∧ p = crn l m
theorem corN_all {ls : List (Rat × Rat)} {p : P3} : CorN ls (Cm.cmbs 0 ls.length 2).length p ↔ CorP ls p := by
  constructor
  · rintro ⟨i, a, b, l, m, hi, hc, ha, hb, rfl⟩
    have h2 := (Cm.mem_cmbs.mp (List.mem_of_getElem? hc)).2.1
    exact ⟨a, b, l, m, by simpa using h2, ha, hb, rfl⟩
  · rintro ⟨a, b, l, m, hab, ha, hb, rfl⟩
    have h1 := (List.getElem?_eq_some_iff.mp ha).1
    have h2 := (List.getElem?_eq_some_iff.mp hb).1
    obtain ⟨i, hi⟩ := List.mem_iff_getElem?.mp ((Cm.mem_cmbs (lo := 0) (n := ls.length) (r := 2) (c := [a, b])).mpr ⟨rfl, by simp [hab], fun x hx => by
      simp at hx
      rcases hx with rfl | rfl <;> omega⟩)
    exact ⟨i, a, b, l, m, (List.getElem?_eq_some_iff.mp hi).1, hi, ha, hb, rfl⟩
def ixF (F : List P3) : D → D
  | .int k => pt (F.getD k.toNat (0, 0, 0))
  | _ => .none
def hgtD (p : P3) : D → D
  | .tuple [.tuple [.int a, .int b], .tuple [.int c, .int d]] => .int (p.2.1 * b * d - a * p.1 * d - c * p.2.2 * b).sign
  | _ => .none
/-- what level_corners hands back -/
def LevR (ls : List (Rat × Rat)) (k : Nat) (ps : List P3) : Prop := ps.Pairwise Lx ∧ ∀ p, p ∈ ps ↔ CorP ls p ∧ lev ls p = k
theorem pks_of : ∀ {ks : List (List Key)}, (∀ k ∈ ks, ∃ p : P3, k = pk p) → ∃ ps : List P3, ks = ps.map pk
  | [], _ => ⟨[], rfl⟩
  | k :: ks, h => by
    obtain ⟨p, e⟩ := h k (by simp)
    obtain ⟨ps, e2⟩ := pks_of (ks := ks) fun x hx => h x (by simp [hx])
    exact ⟨p :: ps, by rw [List.map_cons, ← e, ← e2]⟩

abbrev sp_level_corners (K : PySem.W.Frag) : Sp := spD K (fun a : List (Rat × Rat) × Nat => [.tuple (a.1.map Ln), .int (a.2 : Int)]) (fun a => LsOk a.1 ∧ a.2 ≤ 20) (fun a r => ∃ ps : List P3, LevR a.1 a.2 ps ∧ r = .tuple (ps.map pt))
theorem ok_level_corners (T : Tx K mg) : FnOk P w K mg base CX0 6 (He.fAd K ("level_corners", none)) (fdK K "level_corners") ["lines", "k"] (sp_level_corners K) := by
  have G_check_lines := ok_check_lines (P := P) (w := w) (base := base) T
  have G_is_whole := ok_is_whole (P := P) (w := w) (base := base) T
  have G_common_of_lines := ok_common_of_lines (P := P) (w := w) (base := base) T
  have G_height := ok_height (P := P) (w := w) (base := base) T
  have G_ranking := ok_ranking (P := P) (w := w) (base := base) T
  refine okD T.d_level_corners sc_level_corners ?len (fun cdv A outer s H E hr => ⟨_, (pss_cons (ps_expr (pe_call G_check_lines (hr.mono (by first | decide | exact Nat.le_refl _)) (by rfl) T.g_check_lines T.d_check_lines.kp (b_check_lines T) .nil pass0 (pa_cons (pv 0) pa_nil)))
      (pss_cons (ps_if (PW.pt (pw_or (pt_not (pt_val (pe_call G_is_whole (hr.mono (by first | decide | exact Nat.le_refl _)) (by rfl) T.g_is_whole T.d_is_whole.kp (b_is_whole T) .nil pass0 (pa_cons (pv 1) pa_nil)))) (pw_or1 (pt_not (pt_chain op_le op_le pe_int (pv 1) (pe_glob (v := .int 20) (by rfl) T.c_MOST_LINES.choose_spec ⟨_, rfl⟩)))))) (pss_one ps_never) pss_nil)
      (pss_cons (ps_set (i := 2) sc_level_corners.nd rfl (by first | exact Or.inl rfl | exact Or.inr rfl) pe_dnewT)
      (pss_cons (ps_for PassesOwn.never rfl (Cm.pi_cmbK (K := K) rfl (by rfl) (by rfl) T.m_combinations (pa_cons (pe_callTy call_list_of (by rfl) T.n_list PyProof.Rows.boot_list (pa_cons (pv 0) pa_nil)) (pa_cons pe_int pa_nil))) (pg_tupK (K := K) rfl rfl (pgs_cons (pg_name (i := 3) sc_level_corners.nd rfl (by first | exact Or.inl rfl | exact Or.inr rfl)) (pgs_cons (pg_name (i := 4) sc_level_corners.nd rfl (by first | exact Or.inl rfl | exact Or.inr rfl)) pgs_nil))) (pss_cons (ps_set (i := 6) sc_level_corners.nd rfl (by first | exact Or.inl rfl | exact Or.inr rfl) (pe_call G_common_of_lines (hr.mono (by first | decide | exact Nat.le_refl _)) (by rfl) T.g_common_of_lines T.d_common_of_lines.kp (b_common_of_lines T) .nil pass0 (pa_cons (pv 3) (pa_cons (pv 4) pa_nil))))
      (pss_one (ps_if (PW.pt (pw_and (pt_cmp (pc_dnotin (room1 hr) (pv 6) (pv 2))) (pw_and1 (pt_cmpR (op_eqDK (K := K) rfl hr.units) (pe_bmK (K := K) rfl PySem.F.plainAttrs_list PySem.F.slot_list_count PySem.F.type_list_count (mt_lcountK (K := K) rfl) (pe_lc (by rfl) sc_level_corners.nd (pi_tupK (K := K) rfl (pv 0)) (blkOk_by (own := [("line", 8)]) (N := N_level_corners) (sc := defScope s_level_corners) (by decide +kernel)) (fun _ _ _ _ _ => (pg_name (i := 8) sc_level_corners.nd rfl (by first | exact Or.inl rfl | exact Or.inr rfl))) (fun _ _ _ _ _ => pts_nil) (fun _ _ _ _ _ => (pe_call G_height (hr.mono (by first | decide | exact Nat.le_refl _)) (by rfl) T.g_height T.d_height.kp (b_height T) .nil pass0 (pa_cons (pv 8) (pa_cons (pv 6) pa_nil))))) (pa_cons pe_int pa_nil)) (pv 1) (nomark _))))) (pss_one (ps_asg pe_bl (pg_sub (pv 2) (pv 6) (set_dict (room1 hr))))) pss_nil))))
      (pss_cons (ps_set (i := 5) sc_level_corners.nd rfl (by first | exact Or.inl rfl | exact Or.inr rfl) (pe_callTy (call_list_dT (by rfl)) (by rfl) T.n_list PyProof.Rows.boot_list (pa_cons (pv 2) pa_nil)))
      (pss_one (ps_ret (pe_callTy (call_tupleK (K := K) rfl) (by rfl) T.n_tuple PyProof.Rows.boot_tuple (pa_cons (pe_lc (by rfl) sc_level_corners.nd (pi_listK (K := K) rfl (pe_call G_ranking (hr.mono (by first | decide | exact Nat.le_refl _)) (by rfl) T.g_ranking T.d_ranking.kp (b_ranking T) .nil pass0 (pa_cons (pv 5) pa_nil))) (blkOk_by (own := [("at", 7)]) (N := N_level_corners) (sc := defScope s_level_corners) (by decide +kernel)) (fun _ _ _ _ _ => (pg_name (i := 7) sc_level_corners.nd rfl (by first | exact Or.inl rfl | exact Or.inr rfl))) (fun _ _ _ _ _ => pts_nil) (fun _ _ _ _ _ => (pe_ix (ix_seqK (K := K) rfl) (pv 5) (pv 7) (fun _ _ => rfl)))) pa_nil))))))))), ?rd⟩)
  case len =>
    intro a h; rfl

  case rd =>
  rintro ⟨ls, k⟩ ⟨⟨⟨l1, l7⟩, nd, hq⟩, hk⟩ C _
  (try dsimp only [cxOf, Cx.nox, Cx.wish]); show WS K C _ [some (.dat _), some (.dat _), none, none, none, none, none, none, none] _
  simp only at l1 l7 nd hq hk
  repeat walk_at "we"
  refine ⟨⟨⟨l1, by omega⟩, nd⟩, ?_⟩
  rintro _ rfl
  repeat walk_at "we"
  refine ⟨trivial, ?_⟩
  rintro _ rfl
  repeat walk_at "we"
  refine ⟨fun h => (nomatch h), fun _ => ?_⟩
  repeat walk_at "we"
  refine ⟨fun _ => ?_, fun h => absurd (of_decide_eq_false h) (by omega)⟩
  repeat walk_at "we"
  refine ⟨fun h => absurd h (by rw [decide_eq_true (by omega)]; exact fun z => nomatch z), fun _ => ?_⟩
  refine ws_next ?_
  refine ws_seq (ws_dnew ?_)
  show WS K C _ [some (.dat (.tuple (ls.map Ln))), some (.dat (.int (k : Int))), some (.dic (fun _ => none) 0), none, none, none, none, none, none] _
  have lvl : ∀ p, CorP ls p → 0 < p.2.2 ∧ BP 200 p ∧ p.2.2.natAbs ≤ 2 ^ 145 ∧ Nm p := fun p ⟨i, j, l, m, hij, hi, hj, e⟩ => by
    obtain ⟨q1, q2⟩ := hq l (List.mem_of_getElem? hi)
    obtain ⟨q3, q4⟩ := hq m (List.mem_of_getElem? hj)
    obtain ⟨b1, b2⟩ := crn_bd (slope_ne nd (Nat.ne_of_lt hij) hi hj) q1 q2 q3 q4
    rw [e]
    exact ⟨(crn_nm l m).1, b1, b2, crn_nm l m⟩
  refine ws_seq (ws_for (wi_cmb ?_))
  repeat walk_at "we"
  refine cd_listof (.inr rfl) ?_
  repeat walk_at "we"
  refine ⟨_, ls.map Ln, 2, rfl, .inl rfl, by decide, ?_⟩
  refine ⟨fun i e => ∃ ps : List P3, ∃ x3 x4 x5 x6 x7 x8, (ps.Nodup ∧ ps.length ≤ i) ∧ (∀ p, p ∈ ps ↔ CorN ls i p ∧ lev ls p = k) ∧ e = [some (.dat (.tuple (ls.map Ln))), some (.dat (.int (k : Int))), some (.dic (seenK (ps.map pk)) ps.length), x3, x4, x5, x6, x7, x8], ⟨[], none, none, none, none, none, none, ⟨List.nodup_nil, Nat.le_refl _⟩, ?_, ?_⟩, ?_, ?_⟩
  · intro p
    constructor
    · intro h; cases h
    · rintro ⟨⟨i, _, _, _, _, h, _⟩, _⟩
      exact absurd h (Nat.not_lt_zero _)
  · rw [List.map_nil, seenK_nil]
    rfl
  · rintro i d e hi ⟨ps, x3, x4, x5, x6, x7, x8, ⟨pn, pl⟩, hp, rfl⟩
    obtain ⟨a, b, l, m, hc, hab, ha, hb, rfl⟩ := cm2_at hi
    have hne := slope_ne nd (Nat.ne_of_lt hab) ha hb
    have hil : i < (Cm.cmbs 0 ls.length 2).length := (List.getElem?_eq_some_iff.mp hc).1
    have h21 := cm2_len ls.length l7
    obtain ⟨q1, q2⟩ := hq l (List.mem_of_getElem? ha)
    obtain ⟨q3, q4⟩ := hq m (List.mem_of_getElem? hb)
    obtain ⟨w0, b1, b2, nm⟩ := lvl (crn l m) ⟨a, b, l, m, hab, ha, hb, rfl⟩
    have step : ∀ p, CorN ls (i + 1) p ↔ CorN ls i p ∨ p = crn l m := fun p => by
      constructor
      · rintro ⟨i', a', b', l', m', h1, h2, h3, h4, e⟩
        by_cases hh : i' = i
        · subst hh
          have e2 := Option.some.inj (hc.symm.trans h2)
          simp only [List.cons.injEq, and_true] at e2
          obtain ⟨rfl, rfl⟩ := e2
          have := Option.some.inj (ha.symm.trans h3)
          have := Option.some.inj (hb.symm.trans h4)
          subst_vars
          exact .inr rfl
        · exact .inl ⟨i', a', b', l', m', by omega, h2, h3, h4, e⟩
      · rintro (⟨i', a', b', l', m', h1, h2, h3, h4, e⟩ | rfl)
        · exact ⟨i', a', b', l', m', by omega, h2, h3, h4, e⟩
        · exact ⟨i, a, b, l, m, by omega, hc, ha, hb, rfl⟩
    refine wg_tup (ds := [_, _]) rfl (wgs_cons (wg_name (wgs_cons (wg_name (wgs_nil ?_)))))
    show WS K C _ [some (.dat (.tuple (ls.map Ln))), some (.dat (.int (k : Int))), some (.dic (seenK (ps.map pk)) ps.length), some (.dat (Ln l)), some (.dat (Ln m)), x5, x6, x7, x8] _
    repeat walk_at "we"
    refine ⟨(l, m), rfl, ⟨hne, ⟨q1.mono (by decide), q2.mono (by decide)⟩, ⟨q3.mono (by decide), q4.mono (by decide)⟩⟩, ?_⟩
    rintro _ rfl
    refine ws_if (WT.imp (Ψ := fun t => (t = true → crn l m ∉ ps ∧ lev ls (crn l m) = k) ∧ (t = false → ¬ (crn l m ∉ ps ∧ lev ls (crn l m) = k))) ?test ?_)
    case test =>
      show WT K C _ [some (.dat (.tuple (ls.map Ln))), some (.dat (.int (k : Int))), some (.dic (seenK (ps.map pk)) ps.length), some (.dat (Ln l)), some (.dat (Ln m)), x5, some (.dat (pt (crn l m))), x7, x8] _
      repeat walk_at "we"
      refine we_dnotin rfl ?_
      repeat walk_at "we"
      refine ⟨pk (crn l m), rfl, _, rfl, fun h => ?_, fun h => ?_⟩
      · have hno : crn l m ∉ ps := fun z => by
          have := seenK_some.mpr (List.mem_map.mpr ⟨_, z, rfl⟩ : pk (crn l m) ∈ ps.map pk)
          rw [this] at h
          cases h
        repeat walk_at "we"
        refine we_count ?_
        refine we_map (by walk_at "og") (hgtD (crn l m)) (wi_tup ?_)
        repeat walk_at "we"
        refine ⟨by rw [List.length_map]; omega, ?_, ?_⟩
        · rintro j d hj
          obtain ⟨n, hn, rfl⟩ := map_atR hj
          obtain ⟨q5, q6⟩ := hq n (List.mem_of_getElem? hn)
          refine wg_name ?_
          show WE K C _ [some (.dat (.tuple (ls.map Ln))), some (.dat (.int (k : Int))), some (.dic (seenK (ps.map pk)) ps.length), some (.dat (Ln l)), some (.dat (Ln m)), x5, some (.dat (pt (crn l m))), x7, some (.dat (Ln n))] _
          repeat walk_at "we"
          refine ⟨(n, crn l m), rfl, ⟨q5.mono (by decide), q6.mono (by decide), b1.mono (by decide)⟩, ?_⟩
          rintro _ rfl
          rfl
        refine ⟨ls.map fun n => hgt n (crn l m), ?_, ?_⟩
        · rw [List.map_map, List.map_map]
          rfl
        repeat walk_at "we"
        refine rd_eqD rfl rfl ?_
        rw [lev_count w0]
        refine ⟨_, rfl, fun h => ?_, fun h => ?_⟩
        · rw [eqv_int] at h
          have h := of_decide_eq_true h
          exact ⟨hno, by omega⟩
        · rw [eqv_int] at h
          have h := of_decide_eq_false h
          exact fun z => h (by omega)
      · refine ⟨fun z => (nomatch z), fun _ z => z.1 ?_⟩
        cases hs : (seenK (ps.map pk) (pk (crn l m))).isSome with
        | false => rw [hs] at h; cases h
        | true =>
          obtain ⟨q, hqm, e⟩ := List.mem_map.mp (seenK_some.mp hs)
          rw [← pk_inj e]
          exact hqm
    intro t ht
    show (t = true → WS K C _ [some (.dat (.tuple (ls.map Ln))), some (.dat (.int (k : Int))), some (.dic (seenK (ps.map pk)) ps.length), some (.dat (Ln l)), some (.dat (Ln m)), x5, some (.dat (pt (crn l m))), x7, x8] _) ∧ _
    refine ⟨fun h => ?_, fun h => ?_⟩
    · obtain ⟨hno, hlev⟩ := ht.1 h
      refine ws_dset rfl ?_
      repeat walk_at "we"
      refine ⟨pk (crn l m), rfl, by omega, ?_⟩
      refine ⟨ps ++ [crn l m], some (.dat (Ln l)), some (.dat (Ln m)), x5, some (.dat (pt (crn l m))), x7, x8, ⟨?_, by rw [List.length_append, List.length_singleton]; omega⟩, ?_, ?_⟩
      · refine List.nodup_append.mpr ⟨pn, by simp, ?_⟩
        intro x hx y hy e
        rw [List.mem_singleton.mp hy] at e
        exact hno (e ▸ hx)
      · intro p
        rw [List.mem_append, List.mem_singleton, step, hp]
        constructor
        · rintro (⟨h1, h2⟩ | rfl)
          · exact ⟨.inl h1, h2⟩
          · exact ⟨.inr rfl, hlev⟩
        · rintro ⟨h1 | h1, h2⟩
          · exact .inl ⟨h1, h2⟩
          · exact .inr h1
      · rw [List.map_append, List.map_singleton, seenK_snoc, List.length_append]
        rfl
    · have hn := ht.2 h
      refine ws_next ⟨ps, _, _, _, _, _, _, ⟨pn, by omega⟩, ?_, rfl⟩
      intro p
      rw [step]
      constructor
      · intro h
        obtain ⟨h1, h2⟩ := (hp p).mp h
        exact ⟨.inl h1, h2⟩
      · rintro ⟨h1 | rfl, h2⟩
        · exact (hp p).mpr ⟨h1, h2⟩
        · exact Classical.byContradiction fun z => hn ⟨z, h2⟩
  rintro e ⟨ps, x3, x4, x5, x6, x7, x8, ⟨pn, pl⟩, hp, rfl⟩
  rw [cmD_len, List.length_map] at pl hp
  have h21 := cm2_len ls.length l7
  refine ws_seq (ws_asg (we_listdic rfl fun ks knd kl hks => ?_))
  obtain ⟨qs, rfl⟩ := pks_of (ks := ks) fun x hx => by
    obtain ⟨p, _, e⟩ := List.mem_map.mp (seenK_some.mp ((hks x).mp hx))
    exact ⟨p, e.symm⟩
  have hmem : ∀ p, p ∈ qs ↔ CorP ls p ∧ lev ls p = k := fun p => by
    rw [← corN_all, ← hp]
    constructor
    · intro h
      obtain ⟨q, hqm, e⟩ := List.mem_map.mp (seenK_some.mp ((hks _).mp (List.mem_map.mpr ⟨p, h, rfl⟩)))
      rw [← pk_inj e]
      exact hqm
    · intro h
      obtain ⟨q, hqm, e⟩ := List.mem_map.mp ((hks _).mpr (seenK_some.mpr (List.mem_map.mpr ⟨p, h, rfl⟩)))
      rw [← pk_inj e]
      exact hqm
  have qnd : qs.Nodup := (List.pairwise_map.mp knd).imp fun h e => h (congrArg pk e)
  have ql : qs.length ≤ 21 := by
    rw [List.length_map] at kl
    omega
  have e : (qs.map pk).map (fun k => PyData.tuple (k.map keyD)) = qs.map pt := by
    rw [List.map_map]
    rfl
  rw [e]
  show WS K C _ [some (.dat (.tuple (ls.map Ln))), some (.dat (.int (k : Int))), some (.dic (seenK (ps.map pk)) ps.length), x3, x4, some (.dat (.list (qs.map pt))), x6, x7, x8] _
  repeat walk_at "we"
  refine we_map (by walk_at "og") (ixF qs) (wi_list ?_)
  repeat walk_at "we"
  refine ⟨⟨⟨by omega, fun n => ?_, fun p hp => ?_⟩, qnd, fun p hp => (lvl p ((hmem p).mp hp).1).2.2.2⟩, ?_⟩
  · have l1 := lcw_pow (B := 2 ^ 145) (qs.take n) fun p hp => (lvl p ((hmem p).mp (List.mem_of_mem_take hp)).1).2.2.1
    have l2 : (qs.take n).length ≤ 21 := by rw [List.length_take]; omega
    refine Nat.lt_of_le_of_lt l1 (Nat.lt_of_le_of_lt (Nat.pow_le_pow_right (by decide) l2) ?_)
    rw [← Nat.pow_mul]
    exact Nat.pow_lt_pow_right (by decide) (by decide)
  · obtain ⟨w0, b1, _, _⟩ := lvl p ((hmem p).mp hp).1
    exact ⟨w0, b1.mono (by decide)⟩
  rintro _ ⟨ks, hk, rfl⟩
  obtain ⟨r1, r2, r3⟩ := rank_list hk
  have kl : ks.length = qs.length := by rw [hk.1.length_eq, List.length_range]
  refine ⟨_, rfl, by rw [List.length_map]; omega, ?_, ?_⟩
  · rintro i dd hi
    rw [List.getElem?_map] at hi
    cases hu : ks[i]? with
    | none => rw [hu] at hi; cases hi
    | some j =>
      rw [hu] at hi
      cases hi
      have hkF := r3 j (List.mem_of_getElem? hu)
      refine wg_name ?_
      show WE K C _ [some (.dat (.tuple (ls.map Ln))), some (.dat (.int (k : Int))), some (.dic (seenK (ps.map pk)) ps.length), x3, x4, some (.dat (.list (qs.map pt))), x6, some (.dat (.int (j : Int))), x8] _
      repeat walk_at "we"
      refine rd_ixS (.inr rfl) (d := pt qs[j]) (atI_nat (by rw [List.getElem?_map, List.getElem?_eq_getElem hkF]; rfl)) ?_
      show pt qs[j] = pt (qs.getD (j : Int).toNat (0, 0, 0))
      simp [hkF]
  refine wa_nil (cd_tuple (.inl rfl) ?_)
  refine ⟨_, ⟨r2, fun p => (r1.mem_iff).trans (hmem p)⟩, ?_⟩
  rw [List.map_map, List.map_map]
  rfl

abbrev N_law_taken : List Str := ["row", "many", "cell", "found"]
theorem sc_law_taken : FnScope N_law_taken ["row", "many"] (defScope s_law_taken) := ⟨rfl, rfl, rfl, by decide +kernel, rfl, by decide +kernel, by decide +kernel⟩
theorem b_law_taken (T : Tx K mg) : Binds K (fdK K "_law_taken") ["row", "many"] [] := T.d_law_taken.bindsN fun _ _ _ _ _ _ us hl => match us, hl with | [_, _], _ => rfl
abbrev sp_law_taken (K : PySem.W.Frag) : Sp := spR K (fun many : Int => [.int many]) (fun many => 0 < many ∧ Bd 8000 many) (fun many d => ∃ v : Int, d = .int v ∧ 0 ≤ v ∧ v < many)
/-- the row holds other numbers -/
theorem stp_row {S H0 H : Hp} {R A : Addr} {ns : List Int} {i m r : Int} (nS : S R = none) (e : Ex S H0) (hA : SqL K S A (ns.map V.int)) (hH : ∀ b, b ≠ R → H b = H0 b) (hR : H R = some (.lst [.ref A, .int i, .int m, .int r]))
    (h1 : 0 ≤ i) (h2 : 0 ≤ m) (h3 : m < 2147483647) (h4 : 0 ≤ r) : Stp K ⟨some R, H0, S⟩ S H0 S H where
  s := Ex.refl S
  k := fun b o q => by rw [hH b (fun z => by rw [z, nS] at q; cases q)]; exact e b o q
  h := fun b o n q => by rw [hH b (fun z => n (by rw [z]))]; exact q
  hid := fun _ _ _ _ n => n
  row := fun r' e' => by
    have e2 : R = r' := Option.some.inj e'
    subst e2
    exact ⟨nS, A, ns, i, m, r, hR, hA, h1, h2, h3, h4⟩

theorem ok_law_taken (T : Tx K mg) : FnOk P w K mg base CX0 1 (He.fAd K ("_law_taken", none)) (fdK K "_law_taken") ["row", "many"] (sp_law_taken K) := by
  refine okS T.d_law_taken sc_law_taken (fun vs H Q E h => spR_len h fun _ _ => rfl) (fun cdv A outer s H E hr => ⟨_, (pss_cons (ps_if (pt_cmpR op_gt (pe_ix ix_list (pv 0) pe_int (fun _ _ => rfl)) pe_int (nomark _)) (pss_cons (ps_set (i := 3) sc_law_taken.nd rfl (by first | exact Or.inl rfl | exact Or.inr rfl) (pe_op op_mod (pe_callTy call_int1 (by rfl) T.n_int PyProof.Rows.boot_int (pa_cons (pe_ix ix_list (pv 0) pe_int (fun _ _ => rfl)) pa_nil)) (pv 1)))
      (pss_cons (ps_asg (pe_op op_fdivX (pe_ix ix_list (pv 0) pe_int (fun _ _ => rfl)) (pv 1)) (pg_sub (pv 0) pe_int set_list))
      (pss_one (ps_ret (pv 3))))) pss_nil)
      (pss_cons (ps_asg (pe_op op_add (pe_ix ix_list (pv 0) pe_int (fun _ _ => rfl)) pe_int) (pg_sub (pv 0) pe_int set_list))
      (pss_cons (ps_if (pt_cmpR op_gt (pe_ix ix_list (pv 0) pe_int (fun _ _ => rfl)) (pe_callB (call_lenK (K := K) rfl) (by rfl) T.n_len PySem.boot_len (pa_cons (pe_ix ix_list (pv 0) pe_int (fun _ _ => rfl)) pa_nil)) (nomark _)) (pss_cons (ps_asg (pe_op op_mod (pe_callTy call_int1 (by rfl) T.n_int PyProof.Rows.boot_int (pa_cons (pe_op op_add (pe_op op_mulW (pe_ix ix_list (pv 0) pe_int (fun _ _ => rfl)) pe_int) pe_int) pa_nil)) pe_int) (pg_sub (pv 0) pe_int set_list))
      (pss_one (ps_ret (pe_op op_mod (pe_callTy call_int1 (by rfl) T.n_int PyProof.Rows.boot_int (pa_cons (pe_op op_fdivX (pe_ix ix_list (pv 0) pe_int (fun _ _ => rfl)) pe_int) pa_nil)) (pv 1))))) pss_nil)
      (pss_cons (ps_set (i := 2) sc_law_taken.nd rfl (by first | exact Or.inl rfl | exact Or.inr rfl) (pe_ix ix_list (pe_ix ix_list (pv 0) pe_int (fun _ _ => rfl)) (pe_op op_sub (pe_ix ix_list (pv 0) pe_int (fun _ _ => rfl)) pe_int) (fun _ _ => rfl)))
      (pss_cons (ps_asg (pe_op op_mod (pe_callTy call_int1 (by rfl) T.n_int PyProof.Rows.boot_int (pa_cons (pe_op op_add (pe_op op_add (pe_op op_mulW (pe_ix ix_list (pv 0) pe_int (fun _ _ => rfl)) pe_int) (pv 2)) pe_int) pa_nil)) pe_int) (pg_sub (pv 0) pe_int set_list))
      (pss_cons (ps_if (pt_cmpR op_ge (pv 2) (pe_op op_pow pe_int pe_int) (nomark _)) (pss_one (ps_asg (pe_op op_fdivX (pv 2) (pv 1)) (pg_sub (pv 0) pe_int set_list))) pss_nil)
      (pss_one (ps_ret (pe_op op_mod (pe_callTy call_int1 (by rfl) T.n_int PyProof.Rows.boot_int (pa_cons (pv 2) pa_nil)) (pv 1)))))))))), ?rd⟩)
  case rd =>
    rintro vs H Q E ⟨many, S, R, rs, rfl, eS, ⟨nS, A, ns, i, m, r, hR, hA, hi, hm0, hm1, hr0⟩, dd, ⟨hp, hb⟩, q⟩
    cases dd with
    | cons d1 t1 =>
    cases t1; cases d1
    have nA : many ≠ 0 := by omega
    have hA0 : ∀ {H' : Hp}, (∀ b, b ≠ R → H' b = H b) → SqL K H' A (ns.map V.int) := fun {H'} hh => ex_l (fun b o z => by rw [hh b (fun y => by rw [y, nS] at z; cases z)]; exact eS b o z) hA
    -- if row[3] > 0
    refine ⟨_, rfl, R, _, 3, _, rfl, rfl, SqL.of hR, rfl, _, _, rfl, rfl, _, rfl, ?_⟩
    refine ite2 (fun h1 => ?_) (fun h1 => ?_)
    · have h1 := of_decide_eq_true h1
      refine ⟨_, rfl, R, _, 3, _, rfl, rfl, SqL.of hR, rfl, .inl ⟨_, rfl, ?_⟩⟩
      refine ⟨_, rfl, _, _, rfl, rfl, hp, ?_⟩
      refine ⟨_, rfl, R, _, 3, _, rfl, rfl, SqL.of hR, rfl, _, rfl, _, _, rfl, rfl, cdivX nA hb (by decide), ?_⟩
      refine ⟨_, rfl, R, _, 3, 3, rfl, rfl, hR, rfl, ?_⟩
      refine ⟨_, rfl, ?_⟩
      have hf : 0 ≤ r.fdiv many := by rw [Int.fdiv_eq_ediv_of_nonneg _ (by omega)]; exact Int.ediv_nonneg hr0 (by omega)
      exact q _ ⟨_, rfl, Int.emod_nonneg _ nA, Int.emod_lt_of_pos _ hp⟩ _ _ _ (stp_row nS eS hA (fun b hb => upd_ne hb) upd_same hi hm0 hm1 hf) (.int _)
    -- row[1] = row[1] + 1
    · refine ⟨_, rfl, R, _, 1, _, rfl, rfl, SqL.of hR, rfl, _, _, rfl, rfl, ?_⟩
      refine ⟨_, rfl, R, _, 1, 1, rfl, rfl, hR, rfl, ?_⟩
      -- if row[1] > len(row[0])
      refine ⟨_, rfl, R, _, 1, _, rfl, rfl, SqL.of upd_same, rfl, ?_⟩
      refine ⟨_, rfl, R, _, 0, _, rfl, rfl, SqL.of upd_same, rfl, A, _, rfl, .inl (hA0 fun b hb => upd_ne hb), ?_⟩
      refine ⟨_, _, rfl, rfl, _, rfl, ?_⟩
      refine ite2 (fun h2 => ?_) (fun h2 => ?_)
      · refine ⟨_, rfl, R, _, 2, _, rfl, rfl, SqL.of upd_same, rfl, _, _, rfl, rfl, cmulW (a := 31) (b := 16) (show m.natAbs < 2 ^ 31 by omega) (show (48271 : Int).natAbs < 2 ^ 16 by decide) (by decide), _, _, rfl, rfl, .inl ⟨_, rfl, _, _, rfl, rfl, (by show (0 : Int) < 2147483647; decide), ?_⟩⟩
        refine ⟨_, rfl, R, _, 2, 2, rfl, rfl, upd_same, rfl, ?_⟩
        refine ⟨_, rfl, R, _, 2, _, rfl, rfl, SqL.of upd_same, rfl, _, _, rfl, rfl, cdivX (b := 3) (by decide) (show (7 : Int).natAbs < 2 ^ 3 by decide) (by decide), .inl ⟨_, rfl, ?_⟩⟩
        refine ⟨_, rfl, _, _, rfl, rfl, hp, ?_⟩
        exact q _ ⟨_, rfl, Int.emod_nonneg _ nA, Int.emod_lt_of_pos _ hp⟩ _ _ _ (stp_row nS eS hA (fun b hb => by rw [upd_ne hb, upd_ne hb]) upd_same (show 0 ≤ i + 1 by omega) (Int.emod_nonneg _ (by decide)) (Int.emod_lt_of_pos _ (by decide)) hr0) (.int _)
      · have h2 : ¬ ((ns.map V.int).length : Int) < i + 1 := fun z => h2 (decide_eq_true z)
        rw [List.length_map] at h2
        have hlt : i.toNat < ns.length := by omega
        have hat : atI (ns.map V.int) (i + 1 - 1) = some (V.int ns[i.toNat]) := by
          have e : i + 1 - 1 = ((i.toNat : Nat) : Int) := by omega
          rw [e]
          exact atI_nat (by rw [List.getElem?_map, List.getElem?_eq_getElem hlt]; rfl)
        generalize ns[i.toNat] = cell at hat
        -- cell = row[0][row[1] - 1]
        refine ⟨_, rfl, R, _, 0, _, rfl, rfl, SqL.of upd_same, rfl, ?_⟩
        refine ⟨_, rfl, R, _, 1, _, rfl, rfl, SqL.of upd_same, rfl, _, _, rfl, rfl, ?_⟩
        refine ⟨A, _, _, _, rfl, rfl, hA0 (fun b hb => upd_ne hb), hat, ?_⟩
        -- row[2] = ..
        refine ⟨_, rfl, R, _, 2, _, rfl, rfl, SqL.of upd_same, rfl, _, _, rfl, rfl, cmulW (a := 31) (b := 16) (show m.natAbs < 2 ^ 31 by omega) (show (48271 : Int).natAbs < 2 ^ 16 by decide) (by decide), ?_⟩
        refine ⟨_, rfl, _, _, rfl, rfl, _, _, rfl, rfl, .inl ⟨_, rfl, _, _, rfl, rfl, (by show (0 : Int) < 2147483647; decide), ?_⟩⟩
        refine ⟨_, rfl, R, _, 2, 2, rfl, rfl, upd_same, rfl, ?_⟩
        -- if cell >= 10 ** 18
        refine ⟨_, rfl, _, _, rfl, rfl, ⟨by decide, by decide, by decide⟩, _, _, rfl, rfl, _, rfl, ?_⟩
        refine ite2 (fun h3 => ?_) (fun h3 => ?_)
        · have h3 : (10 : Int) ^ (18 : Int).toNat ≤ cell := of_decide_eq_true h3
          have h4 : (0 : Int) ≤ 10 ^ (18 : Int).toNat := by decide
          refine ⟨_, rfl, _, rfl, _, _, rfl, rfl, cdivX nA hb (by decide), ?_⟩
          refine ⟨_, rfl, R, _, 3, 3, rfl, rfl, upd_same, rfl, ?_⟩
          refine ⟨_, rfl, .inl ⟨_, rfl, _, rfl, _, _, rfl, rfl, hp, ?_⟩⟩
          have hf : 0 ≤ cell.fdiv many := by rw [Int.fdiv_eq_ediv_of_nonneg _ (by omega)]; exact Int.ediv_nonneg (by omega) (by omega)
          exact q _ ⟨_, rfl, Int.emod_nonneg _ nA, Int.emod_lt_of_pos _ hp⟩ _ _ _ (stp_row nS eS hA (fun b hb => by rw [upd_ne hb, upd_ne hb, upd_ne hb]) upd_same (show 0 ≤ i + 1 by omega) (Int.emod_nonneg _ (by decide)) (Int.emod_lt_of_pos _ (by decide)) hf) (.int _)
        · refine ⟨_, rfl, .inl ⟨_, rfl, _, rfl, _, _, rfl, rfl, hp, ?_⟩⟩
          exact q _ ⟨_, rfl, Int.emod_nonneg _ nA, Int.emod_lt_of_pos _ hp⟩ _ _ _ (stp_row nS eS hA (fun b hb => by rw [upd_ne hb, upd_ne hb]) upd_same (show 0 ≤ i + 1 by omega) (Int.emod_nonneg _ (by decide)) (Int.emod_lt_of_pos _ (by decide)) hr0) (.int _)

abbrev N_law_pick : List Str := ["row", "things"]
theorem sc_law_pick : FnScope N_law_pick ["row", "things"] (defScope s_law_pick) := ⟨rfl, rfl, rfl, by decide +kernel, rfl, by decide +kernel, by decide +kernel⟩
theorem b_law_pick (T : Tx K mg) : Binds K (fdK K "_law_pick") ["row", "things"] [] := T.d_law_pick.bindsN fun _ _ _ _ _ _ us hl => match us, hl with | [_, _], _ => rfl
/-- what a list or a tuple has -/
def itemsD : D → List D
  | .list ds => ds
  | .tuple ds => ds
  | _ => []
@[simp] theorem itemsD_list {ds : List D} : itemsD (.list ds) = ds := rfl
@[simp] theorem itemsD_tuple {ds : List D} : itemsD (.tuple ds) = ds := rfl

abbrev sp_law_pick (K : PySem.W.Frag) : Sp := spR K (fun d : D => [d]) (fun d => (isTupD d || isListD d) = true ∧ itemsD d ≠ [] ∧ (itemsD d).length ≤ 1000) (fun d r => r ∈ itemsD d)
theorem ok_law_pick (T : Tx K mg) : FnOk P w K mg base CX0 2 (He.fAd K ("_law_pick", none)) (fdK K "_law_pick") ["row", "things"] (sp_law_pick K) := by
  have G_law_taken := ok_law_taken (P := P) (w := w) (base := base) T
  refine okR T.d_law_pick sc_law_pick ?len (fun cdv A outer s H E hr => ⟨_, (pss_one (ps_ret (pe_ix (ix_seqK (K := K) rfl) (pv 1) (pe_call G_law_taken (hr.mono (by first | decide | exact Nat.le_refl _)) (by rfl) T.g_law_taken T.d_law_taken.kp (b_law_taken T) .nil pass0 (pa_cons (pv 0) (pa_cons (pe_callB (call_lenK (K := K) rfl) (by rfl) T.n_len PySem.boot_len (pa_cons (pv 1) pa_nil)) pa_nil))) (fun _ _ => rfl)))), ?rd⟩)
  case len =>
    intro a h; rfl

  case rd =>
  rintro d ⟨hq, h0, h1⟩ C
  (try dsimp only [cxOf, Cx.nox, Cx.wish]); show WS K C _ [some .row, some (.dat _)] _
  obtain ⟨ds, hd, hi⟩ : ∃ ds, (d = .list ds ∨ d = .tuple ds) ∧ itemsD d = ds := by
    cases d <;> first | exact ⟨_, .inl rfl, rfl⟩ | exact ⟨_, .inr rfl, rfl⟩ | cases hq
  rw [hi] at h0 h1
  rw [hi]
  repeat walk_at "we"
  refine cd_len hd ?_
  have hl : 0 < ds.length := List.length_pos_iff.mpr h0
  repeat walk_at "we"
  refine ⟨⟨by omega, show (ds.length : Int).natAbs < 2 ^ 8000 from Nat.lt_of_le_of_lt (show (ds.length : Int).natAbs ≤ 1000 by omega) (by decide)⟩, ?_⟩
  rintro _ ⟨v, rfl, v0, v1⟩
  obtain ⟨n, rfl⟩ : ∃ n : Nat, v = (n : Int) := ⟨v.toNat, by omega⟩
  have hv : n < ds.length := by omega
  exact rd_ixS hd.symm (atI_nat (List.getElem?_eq_getElem hv)) (List.getElem_mem hv)

abbrev N_law_signed : List Str := ["row", "most"]
theorem sc_law_signed : FnScope N_law_signed ["row", "most"] (defScope s_law_signed) := ⟨rfl, rfl, rfl, by decide +kernel, rfl, by decide +kernel, by decide +kernel⟩
theorem b_law_signed (T : Tx K mg) : Binds K (fdK K "_law_signed") ["row", "most"] [] := T.d_law_signed.bindsN fun _ _ _ _ _ _ us hl => match us, hl with | [_, _], _ => rfl

abbrev sp_law_signed (K : PySem.W.Frag) : Sp := spR K (fun most : Int => [.int most]) (fun most => 0 ≤ most ∧ Bd 7000 most) (fun most r => ∃ v : Int, r = .int v ∧ -most ≤ v ∧ v ≤ most)
theorem ok_law_signed (T : Tx K mg) : FnOk P w K mg base CX0 2 (He.fAd K ("_law_signed", none)) (fdK K "_law_signed") ["row", "most"] (sp_law_signed K) := by
  have G_law_taken := ok_law_taken (P := P) (w := w) (base := base) T
  refine okR T.d_law_signed sc_law_signed ?len (fun cdv A outer s H E hr => ⟨_, (pss_one (ps_ret (pe_op op_sub (pe_call G_law_taken (hr.mono (by first | decide | exact Nat.le_refl _)) (by rfl) T.g_law_taken T.d_law_taken.kp (b_law_taken T) .nil pass0 (pa_cons (pv 0) (pa_cons (pe_op op_add (pe_op op_mulW pe_int (pv 1)) pe_int) pa_nil))) (pv 1)))), ?rd⟩)
  case len =>
    intro a h; rfl

  case rd =>
  rintro most ⟨h0, hb⟩ C
  (try dsimp only [cxOf, Cx.nox, Cx.wish]); show WS K C _ [some .row, some (.dat _)] _
  repeat walk_at "we"
  refine ⟨⟨by omega, Bd.mono (Bd.add (Bd.mul (by decide : Bd 64 2) hb) (by decide : Bd 64 1)) (by decide)⟩, ?_⟩
  rintro _ ⟨v, rfl, v0, v1⟩
  repeat walk_at "we"
  exact ⟨by omega, by omega⟩

abbrev N_law_grid : List Str := ["row", "size"]
theorem sc_law_grid : FnScope N_law_grid ["row", "size"] (defScope s_law_grid) := ⟨rfl, rfl, rfl, by decide +kernel, rfl, by decide +kernel, by decide +kernel⟩
theorem b_law_grid (T : Tx K mg) : Binds K (fdK K "_law_grid") ["row", "size"] [] := T.d_law_grid.bindsN fun _ _ _ _ _ _ us hl => match us, hl with | [_, _], _ => rfl

abbrev sp_law_grid (K : PySem.W.Frag) : Sp := spR K (fun size : Int => [.int size]) (fun size => 0 ≤ size ∧ size ≤ 1000000) (fun size r => ∃ x y : Int, r = pt (x, y, 1) ∧ (x.natAbs : Int) ≤ size ∧ (y.natAbs : Int) ≤ size)
theorem ok_law_grid (T : Tx K mg) : FnOk P w K mg base CX0 3 (He.fAd K ("_law_grid", none)) (fdK K "_law_grid") ["row", "size"] (sp_law_grid K) := by
  have G_law_signed := ok_law_signed (P := P) (w := w) (base := base) T
  refine okR T.d_law_grid sc_law_grid ?len (fun cdv A outer s H E hr => ⟨_, (pss_one (ps_ret (pe_tup (pa_cons (pe_call G_law_signed (hr.mono (by first | decide | exact Nat.le_refl _)) (by rfl) T.g_law_signed T.d_law_signed.kp (b_law_signed T) .nil pass0 (pa_cons (pv 0) (pa_cons (pv 1) pa_nil))) (pa_cons (pe_call G_law_signed (hr.mono (by first | decide | exact Nat.le_refl _)) (by rfl) T.g_law_signed T.d_law_signed.kp (b_law_signed T) .nil pass0 (pa_cons (pv 0) (pa_cons (pv 1) pa_nil))) (pa_cons pe_int pa_nil)))))), ?rd⟩)
  case len =>
    intro a h; rfl

  case rd =>
  rintro size ⟨h0, h1⟩ C
  (try dsimp only [cxOf, Cx.nox, Cx.wish]); show WS K C _ [some .row, some (.dat _)] _
  have hsb : Bd 7000 size := show size.natAbs < 2 ^ 7000 from Nat.lt_of_le_of_lt (show size.natAbs ≤ 1000000 by omega) (by decide)
  repeat walk_at "we"
  refine ⟨⟨h0, hsb⟩, ?_⟩
  rintro _ ⟨x, rfl, x0, x1⟩
  repeat walk_at "we"
  refine ⟨⟨h0, hsb⟩, ?_⟩
  rintro _ ⟨y, rfl, y0, y1⟩
  repeat walk_at "we"
  exact ⟨x, y, rfl, by omega, by omega⟩

abbrev N_law_sign : List Str := ["number"]
theorem sc_law_sign : FnScope N_law_sign ["number"] (defScope s_law_sign) := ⟨rfl, rfl, rfl, by decide +kernel, rfl, by decide +kernel, by decide +kernel⟩
theorem b_law_sign (T : Tx K mg) : Binds K (fdK K "_law_sign") ["number"] [] := T.d_law_sign.bindsN fun _ _ _ _ _ _ us hl => match us, hl with | [_], _ => rfl

abbrev sp_law_sign (K : PySem.W.Frag) : Sp := spD K (fun n : Int => [.int n]) (fun _ => True) (fun n r => r = .int n.sign)
theorem ok_law_sign (T : Tx K mg) : FnOk P w K mg base CX0 1 (He.fAd K ("_law_sign", none)) (fdK K "_law_sign") ["number"] (sp_law_sign K) := by
  refine okD T.d_law_sign sc_law_sign ?len (fun cdv A outer s H E hr => ⟨_, (pss_one (ps_ret (pe_ifExp (pt_cmpR op_gt (pv 0) pe_int (nomark _)) pe_int (pe_ifExp (pt_cmpR op_lt (pv 0) pe_int (nomark _)) (pe_un un_neg pe_int) pe_int)))), ?rd⟩)
  case len =>
    intro a h; rfl

  case rd =>
  intro n _ C _
  (try dsimp only [cxOf, Cx.nox, Cx.wish]); show WS K C _ [some (.dat _)] _
  repeat walk_at "we"
  refine ⟨fun h => ?_, fun h => ?_⟩
  · repeat walk_at "we"
    have := of_decide_eq_true h
    show PyData.int 1 = PyData.int n.sign
    rw [Int.sign_eq_one_of_pos this]
  · have h0 := of_decide_eq_false h
    repeat walk_at "we"
    refine ⟨fun h => ?_, fun h => ?_⟩
    · repeat walk_at "we"
      have := of_decide_eq_true h
      show PyData.int _ = PyData.int n.sign
      rw [Int.sign_eq_neg_one_of_neg this]
    · have h1 := of_decide_eq_false h
      repeat walk_at "we"
      have : n = 0 := by omega
      subst this
      rfl

abbrev N_law_doubled : List Str := ["a", "b", "c", "x", "y", "p", "q"]
theorem sc_law_doubled : FnScope N_law_doubled ["a", "b", "c"] (defScope s_law_doubled) := ⟨rfl, rfl, rfl, by decide +kernel, rfl, by decide +kernel, by decide +kernel⟩
theorem b_law_doubled (T : Tx K mg) : Binds K (fdK K "_law_doubled") ["a", "b", "c"] [] := T.d_law_doubled.bindsN fun _ _ _ _ _ _ us hl => match us, hl with | [_, _, _], _ => rfl

abbrev sp_law_doubled (K : PySem.W.Frag) : Sp := spD K (fun a : P3 × P3 × P3 => [pt a.1, pt a.2.1, pt a.2.2]) (fun a => (BP 2000 a.1 ∧ BP 2000 a.2.1 ∧ BP 2000 a.2.2) ∧ 0 < a.1.2.2) (fun a r => r = .int (det a.1 a.2.1 a.2.2))
theorem ok_law_doubled (T : Tx K mg) : FnOk P w K mg base CX0 1 (He.fAd K ("_law_doubled", none)) (fdK K "_law_doubled") ["a", "b", "c"] (sp_law_doubled K) := by
  refine okD T.d_law_doubled sc_law_doubled ?len (fun cdv A outer s H E hr => ⟨_, (pss_cons (ps_par (i := 3) (j := 4) (by rfl) sc_law_doubled.nd rfl rfl (by decide) rfl rfl (pa_cons (pe_op op_sub (pe_op op_mulW (pe_ix (ix_seqK (K := K) rfl) (pv 1) pe_int (fun _ _ => rfl)) (pe_ix (ix_seqK (K := K) rfl) (pv 0) pe_int (fun _ _ => rfl))) (pe_op op_mulW (pe_ix (ix_seqK (K := K) rfl) (pv 0) pe_int (fun _ _ => rfl)) (pe_ix (ix_seqK (K := K) rfl) (pv 1) pe_int (fun _ _ => rfl)))) (pa_cons (pe_op op_sub (pe_op op_mulW (pe_ix (ix_seqK (K := K) rfl) (pv 1) pe_int (fun _ _ => rfl)) (pe_ix (ix_seqK (K := K) rfl) (pv 0) pe_int (fun _ _ => rfl))) (pe_op op_mulW (pe_ix (ix_seqK (K := K) rfl) (pv 0) pe_int (fun _ _ => rfl)) (pe_ix (ix_seqK (K := K) rfl) (pv 1) pe_int (fun _ _ => rfl)))) pa_nil)) (by rfl))
      (pss_cons (ps_par (i := 5) (j := 6) (by rfl) sc_law_doubled.nd rfl rfl (by decide) rfl rfl (pa_cons (pe_op op_sub (pe_op op_mulW (pe_ix (ix_seqK (K := K) rfl) (pv 2) pe_int (fun _ _ => rfl)) (pe_ix (ix_seqK (K := K) rfl) (pv 0) pe_int (fun _ _ => rfl))) (pe_op op_mulW (pe_ix (ix_seqK (K := K) rfl) (pv 0) pe_int (fun _ _ => rfl)) (pe_ix (ix_seqK (K := K) rfl) (pv 2) pe_int (fun _ _ => rfl)))) (pa_cons (pe_op op_sub (pe_op op_mulW (pe_ix (ix_seqK (K := K) rfl) (pv 2) pe_int (fun _ _ => rfl)) (pe_ix (ix_seqK (K := K) rfl) (pv 0) pe_int (fun _ _ => rfl))) (pe_op op_mulW (pe_ix (ix_seqK (K := K) rfl) (pv 0) pe_int (fun _ _ => rfl)) (pe_ix (ix_seqK (K := K) rfl) (pv 2) pe_int (fun _ _ => rfl)))) pa_nil)) (by rfl))
      (pss_one (ps_ret (pe_op op_fdivX (pe_op op_sub (pe_op op_mulW (pv 3) (pv 6)) (pe_op op_mulW (pv 5) (pv 4))) (pe_ix (ix_seqK (K := K) rfl) (pv 0) pe_int (fun _ _ => rfl))))))), ?rd⟩)
  case len =>
    intro a h; rfl

  case rd =>
  rintro ⟨⟨u0, u1, u2⟩, ⟨v0, v1, v2⟩, ⟨w0, w1, w2⟩⟩ ⟨⟨⟨h1, h2, h3⟩, ⟨h4, h5, h6⟩, ⟨h7, h8, h9⟩⟩, h0⟩ C _
  (try dsimp only [cxOf, Cx.nox, Cx.wish]); show WS K C _ [some (.dat _), some (.dat _), some (.dat _), none, none, none, none] _
  simp only at h0 h1 h2 h3 h4 h5 h6 h7 h8 h9
  repeat walk_at "we"
  refine ⟨_, _, rfl, ?_⟩
  repeat walk_at "we"
  refine ⟨_, _, rfl, ?_⟩
  repeat walk_at "we"
  refine rd_Ii (cdivX (Int.ne_of_gt h0) h3 (by decide)) ?_
  show PyData.int _ = PyData.int _
  have e : (v0 * u2 - u0 * v2) * (w1 * u2 - u1 * w2) - (w0 * u2 - u0 * w2) * (v1 * u2 - u1 * v2) = u2 * det (u0, u1, u2) (v0, v1, v2) (w0, w1, w2) := by
    simp only [det]
    grind
  rw [e]; exact congrArg PyData.int (fdiv_exact (Int.ne_of_gt h0))

abbrev N_law_turn : List Str := ["a", "b", "c"]
theorem sc_law_turn : FnScope N_law_turn ["a", "b", "c"] (defScope s_law_turn) := ⟨rfl, rfl, rfl, by decide +kernel, rfl, by decide +kernel, by decide +kernel⟩
theorem b_law_turn (T : Tx K mg) : Binds K (fdK K "_law_turn") ["a", "b", "c"] [] := T.d_law_turn.bindsN fun _ _ _ _ _ _ us hl => match us, hl with | [_, _, _], _ => rfl

abbrev sp_law_turn (K : PySem.W.Frag) : Sp := spD K (fun a : P3 × P3 × P3 => [pt a.1, pt a.2.1, pt a.2.2]) (fun a => (BP 2000 a.1 ∧ BP 2000 a.2.1 ∧ BP 2000 a.2.2) ∧ 0 < a.1.2.2) (fun a r => r = .int (det a.1 a.2.1 a.2.2).sign)
theorem ok_law_turn (T : Tx K mg) : FnOk P w K mg base CX0 2 (He.fAd K ("_law_turn", none)) (fdK K "_law_turn") ["a", "b", "c"] (sp_law_turn K) := by
  have G_law_sign := ok_law_sign (P := P) (w := w) (base := base) T
  have G_law_doubled := ok_law_doubled (P := P) (w := w) (base := base) T
  refine okD T.d_law_turn sc_law_turn ?len (fun cdv A outer s H E hr => ⟨_, (pss_one (ps_ret (pe_call G_law_sign (hr.mono (by first | decide | exact Nat.le_refl _)) (by rfl) T.g_law_sign T.d_law_sign.kp (b_law_sign T) .nil pass0 (pa_cons (pe_call G_law_doubled (hr.mono (by first | decide | exact Nat.le_refl _)) (by rfl) T.g_law_doubled T.d_law_doubled.kp (b_law_doubled T) .nil pass0 (pa_cons (pv 0) (pa_cons (pv 1) (pa_cons (pv 2) pa_nil)))) pa_nil)))), ?rd⟩)
  case len =>
    intro a h; rfl

  case rd =>
  rintro ⟨u, v, w⟩ h C _
  (try dsimp only [cxOf, Cx.nox, Cx.wish]); show WS K C _ [some (.dat _), some (.dat _), some (.dat _)] _
  repeat walk_at "we"
  refine ⟨(u, v, w), rfl, h, ?_⟩
  rintro _ rfl
  repeat walk_at "we"
  refine ⟨trivial, ?_⟩
  rintro _ rfl
  rfl

abbrev N_law_general : List Str := ["row", "least", "most", "found", "many", "size", "turn", "p", "bad", "i", "q"]
theorem sc_law_general : FnScope N_law_general ["row", "least", "most"] (defScope s_law_general) := ⟨rfl, rfl, rfl, by decide +kernel, rfl, by decide +kernel, by decide +kernel⟩
theorem b_law_general (T : Tx K mg) : Binds K (fdK K "_law_general") ["row", "least", "most"] [] := T.d_law_general.bindsN fun _ _ _ _ _ _ us hl => match us, hl with | [_, _, _], _ => rfl
theorem nm_one1 (x y : Int) : Nm (x, y, 1) := ⟨by show (0 : Int) < 1; decide, by show Nat.gcd (Nat.gcd _ _) 1 = 1; exact Nat.gcd_one_right _⟩
/-- a drawn point, over 1 -/
def G1 (p : P3) : Prop := p.2.2 = 1 ∧ p.1.natAbs ≤ 40 ∧ p.2.1.natAbs ≤ 1600
theorem G1.nm {p : P3} (h : G1 p) : Nm p := by
  obtain ⟨x, y, w⟩ := p
  obtain ⟨h1, _, _⟩ := h
  simp only at h1
  subst h1
  exact nm_one1 x y
/-- no three on a line -/
def NoL (ps : List P3) : Prop := ∀ (i j k : Nat) (p q r : P3), i < j → j < k → ps[i]? = some p → ps[j]? = some q → ps[k]? = some r → det p q r ≠ 0
def GenP (ps : List P3) : Prop := ps.Nodup ∧ NoL ps ∧ ∀ p ∈ ps, G1 p
/-- p would be on a line with two of the first n -/
def OnL (ps : List P3) (p : P3) (n : Nat) : Prop := ∃ (i j : Nat) (q r : P3), i < j ∧ j < n ∧ ps[i]? = some q ∧ ps[j]? = some r ∧ det q r p = 0
theorem GenP.add {ps : List P3} {p : P3} (h : GenP ps) (hp : G1 p) (h1 : p ∉ ps) (h2 : ¬ OnL ps p ps.length) : GenP (ps ++ [p]) := by
  obtain ⟨a, b, c⟩ := h
  refine ⟨List.nodup_append.mpr ⟨a, by simp, ?_⟩, ?_, ?_⟩
  · intro x hx y hy e
    rw [List.mem_singleton.mp hy] at e
    exact h1 (e ▸ hx)
  · intro i j k q r s hij hjk hi hj hk
    have hkl : k < ps.length + 1 := by
      have := (List.getElem?_eq_some_iff.mp hk).1
      simpa using this
    rw [List.getElem?_append_left (by omega)] at hi hj
    by_cases e : k = ps.length
    · subst e
      rw [List.getElem?_append_right (Nat.le_refl _), Nat.sub_self] at hk
      have hk : p = s := Option.some.inj hk
      subst hk
      exact fun z => h2 ⟨i, j, q, r, hij, hjk, hi, hj, z⟩
    · rw [List.getElem?_append_left (by omega)] at hk
      exact b i j k q r s hij hjk hi hj hk
  · intro q hq
    rcases List.mem_append.mp hq with hq | hq
    · exact c q hq
    · rw [List.mem_singleton.mp hq]; exact hp
theorem any_ptG (fs : List P3) (q : P3) : ((fs.map pt).any fun z => PyData.eqv z (pt q)) = decide (q ∈ fs) := by
  induction fs with
  | nil => rfl
  | cons p ps ih =>
    simp only [List.map_cons, List.any_cons, ih, eqv_pt]
    by_cases h1 : p = q <;> by_cases h2 : q ∈ ps <;> simp [h1, h2, eq_comm]
    exact fun e => h1 e.symm
theorem layAll_ptG : ∀ fs : List P3, PyData.canLayAll0 (fs.map pt) = true
  | [] => by simp [PyData.canLayAll0]
  | p :: ps => by
    have h1 : PyData.canLay0 (pt p) = true := by simp [pt, PyData.canLay0, PyData.canLayAll0]
    rw [List.map_cons, PyData.canLayAll0, h1, layAll_ptG ps]
    rfl
theorem depthAll_ptG : ∀ fs : List P3, PyData.depthAll (fs.map pt) ≤ 3
  | [] => by simp [PyData.depthAll]
  | p :: ps => by
    have h1 : PyData.depth (pt p) ≤ 3 := by simp [pt, PyData.depth, PyData.depthAll]
    have h2 := depthAll_ptG ps
    rw [List.map_cons, PyData.depthAll]
    omega
theorem shaped_ptG (fs : List P3) : SeqAt.shaped (.list (fs.map pt)) = true := by
  have h := depthAll_ptG fs
  have h2 : PyData.depth (.list (fs.map pt)) ≤ 64 := by
    rw [PyData.depth]
    omega
  unfold SeqAt.shaped
  rw [PyData.canLay0, layAll_ptG, decide_eq_true h2]
  rfl
theorem cutD_toG {ps : List P3} {k : Nat} : cutD (ps.map pt) none (some (k : Int)) = (ps.take k).map pt := by
  unfold cutD
  rw [HT.sIx_nat, HT.sIx_none, List.length_map, List.drop_zero, Nat.sub_zero]
  by_cases h : k ≤ ps.length
  · rw [Nat.min_eq_left h, List.map_take]
  · rw [Nat.min_eq_right (by omega), List.take_of_length_le (by rw [List.length_map]; omega), List.take_of_length_le (by omega)]
/-- on a line with r and q -/
def lineB (r q : P3) : D → Bool
  | .tuple [.int x, .int y, .int w] => decide ((det (x, y, w) r q).sign = 0)
  | _ => false
def gTail (K : PySem.W.Frag) : TS :=
  tSeq (tAsg (tOp (rInD K) (tVar 7) (tVar 3)) (gName 8)) (tSeq
    (tFor (iRng1 (tCons (tCB (fun xs H Q => ∃ p ys, xs = [V.ref p] ∧ (SqL K H p ys ∨ SqT K H p ys) ∧ Q (V.int ys.length) H) (tCons (tVar 3) tNil)) tNil)) (gName 9)
      (tAsg (tOrV (tVar 8) (tOp (rNeD K) (tLc (iList K (tSl (rSlL K) (tVar 3) tNoPart (tPart (tVar 9)))) (gName 10)
        (tTest (tOp (rEqD K) (tCall (sp_law_turn K) [] E0 (tCons (tVar 10) (tCons (tOp (rIx K) (tVar 3) (tVar 9)) (tCons (tVar 7) tNil)))) (tC (V.int 0)))) (tVar 10) [10]) (tLst tNil))) (gName 8)))
    (tIfS (tAnd (tNot (tB (tVar 8))) (tTest (tOp (rI0 fun i j => V.bl (decide (i < j))) (tCB (fun xs H Q => ∃ p ys, xs = [V.ref p] ∧ (SqL K H p ys ∨ SqT K H p ys) ∧ Q (V.int ys.length) H) (tCons (tVar 3) tNil)) (tVar 4))))
      (tDrop (tBM K "list" rAppend (tVar 3) (tCons (tVar 7) tNil))) tNext))
theorem G1.bd {p : P3} (h : G1 p) : BP 20 p := by
  obtain ⟨h1, h2, h3⟩ := h
  exact ⟨show p.1.natAbs < 2 ^ 20 by omega, show p.2.1.natAbs < 2 ^ 20 by omega, show p.2.2.natAbs < 2 ^ 20 by rw [h1]; decide⟩
theorem ws_gtail {C : Fm} {P : Po} {ps : List P3} {q : P3} {m : Int} {x1 x2 x5 x6 x8 x9 x10 : Option Sc} (hG : GenP ps) (hq : G1 q) (hm : (ps.length : Int) ≤ m) (m1 : 1 ≤ m ∧ m ≤ 20)
    (h : ∀ ps' x8 x9 x10, GenP ps' → (ps'.length : Int) ≤ m → ps' ≠ [] → P.nx [some .row, x1, x2, some (.own (ps'.map pt)), some (.dat (.int m)), x5, x6, some (.dat (pt q)), x8, x9, x10]) :
    WS K C (gTail K) [some .row, x1, x2, some (.own (ps.map pt)), some (.dat (.int m)), x5, x6, some (.dat (pt q)), x8, x9, x10] P := by
  unfold gTail
  refine ws_seq (ws_asg (we_inOwn rfl ?_))
  repeat walk_at "we"
  refine ⟨shaped_pt q, shaped_ptG ps, ?_⟩
  rw [any_ptG]
  show WS K C _ [some .row, x1, x2, some (.own (ps.map pt)), some (.dat (.int m)), x5, x6, some (.dat (pt q)), some (.dat (.bool (decide (q ∈ ps)))), x9, x10] _
  refine ws_seq (ws_for (wi_rng1 (wa_cons (we_lenOwn rfl ?_))))
  rw [List.length_map]
  refine wa_nil ⟨_, rfl, by omega, by omega, fun i e => ∃ b x9 x10, (b = true ↔ q ∈ ps ∨ OnL ps q i) ∧ e = [some .row, x1, x2, some (.own (ps.map pt)), some (.dat (.int m)), x5, x6, some (.dat (pt q)), some (.dat (.bool b)), x9, x10], ⟨decide (q ∈ ps), x9, x10, ?_, rfl⟩, ?_, ?_⟩
  · rw [decide_eq_true_eq]
    constructor
    · exact .inl
    · rintro (h | ⟨_, _, _, _, _, h, _⟩)
      · exact h
      · exact absurd h (Nat.not_lt_zero _)
  · rintro i d e hi ⟨b, x9, x10, hb, rfl⟩
    obtain ⟨hil, rfl⟩ := rngD_inv hi
    rw [Int.toNat_natCast] at hil
    rw [Int.zero_add]
    have step : OnL ps q (i + 1) ↔ OnL ps q i ∨ ∃ s ∈ ps.take i, (det s ps[i] q).sign = 0 := by
      constructor
      · rintro ⟨a, j, s, r, h1, h2, h3, h4, h5⟩
        by_cases hj : j = i
        · subst hj
          refine .inr ⟨s, List.mem_of_getElem? (i := a) (by rw [List.getElem?_take_of_lt h1]; exact h3), ?_⟩
          have e : ps[j] = r := (List.getElem?_eq_some_iff.mp h4).2
          rw [e, h5]
          rfl
        · exact .inl ⟨a, j, s, r, h1, by omega, h3, h4, h5⟩
      · rintro (⟨a, j, s, r, h1, h2, h3, h4, h5⟩ | ⟨s, hs, h5⟩)
        · exact ⟨a, j, s, r, h1, by omega, h3, h4, h5⟩
        · obtain ⟨a, ha⟩ := List.mem_iff_getElem?.mp hs
          have hal := (List.getElem?_eq_some_iff.mp ha).1
          rw [List.length_take] at hal
          rw [List.getElem?_take_of_lt (by omega)] at ha
          exact ⟨a, i, s, ps[i], by omega, by omega, ha, List.getElem?_eq_getElem hil, Int.sign_eq_zero_iff_zero.mp h5⟩
    refine wg_name ?_
    show WS K C _ [some .row, x1, x2, some (.own (ps.map pt)), some (.dat (.int m)), x5, x6, some (.dat (pt q)), some (.dat (.bool b)), some (.dat (.int (i : Int))), x10] _
    refine ws_asg ?_
    repeat walk_at "we"
    refine ⟨fun hbt => ?_, fun hbf => ?_⟩
    · exact ⟨true, _, _, by rw [step]; exact ⟨fun _ => (hb.mp hbt).imp id .inl, fun _ => rfl⟩, rfl⟩
    · repeat walk_at "we"
      refine we_filter (by walk_at "og") (fun d => d) (lineB ps[i] q) (wi_list (we_slOwn rfl (wp_none (wp_some ?_))))
      repeat walk_at "we"
      rw [cutD_toG]
      refine ⟨by rw [List.length_map, List.length_take]; omega, ?_, ?_⟩
      · rintro j d hj
        obtain ⟨s, hs, rfl⟩ := map_atR hj
        have hsps : s ∈ ps := List.mem_of_mem_take (List.mem_of_getElem? hs)
        refine wg_name ?_
        show WT K C _ [some .row, x1, x2, some (.own (ps.map pt)), some (.dat (.int m)), x5, x6, some (.dat (pt q)), some (.dat (.bool b)), some (.dat (.int (i : Int))), some (.dat (pt s))] _
        repeat walk_at "we"
        refine ⟨(i : Int), pt ps[i], rfl, atI_nat (by rw [List.getElem?_map, List.getElem?_eq_getElem hil]; rfl), ?_⟩
        repeat walk_at "we"
        refine ⟨(s, ps[i], q), rfl, ⟨⟨(hG.2.2 s hsps).bd.mono (by decide), (hG.2.2 _ (List.getElem_mem hil)).bd.mono (by decide), hq.bd.mono (by decide)⟩, (hG.2.2 s hsps).nm.1⟩, ?_⟩
        rintro _ rfl
        repeat walk_at "we"
        refine rd_eqD rfl rfl ?_
        refine ⟨_, rfl, ?_, fun _ => ?_⟩
        · rw [eqv_int]
          rfl
        · repeat walk_at "we"
          rfl
      · have key : ((List.filter (lineB ps[i] q) ((ps.take i).map pt)).map fun d => d) = (((ps.take i).filter fun s => decide ((det s ps[i] q).sign = 0)).map pt) := by
          rw [List.map_id', List.filter_map]
          rfl
        rw [key]
        repeat walk_at "we"
        refine rd_neD (shaped_ptG _) rfl ?_
        rw [eqv_nil]
        refine ⟨_, _, _, ?_, rfl⟩
        rw [step, List.isEmpty_map, Bool.not_eq_true', List.isEmpty_eq_false_iff]
        constructor
        · intro z
          obtain ⟨s, hs⟩ := List.exists_mem_of_ne_nil _ z
          rw [List.mem_filter, decide_eq_true_eq] at hs
          exact .inr (.inr ⟨s, hs.1, hs.2⟩)
        · rintro (z | z | ⟨s, h1, h2⟩)
          · rw [hb.mpr (.inl z)] at hbf; cases hbf
          · rw [hb.mpr (.inr z)] at hbf; cases hbf
          · exact List.ne_nil_of_mem (List.mem_filter.mpr ⟨h1, decide_eq_true h2⟩)
  · rintro e ⟨b, x9, x10, hb, rfl⟩
    rw [rngD_len, Int.toNat_natCast] at hb
    show WS K C _ [some .row, x1, x2, some (.own (ps.map pt)), some (.dat (.int m)), x5, x6, some (.dat (pt q)), some (.dat (.bool b)), x9, x10] _
    refine ws_if (WT.imp (Ψ := fun t => (t = true → b = false ∧ (ps.length : Int) < m) ∧ (t = false → ¬ (b = false ∧ (ps.length : Int) < m))) ?test ?_)
    case test =>
      repeat walk_at "we"
      refine ⟨fun z => ?_, fun z => ⟨fun y => (nomatch y), fun _ y => ?_⟩⟩
      · have z : b = false := by cases b with
          | false => rfl
          | true => cases z
        repeat walk_at "we"
        rw [List.length_map]
        exact ⟨fun y => ⟨z, of_decide_eq_true y⟩, fun y g => of_decide_eq_false y g.2⟩
      · rw [y.1] at z; cases z
    intro t ht
    refine ⟨fun z => ?_, fun z => ?_⟩
    · obtain ⟨h1, h2⟩ := ht.1 z
      have hno : ¬ (q ∈ ps ∨ OnL ps q ps.length) := fun y => by rw [hb.mpr y] at h1; cases h1
      refine ws_append rfl ?_
      repeat walk_at "we"
      refine ⟨by rw [List.length_map]; omega, ?_⟩
      have := h (ps ++ [q]) (some (.dat (.bool b))) x9 x10 (hG.add hq (fun y => hno (.inl y)) (fun y => hno (.inr y))) (by rw [List.length_append, List.length_singleton]; omega) (by simp)
      rw [List.map_append] at this
      exact this
    · refine ws_next (h ps _ _ _ hG hm fun e => ht.2 z ⟨?_, by rw [e]; show (0 : Int) < m; omega⟩)
      cases b with
      | false => rfl
      | true =>
        rcases hb.mp rfl with y | ⟨_, _, _, _, _, y, _⟩
        · rw [e] at y; cases y
        · rw [e] at y; exact absurd y (Nat.not_lt_zero _)

abbrev sp_law_general (K : PySem.W.Frag) : Sp := spR K (fun a : Int × Int => [.int a.1, .int a.2]) (fun a => 1 ≤ a.1 ∧ a.1 ≤ a.2 ∧ a.2 ≤ 20) (fun a r => ∃ ps : List P3, r = .tuple (ps.map pt) ∧ GenP ps ∧ 1 ≤ ps.length ∧ (ps.length : Int) ≤ a.2)
theorem ok_law_general (T : Tx K mg) : FnOk P w K mg base CX0 4 (He.fAd K ("_law_general", none)) (fdK K "_law_general") ["row", "least", "most"] (sp_law_general K) := by
  have G_law_pick := ok_law_pick (P := P) (w := w) (base := base) T
  have G_law_taken := ok_law_taken (P := P) (w := w) (base := base) T
  have G_law_grid := ok_law_grid (P := P) (w := w) (base := base) T
  have G_law_turn := ok_law_turn (P := P) (w := w) (base := base) T
  refine okR T.d_law_general sc_law_general ?len (fun cdv A outer s H E hr => ⟨_, (pss_cons (ps_asg (pe_tup (pa_cons (pe_lst pa_nil) (pa_cons (pe_op op_add (pv 1) (pe_call G_law_taken (hr.mono (by first | decide | exact Nat.le_refl _)) (by rfl) T.g_law_taken T.d_law_taken.kp (b_law_taken T) .nil pass0 (pa_cons (pv 0) (pa_cons (pe_op op_add (pe_op op_sub (pv 2) (pv 1)) pe_int) pa_nil)))) (pa_cons (pe_call G_law_pick (hr.mono (by first | decide | exact Nat.le_refl _)) (by rfl) T.g_law_pick T.d_law_pick.kp (b_law_pick T) .nil pass0 (pa_cons (pv 0) (pa_cons (pe_lst (pa_cons pe_int (pa_cons pe_int (pa_cons pe_int pa_nil)))) pa_nil))) pa_nil)))) (pg_tupK (K := K) rfl rfl (pgs_cons (pg_name (i := 3) sc_law_general.nd rfl (by first | exact Or.inl rfl | exact Or.inr rfl)) (pgs_cons (pg_name (i := 4) sc_law_general.nd rfl (by first | exact Or.inl rfl | exact Or.inr rfl)) (pgs_cons (pg_name (i := 5) sc_law_general.nd rfl (by first | exact Or.inl rfl | exact Or.inr rfl)) pgs_nil)))))
      (pss_cons (ps_for PassesOwn.never rfl (pi_range1 (by rfl) T.n_range (pa_cons (pe_op op_mulW pe_int (pv 4)) pa_nil)) (pg_name (i := 6) sc_law_general.nd rfl (by first | exact Or.inl rfl | exact Or.inr rfl)) (pss_cons (ps_set (i := 7) sc_law_general.nd rfl (by first | exact Or.inl rfl | exact Or.inr rfl) (pe_call G_law_grid (hr.mono (by first | decide | exact Nat.le_refl _)) (by rfl) T.g_law_grid T.d_law_grid.kp (b_law_grid T) .nil pass0 (pa_cons (pv 0) (pa_cons (pv 5) pa_nil))))
      (pss_cons (ps_set (i := 8) sc_law_general.nd rfl (by first | exact Or.inl rfl | exact Or.inr rfl) (pe_cmpR (op_inDK (K := K) rfl (room65 hr)) (pv 7) (pv 3) (by rfl)))
      (pss_cons (ps_for PassesOwn.never rfl (pi_range1 (by rfl) T.n_range (pa_cons (pe_callB (call_lenK (K := K) rfl) (by rfl) T.n_len PySem.boot_len (pa_cons (pv 3) pa_nil)) pa_nil)) (pg_name (i := 9) sc_law_general.nd rfl (by first | exact Or.inl rfl | exact Or.inr rfl)) (pss_one (ps_set (i := 8) sc_law_general.nd rfl (by first | exact Or.inl rfl | exact Or.inr rfl) (pe_or (pv 8) (pe_one (pe_cmpR (op_neDK (K := K) rfl hr.units) (pe_lc (by rfl) sc_law_general.nd (pi_listK (K := K) rfl (pe_slice (sl_listK (K := K) rfl) (pv 3) po_none (po_some (pv 9)))) (blkOk_by (own := [("q", 10)]) (N := N_law_general) (sc := defScope s_law_general) (by decide +kernel)) (fun _ _ _ _ _ => (pg_name (i := 10) sc_law_general.nd rfl (by first | exact Or.inl rfl | exact Or.inr rfl))) (fun _ _ _ _ _ => pts_one (pt_cmpR (op_eqDK (K := K) rfl hr.units) (pe_call G_law_turn (hr.mono (by first | decide | exact Nat.le_refl _)) (by rfl) T.g_law_turn T.d_law_turn.kp (b_law_turn T) .nil pass0 (pa_cons (pv 10) (pa_cons (pe_ix (ix_seqK (K := K) rfl) (pv 3) (pv 9) (fun _ _ => rfl)) (pa_cons (pv 7) pa_nil)))) pe_int (nomark _))) (fun _ _ _ _ _ => (pv 10))) (pe_lst pa_nil) (nomark _)))))))
      (pss_one (ps_if (PW.pt (pw_and (pt_not (pt_val (pv 8))) (pw_and1 (pt_cmpR op_lt (pe_callB (call_lenK (K := K) rfl) (by rfl) T.n_len PySem.boot_len (pa_cons (pv 3) pa_nil)) (pv 4) (nomark _))))) (pss_one (ps_expr (pe_bm PySem.F.plainAttrs_list PySem.F.slot_list_append PySem.F.type_list_append mt_append (pv 3) (pa_cons (pv 7) pa_nil)))) pss_nil))))))
      (pss_cons (ps_for PassesOwn.never rfl (pi_range1 (by rfl) T.n_range (pa_cons pe_int pa_nil)) (pg_name (i := 6) sc_law_general.nd rfl (by first | exact Or.inl rfl | exact Or.inr rfl)) (pss_cons (ps_set (i := 7) sc_law_general.nd rfl (by first | exact Or.inl rfl | exact Or.inr rfl) (pe_tup (pa_cons (pv 6) (pa_cons (pe_op op_add (pe_op op_mulW (pv 6) (pv 6)) pe_int) (pa_cons pe_int pa_nil)))))
      (pss_cons (ps_set (i := 8) sc_law_general.nd rfl (by first | exact Or.inl rfl | exact Or.inr rfl) (pe_cmpR (op_inDK (K := K) rfl (room65 hr)) (pv 7) (pv 3) (by rfl)))
      (pss_cons (ps_for PassesOwn.never rfl (pi_range1 (by rfl) T.n_range (pa_cons (pe_callB (call_lenK (K := K) rfl) (by rfl) T.n_len PySem.boot_len (pa_cons (pv 3) pa_nil)) pa_nil)) (pg_name (i := 9) sc_law_general.nd rfl (by first | exact Or.inl rfl | exact Or.inr rfl)) (pss_one (ps_set (i := 8) sc_law_general.nd rfl (by first | exact Or.inl rfl | exact Or.inr rfl) (pe_or (pv 8) (pe_one (pe_cmpR (op_neDK (K := K) rfl hr.units) (pe_lc (by rfl) sc_law_general.nd (pi_listK (K := K) rfl (pe_slice (sl_listK (K := K) rfl) (pv 3) po_none (po_some (pv 9)))) (blkOk_by (own := [("q", 10)]) (N := N_law_general) (sc := defScope s_law_general) (by decide +kernel)) (fun _ _ _ _ _ => (pg_name (i := 10) sc_law_general.nd rfl (by first | exact Or.inl rfl | exact Or.inr rfl))) (fun _ _ _ _ _ => pts_one (pt_cmpR (op_eqDK (K := K) rfl hr.units) (pe_call G_law_turn (hr.mono (by first | decide | exact Nat.le_refl _)) (by rfl) T.g_law_turn T.d_law_turn.kp (b_law_turn T) .nil pass0 (pa_cons (pv 10) (pa_cons (pe_ix (ix_seqK (K := K) rfl) (pv 3) (pv 9) (fun _ _ => rfl)) (pa_cons (pv 7) pa_nil)))) pe_int (nomark _))) (fun _ _ _ _ _ => (pv 10))) (pe_lst pa_nil) (nomark _)))))))
      (pss_one (ps_if (PW.pt (pw_and (pt_not (pt_val (pv 8))) (pw_and1 (pt_cmpR op_lt (pe_callB (call_lenK (K := K) rfl) (by rfl) T.n_len PySem.boot_len (pa_cons (pv 3) pa_nil)) (pv 4) (nomark _))))) (pss_one (ps_expr (pe_bm PySem.F.plainAttrs_list PySem.F.slot_list_append PySem.F.type_list_append mt_append (pv 3) (pa_cons (pv 7) pa_nil)))) pss_nil))))))
      (pss_one (ps_ret (pe_callTy (call_tupleK (K := K) rfl) (by rfl) T.n_tuple PyProof.Rows.boot_tuple (pa_cons (pv 3) pa_nil))))))), ?rd⟩)
  case len =>
    intro a h; rfl

  case rd =>
  rintro ⟨l, u⟩ ⟨l1, l2, l3⟩ C
  (try dsimp only [cxOf, Cx.nox, Cx.wish]); show WS K C _ [some .row, some (.dat _), some (.dat _), none, none, none, none, none, none, none, none] _
  simp only at l1 l2 l3
  have bd0 : Bd 8000 (u - l + 1) := Nat.lt_of_le_of_lt (show (u - l + 1).natAbs ≤ 100 by omega) (by decide)
  refine ws_seq (ws_tup3Own rfl ?_)
  repeat walk_at "we"
  refine ⟨⟨by omega, bd0⟩, ?_⟩
  rintro _ ⟨v, rfl, v0, v1⟩
  repeat walk_at "we"
  refine ⟨⟨rfl, by simp, by simp⟩, ?_⟩
  intro dz hz
  obtain ⟨z, rfl, z1, z2⟩ : ∃ z : Int, dz = .int z ∧ 4 ≤ z ∧ z ≤ 9 := by
    simp at hz
    rcases hz with rfl | rfl | rfl
    · exact ⟨_, rfl, by omega, by omega⟩
    · exact ⟨_, rfl, by omega, by omega⟩
    · exact ⟨_, rfl, by omega, by omega⟩
  have hm : 1 ≤ l + v ∧ l + v ≤ u := by omega
  generalize l + v = m at hm
  have hmb : Bd 20 m := show m.natAbs < 2 ^ 20 by omega
  show WS K C _ [some .row, some (.dat (.int l)), some (.dat (.int u)), some (.own []), some (.dat (.int m)), some (.dat (.int z)), none, none, none, none, none] _
  refine ws_seq (ws_for (wi_rng1 ?_))
  repeat walk_at "we"
  refine ⟨by omega, by omega, fun i e => ∃ ps x6 x7 x8 x9 x10, (GenP ps ∧ (ps.length : Int) ≤ m ∧ (0 < i → ps ≠ [])) ∧ e = [some .row, some (.dat (.int l)), some (.dat (.int u)), some (.own (ps.map pt)), some (.dat (.int m)), some (.dat (.int z)), x6, x7, x8, x9, x10], ⟨[], none, none, none, none, none, ⟨⟨List.nodup_nil, fun i j k p q r _ _ h => (nomatch h), fun p h => (nomatch h)⟩, by show (0 : Int) ≤ m; omega, fun h => absurd h (Nat.lt_irrefl _)⟩, rfl⟩, ?_, ?_⟩
  · rintro i d e hi ⟨ps, x6, x7, x8, x9, x10, ⟨hG, hl, _⟩, rfl⟩
    obtain ⟨hil, rfl⟩ := rngD_inv hi
    refine wg_name ?_
    show WS K C _ [some .row, some (.dat (.int l)), some (.dat (.int u)), some (.own (ps.map pt)), some (.dat (.int m)), some (.dat (.int z)), some (.dat (.int (0 + (i : Int)))), x7, x8, x9, x10] _
    repeat walk_at "we"
    refine ⟨⟨by omega, by omega⟩, ?_⟩
    rintro _ ⟨x, y, rfl, hx, hy⟩
    refine ws_gtail (q := (x, y, 1)) hG ⟨rfl, by show x.natAbs ≤ 40; omega, by show y.natAbs ≤ 1600; omega⟩ hl ⟨hm.1, by omega⟩ ?_
    intro ps' x8 x9 x10 hG' hl' hne
    exact ⟨ps', _, _, _, _, _, ⟨hG', hl', fun _ => hne⟩, rfl⟩
  rintro e ⟨ps, x6, x7, x8, x9, x10, ⟨hG, hl, hne⟩, rfl⟩
  have hne := hne (by rw [rngD_len]; omega)
  refine ws_seq (ws_for (wi_rng1 ?_))
  repeat walk_at "we"
  refine ⟨by decide, by decide, fun i e => ∃ ps x6 x7 x8 x9 x10, (GenP ps ∧ (ps.length : Int) ≤ m ∧ ps ≠ []) ∧ e = [some .row, some (.dat (.int l)), some (.dat (.int u)), some (.own (ps.map pt)), some (.dat (.int m)), some (.dat (.int z)), x6, x7, x8, x9, x10], ⟨ps, x6, x7, x8, x9, x10, ⟨hG, hl, hne⟩, rfl⟩, ?_, ?_⟩
  · rintro i d e hi ⟨ps, x6, x7, x8, x9, x10, ⟨hG, hl, _⟩, rfl⟩
    obtain ⟨hil, rfl⟩ := rngD_inv hi
    rw [show (40 : Int).toNat = 40 from rfl] at hil
    rw [Int.zero_add]
    have hib : Bd 20 (i : Int) := show (i : Int).natAbs < 2 ^ 20 by omega
    have hi2 : (i : Int) * (i : Int) ≤ 39 * 39 := Int.mul_le_mul (by omega) (by omega) (by omega) (by omega)
    have hi0 : 0 ≤ (i : Int) * (i : Int) := Int.mul_nonneg (by omega) (by omega)
    refine wg_name ?_
    show WS K C _ [some .row, some (.dat (.int l)), some (.dat (.int u)), some (.own (ps.map pt)), some (.dat (.int m)), some (.dat (.int z)), some (.dat (.int (i : Int))), x7, x8, x9, x10] _
    refine ws_seq (ws_asg (WE.imp (Ψ := fun v => v = pt ((i : Int), (i : Int) * (i : Int) + 11, 1)) ?pp ?_))
    case pp =>
      repeat walk_at "we"
      rfl
    rintro _ rfl
    refine ws_gtail (q := ((i : Int), (i : Int) * (i : Int) + 11, 1)) hG ⟨rfl, by show (i : Int).natAbs ≤ 40; omega, by show ((i : Int) * (i : Int) + 11).natAbs ≤ 1600; omega⟩ hl ⟨hm.1, by omega⟩ ?_
    intro ps' x8 x9 x10 hG' hl' hne
    exact ⟨ps', _, _, _, _, _, ⟨hG', hl', hne⟩, rfl⟩
  rintro e ⟨ps, x6, x7, x8, x9, x10, ⟨hG, hl, hne⟩, rfl⟩
  repeat walk_at "we"
  exact ⟨hG, List.length_pos_iff.mpr hne, by omega⟩

abbrev N_law_gcd : List Str := ["one", "other"]
theorem sc_law_gcd : FnScope N_law_gcd ["one", "other"] (defScope s_law_gcd) := ⟨rfl, rfl, rfl, by decide +kernel, rfl, by decide +kernel, by decide +kernel⟩
theorem b_law_gcd (T : Tx K mg) : Binds K (fdK K "_law_gcd") ["one", "other"] [] := T.d_law_gcd.bindsN fun _ _ _ _ _ _ us hl => match us, hl with | [_, _], _ => rfl
def mGcd : En → Nat
  | [_, some (.dat (.int y))] => y.toNat
  | _ => 0
theorem gcd_step {x y : Int} (hx : 0 ≤ x) (hy : 0 < y) : Nat.gcd y.natAbs (x % y).natAbs = Nat.gcd x.natAbs y.natAbs := by
  have e : (x % y).natAbs = x.natAbs % y.natAbs := by
    have h1 : x = ((x.natAbs : Nat) : Int) := by omega
    have h2 : y = ((y.natAbs : Nat) : Int) := by omega
    conv => lhs; rw [h1, h2]
    omega
  rw [e, Nat.gcd_comm, ← Nat.gcd_rec, Nat.gcd_comm]

abbrev sp_law_gcd (K : PySem.W.Frag) : Sp := spD K (fun a : Int × Int => [.int a.1, .int a.2]) (fun _ => True) (fun a r => r = .int ((Nat.gcd a.1.natAbs a.2.natAbs : Nat) : Int))
theorem ok_law_gcd (T : Tx K mg) : FnOk P w K mg base CX0 1 (He.fAd K ("_law_gcd", none)) (fdK K "_law_gcd") ["one", "other"] (sp_law_gcd K) := by
  refine okD T.d_law_gcd sc_law_gcd ?len (fun cdv A outer s H E hr => ⟨_, (pss_cons (ps_par (i := 0) (j := 1) (by rfl) sc_law_gcd.nd rfl rfl (by decide) rfl rfl (pa_cons (pe_callB call_abs (by rfl) T.n_abs PyProof.Rows.boot_abs (pa_cons (pv 0) pa_nil)) (pa_cons (pe_callB call_abs (by rfl) T.n_abs PyProof.Rows.boot_abs (pa_cons (pv 1) pa_nil)) pa_nil)) (by rfl))
      (pss_cons (ps_while PassesOwn.never (pt_cmpR (op_neDK (K := K) rfl hr.units) (pv 1) pe_int (nomark _)) (pss_one (ps_par (i := 0) (j := 1) (by rfl) sc_law_gcd.nd rfl rfl (by decide) rfl rfl (pa_cons (pv 1) (pa_cons (pe_op op_mod (pe_callTy call_int1 (by rfl) T.n_int PyProof.Rows.boot_int (pa_cons (pv 0) pa_nil)) (pv 1)) pa_nil)) (by rfl))))
      (pss_one (ps_ret (pv 0))))), ?rd⟩)
  case len =>
    intro a h; rfl

  case rd =>
  rintro ⟨x, y⟩ _ C _
  (try dsimp only [cxOf, Cx.nox, Cx.wish]); show WS K C _ [some (.dat _), some (.dat _)] _
  repeat walk_at "we"
  refine ⟨_, _, rfl, ?_⟩
  repeat walk_at "we"
  have ab : ∀ z : Int, 0 ≤ (if z < 0 then -z else z) ∧ (if z < 0 then -z else z).natAbs = z.natAbs := fun z => by split <;> omega
  refine ws_while (fun e => ∃ a b : Int, e = [some (.dat (.int a)), some (.dat (.int b))] ∧ 0 ≤ a ∧ 0 ≤ b ∧ Nat.gcd a.natAbs b.natAbs = Nat.gcd x.natAbs y.natAbs) mGcd ⟨_, _, rfl, (ab x).1, (ab y).1, by rw [(ab x).2, (ab y).2]⟩ ?_
  rintro e ⟨a, b, rfl, ha, hb, hg⟩
  repeat walk_at "we"
  refine rd_neD rfl rfl ?_
  repeat walk_at "we"
  rw [eqv_int]
  refine ⟨fun h => ?_, fun h => ?_⟩
  · have h0 : 0 < b := by
      have : ¬ b = 0 := by simpa using h
      omega
    repeat walk_at "we"
    refine rd_Ii h0 ?_
    repeat walk_at "we"
    refine ⟨_, _, rfl, ?_⟩
    refine ⟨⟨b, a % b, rfl, hb, Int.emod_nonneg _ (by omega), by rw [gcd_step ha h0]; exact hg⟩, ?_⟩
    show (a % b).toNat < b.toNat
    have := Int.emod_lt_of_pos a h0
    omega
  · have h0 : b = 0 := by simpa using h
    subst h0
    repeat walk_at "we"
    show PyData.int a = _
    simp only [Int.natAbs_zero, Nat.gcd_zero_right] at hg
    rw [← hg]
    congr 1
    omega

abbrev N_law_ratio : List Str := ["numerator", "denominator", "common"]
theorem sc_law_ratio : FnScope N_law_ratio ["numerator", "denominator"] (defScope s_law_ratio) := ⟨rfl, rfl, rfl, by decide +kernel, rfl, by decide +kernel, by decide +kernel⟩
theorem b_law_ratio (T : Tx K mg) : Binds K (fdK K "_law_ratio") ["numerator", "denominator"] [] := T.d_law_ratio.bindsN fun _ _ _ _ _ _ us hl => match us, hl with | [_, _], _ => rfl

abbrev sp_law_ratio (K : PySem.W.Frag) : Sp := spD K (fun a : Int × Int => [.int a.1, .int a.2]) (fun a => a.2 ≠ 0 ∧ Bd 8000 a.2) (fun a r => r = rt (Rat.divInt a.1 a.2))
theorem ok_law_ratio (T : Tx K mg) : FnOk P w K mg base CX0 2 (He.fAd K ("_law_ratio", none)) (fdK K "_law_ratio") ["numerator", "denominator"] (sp_law_ratio K) := by
  have G_law_gcd := ok_law_gcd (P := P) (w := w) (base := base) T
  refine okD T.d_law_ratio sc_law_ratio ?len (fun cdv A outer s H E hr => ⟨_, (pss_cons (ps_set (i := 2) sc_law_ratio.nd rfl (by first | exact Or.inl rfl | exact Or.inr rfl) (pe_call G_law_gcd (hr.mono (by first | decide | exact Nat.le_refl _)) (by rfl) T.g_law_gcd T.d_law_gcd.kp (b_law_gcd T) .nil pass0 (pa_cons (pv 0) (pa_cons (pv 1) pa_nil))))
      (pss_cons (ps_set (i := 2) sc_law_ratio.nd rfl (by first | exact Or.inl rfl | exact Or.inr rfl) (pe_ifExp (pt_cmpR op_lt (pv 1) pe_int (nomark _)) (pe_op op_sub pe_int (pv 2)) (pv 2)))
      (pss_one (ps_ret (pe_tup (pa_cons (pe_op op_fdivX (pv 0) (pv 2)) (pa_cons (pe_op op_fdivX (pv 1) (pv 2)) pa_nil))))))), ?rd⟩)
  case len =>
    intro a h; rfl

  case rd =>
  rintro ⟨u, l⟩ ⟨h0, hb⟩ C _
  (try dsimp only [cxOf, Cx.nox, Cx.wish]); show WS K C _ [some (.dat _), some (.dat _), none] _
  obtain ⟨e1, e2⟩ := rr_eq (u := u) (l := l) h0
  have hg0 : 0 < Nat.gcd u.natAbs l.natAbs := Nat.gcd_pos_of_pos_right _ (by simp only at h0; omega)
  have hg1 : Nat.gcd u.natAbs l.natAbs ≤ l.natAbs := Nat.le_of_dvd (by simp only at h0; omega) (Nat.gcd_dvd_right _ _)
  simp only at h0 hb
  have hb1 : Bd 8000 ((Nat.gcd u.natAbs l.natAbs : Nat) : Int) := by unfold Bd at *; omega
  have hp0 : ((Nat.gcd u.natAbs l.natAbs : Nat) : Int) ≠ 0 := by omega
  have hn0 : 0 - ((Nat.gcd u.natAbs l.natAbs : Nat) : Int) ≠ 0 := by omega
  have hn1 : Bd 8000 (0 - ((Nat.gcd u.natAbs l.natAbs : Nat) : Int)) := by rw [Int.zero_sub]; exact hb1.neg
  repeat walk_at "we"
  refine ⟨(u, l), rfl, trivial, ?_⟩
  rintro _ rfl
  repeat walk_at "we"
  unfold sg at e1 e2
  refine ⟨fun h => ?_, fun h => ?_⟩
  · have h := of_decide_eq_true h
    rw [if_pos h] at e1 e2
    repeat walk_at "we"
    refine rd_Ii (cdivX hn0 hn1 (by decide)) ?_
    repeat walk_at "we"
    refine rd_Ii (cdivX hn0 hn1 (by decide)) ?_
    repeat walk_at "we"
    show PyData.tuple _ = _
    rw [Int.zero_sub, e1, e2]
    rfl
  · have h := of_decide_eq_false h
    rw [if_neg h] at e1 e2
    repeat walk_at "we"
    refine rd_Ii (cdivX hp0 hb1 (by decide)) ?_
    repeat walk_at "we"
    refine rd_Ii (cdivX hp0 hb1 (by decide)) ?_
    repeat walk_at "we"
    show PyData.tuple _ = _
    rw [e1, e2]
    rfl

abbrev N_law_times : List Str := ["one", "other"]
theorem sc_law_times : FnScope N_law_times ["one", "other"] (defScope s_law_times) := ⟨rfl, rfl, rfl, by decide +kernel, rfl, by decide +kernel, by decide +kernel⟩
theorem b_law_times (T : Tx K mg) : Binds K (fdK K "_law_times") ["one", "other"] [] := T.d_law_times.bindsN fun _ _ _ _ _ _ us hl => match us, hl with | [_, _], _ => rfl

abbrev sp_law_times (K : PySem.W.Frag) : Sp := spD K (fun a : (Int × Int) × (Int × Int) => [pr a.1, pr a.2]) (fun a => PrOk a.1 ∧ PrOk a.2) (fun a r => r = rt (qr a.1 * qr a.2))
theorem ok_law_times (T : Tx K mg) : FnOk P w K mg base CX0 3 (He.fAd K ("_law_times", none)) (fdK K "_law_times") ["one", "other"] (sp_law_times K) := by
  have G_law_ratio := ok_law_ratio (P := P) (w := w) (base := base) T
  refine okD T.d_law_times sc_law_times ?len (fun cdv A outer s H E hr => ⟨_, (pss_one (ps_ret (pe_call G_law_ratio (hr.mono (by first | decide | exact Nat.le_refl _)) (by rfl) T.g_law_ratio T.d_law_ratio.kp (b_law_ratio T) .nil pass0 (pa_cons (pe_op op_mulW (pe_ix (ix_seqK (K := K) rfl) (pv 0) pe_int (fun _ _ => rfl)) (pe_ix (ix_seqK (K := K) rfl) (pv 1) pe_int (fun _ _ => rfl))) (pa_cons (pe_op op_mulW (pe_ix (ix_seqK (K := K) rfl) (pv 0) pe_int (fun _ _ => rfl)) (pe_ix (ix_seqK (K := K) rfl) (pv 1) pe_int (fun _ _ => rfl))) pa_nil))))), ?rd⟩)
  case len =>
    intro a h; rfl

  case rd =>
  rintro ⟨⟨n, d⟩, ⟨n', d'⟩⟩ ⟨⟨h0, h1, h2⟩, ⟨h3, h4, h5⟩⟩ C _
  (try dsimp only [cxOf, Cx.nox, Cx.wish]); show WS K C _ [some (.dat _), some (.dat _)] _
  simp only at h0 h1 h2 h3 h4 h5
  repeat walk_at "we"
  refine ⟨(_, _), rfl, ⟨Int.mul_ne_zero h0 h3, (Bd.mul h2 h5).mono (by decide)⟩, ?_⟩
  rintro _ rfl
  show rt _ = rt _
  rw [qr, qr, Rat.divInt_mul_divInt]

abbrev N_law_plus : List Str := ["one", "other"]
theorem sc_law_plus : FnScope N_law_plus ["one", "other"] (defScope s_law_plus) := ⟨rfl, rfl, rfl, by decide +kernel, rfl, by decide +kernel, by decide +kernel⟩
theorem b_law_plus (T : Tx K mg) : Binds K (fdK K "_law_plus") ["one", "other"] [] := T.d_law_plus.bindsN fun _ _ _ _ _ _ us hl => match us, hl with | [_, _], _ => rfl

abbrev sp_law_plus (K : PySem.W.Frag) : Sp := spD K (fun a : (Int × Int) × (Int × Int) => [pr a.1, pr a.2]) (fun a => PrOk a.1 ∧ PrOk a.2) (fun a r => r = rt (qr a.1 + qr a.2))
theorem ok_law_plus (T : Tx K mg) : FnOk P w K mg base CX0 3 (He.fAd K ("_law_plus", none)) (fdK K "_law_plus") ["one", "other"] (sp_law_plus K) := by
  have G_law_ratio := ok_law_ratio (P := P) (w := w) (base := base) T
  refine okD T.d_law_plus sc_law_plus ?len (fun cdv A outer s H E hr => ⟨_, (pss_one (ps_ret (pe_call G_law_ratio (hr.mono (by first | decide | exact Nat.le_refl _)) (by rfl) T.g_law_ratio T.d_law_ratio.kp (b_law_ratio T) .nil pass0 (pa_cons (pe_op op_add (pe_op op_mulW (pe_ix (ix_seqK (K := K) rfl) (pv 0) pe_int (fun _ _ => rfl)) (pe_ix (ix_seqK (K := K) rfl) (pv 1) pe_int (fun _ _ => rfl))) (pe_op op_mulW (pe_ix (ix_seqK (K := K) rfl) (pv 1) pe_int (fun _ _ => rfl)) (pe_ix (ix_seqK (K := K) rfl) (pv 0) pe_int (fun _ _ => rfl)))) (pa_cons (pe_op op_mulW (pe_ix (ix_seqK (K := K) rfl) (pv 0) pe_int (fun _ _ => rfl)) (pe_ix (ix_seqK (K := K) rfl) (pv 1) pe_int (fun _ _ => rfl))) pa_nil))))), ?rd⟩)
  case len =>
    intro a h; rfl

  case rd =>
  rintro ⟨⟨n, d⟩, ⟨n', d'⟩⟩ ⟨⟨h0, h1, h2⟩, ⟨h3, h4, h5⟩⟩ C _
  (try dsimp only [cxOf, Cx.nox, Cx.wish]); show WS K C _ [some (.dat _), some (.dat _)] _
  simp only at h0 h1 h2 h3 h4 h5
  repeat walk_at "we"
  refine ⟨(_, _), rfl, ⟨Int.mul_ne_zero h0 h3, (Bd.mul h2 h5).mono (by decide)⟩, ?_⟩
  rintro _ rfl
  show rt _ = rt _
  rw [qr, qr, Rat.divInt_add_divInt _ _ h0 h3]

abbrev N_law_lowest : List Str := ["x", "y", "w", "common"]
theorem sc_law_lowest : FnScope N_law_lowest ["x", "y", "w"] (defScope s_law_lowest) := ⟨rfl, rfl, rfl, by decide +kernel, rfl, by decide +kernel, by decide +kernel⟩
theorem b_law_lowest (T : Tx K mg) : Binds K (fdK K "_law_lowest") ["x", "y", "w"] [] := T.d_law_lowest.bindsN fun _ _ _ _ _ _ us hl => match us, hl with | [_, _, _], _ => rfl

abbrev sp_law_lowest (K : PySem.W.Frag) : Sp := spD K (fun a : P3 => [.int a.1, .int a.2.1, .int a.2.2]) (fun a => a.2.2 ≠ 0 ∧ Bd 8000 a.2.2) (fun a r => r = pt (low a.1 a.2.1 a.2.2))
theorem ok_law_lowest (T : Tx K mg) : FnOk P w K mg base CX0 2 (He.fAd K ("_law_lowest", none)) (fdK K "_law_lowest") ["x", "y", "w"] (sp_law_lowest K) := by
  have G_law_gcd := ok_law_gcd (P := P) (w := w) (base := base) T
  refine okD T.d_law_lowest sc_law_lowest ?len (fun cdv A outer s H E hr => ⟨_, (pss_cons (ps_set (i := 3) sc_law_lowest.nd rfl (by first | exact Or.inl rfl | exact Or.inr rfl) (pe_call G_law_gcd (hr.mono (by first | decide | exact Nat.le_refl _)) (by rfl) T.g_law_gcd T.d_law_gcd.kp (b_law_gcd T) .nil pass0 (pa_cons (pe_call G_law_gcd (hr.mono (by first | decide | exact Nat.le_refl _)) (by rfl) T.g_law_gcd T.d_law_gcd.kp (b_law_gcd T) .nil pass0 (pa_cons (pv 0) (pa_cons (pv 1) pa_nil))) (pa_cons (pv 2) pa_nil))))
      (pss_cons (ps_set (i := 3) sc_law_lowest.nd rfl (by first | exact Or.inl rfl | exact Or.inr rfl) (pe_ifExp (pt_cmpR op_lt (pv 2) pe_int (nomark _)) (pe_op op_sub pe_int (pv 3)) (pv 3)))
      (pss_one (ps_ret (pe_tup (pa_cons (pe_op op_fdivX (pv 0) (pv 3)) (pa_cons (pe_op op_fdivX (pv 1) (pv 3)) (pa_cons (pe_op op_fdivX (pv 2) (pv 3)) pa_nil)))))))), ?rd⟩)
  case len =>
    intro a h; rfl

  case rd =>
  rintro ⟨x, y, z⟩ ⟨h0, hb⟩ C _
  (try dsimp only [cxOf, Cx.nox, Cx.wish]); show WS K C _ [some (.dat _), some (.dat _), some (.dat _), none] _
  simp only at h0 hb
  have hg0 : 0 < Nat.gcd (Nat.gcd x.natAbs y.natAbs) z.natAbs := Nat.gcd_pos_of_pos_right _ (by omega)
  have hg1 : Nat.gcd (Nat.gcd x.natAbs y.natAbs) z.natAbs ≤ z.natAbs := Nat.le_of_dvd (by omega) (Nat.gcd_dvd_right _ _)
  have hb1 : Bd 8000 ((Nat.gcd (Nat.gcd x.natAbs y.natAbs) z.natAbs : Nat) : Int) := by unfold Bd at *; omega
  repeat walk_at "we"
  refine ⟨(x, y), rfl, trivial, ?_⟩
  rintro _ rfl
  repeat walk_at "we"
  refine ⟨(_, _), rfl, trivial, ?_⟩
  rintro _ rfl
  repeat walk_at "we"
  refine ⟨fun h => ?_, fun h => ?_⟩
  · have h := of_decide_eq_true h
    repeat walk_at "we"
    refine rd_Ii (cdivX (b := 8000) (by simp only [Int.natAbs_natCast]; omega) (by simp only [Int.natAbs_natCast]; unfold Bd at *; omega) (by decide)) ?_
    repeat walk_at "we"
    refine rd_Ii (cdivX (b := 8000) (by simp only [Int.natAbs_natCast]; omega) (by simp only [Int.natAbs_natCast]; unfold Bd at *; omega) (by decide)) ?_
    repeat walk_at "we"
    refine rd_Ii (cdivX (b := 8000) (by simp only [Int.natAbs_natCast]; omega) (by simp only [Int.natAbs_natCast]; unfold Bd at *; omega) (by decide)) ?_
    repeat walk_at "we"
    simp only [Int.natAbs_natCast, pt, low, sg, if_pos h, Int.zero_sub]
  · have h := of_decide_eq_false h
    repeat walk_at "we"
    refine rd_Ii (cdivX (b := 8000) (by simp only [Int.natAbs_natCast]; omega) (by simp only [Int.natAbs_natCast]; unfold Bd at *; omega) (by decide)) ?_
    repeat walk_at "we"
    refine rd_Ii (cdivX (b := 8000) (by simp only [Int.natAbs_natCast]; omega) (by simp only [Int.natAbs_natCast]; unfold Bd at *; omega) (by decide)) ?_
    repeat walk_at "we"
    refine rd_Ii (cdivX (b := 8000) (by simp only [Int.natAbs_natCast]; omega) (by simp only [Int.natAbs_natCast]; unfold Bd at *; omega) (by decide)) ?_
    repeat walk_at "we"
    simp only [Int.natAbs_natCast, pt, low, sg, if_neg h]

abbrev N_law_corner : List Str := ["one", "other", "x", "run", "y"]
theorem sc_law_corner : FnScope N_law_corner ["one", "other"] (defScope s_law_corner) := ⟨rfl, rfl, rfl, by decide +kernel, rfl, by decide +kernel, by decide +kernel⟩
theorem b_law_corner (T : Tx K mg) : Binds K (fdK K "_law_corner") ["one", "other"] [] := T.d_law_corner.bindsN fun _ _ _ _ _ _ us hl => match us, hl with | [_, _], _ => rfl
theorem ex_pls {Φ : D → Prop} {q r : Rat} (hq : QB 400 q) (hr : QB 400 r) (h : Φ (rt (q + r))) : ∃ a : (Int × Int) × (Int × Int), [rt q, rt r] = [pr a.1, pr a.2] ∧ (PrOk a.1 ∧ PrOk a.2) ∧ ∀ d, d = rt (qr a.1 + qr a.2) → Φ d := by
  refine ⟨((q.num, (q.den : Int)), (r.num, (r.den : Int))), rfl, ⟨hq.ok (by decide), hr.ok (by decide)⟩, ?_⟩
  rintro _ rfl
  simp only [qr_self]
  exact h
theorem ex_mns {Φ : D → Prop} {q r : Rat} (hq : QB 400 q) (hr : QB 400 r) (h : Φ (rt (q - r))) : ∃ a : (Int × Int) × (Int × Int), [rt q, .tuple [.int (0 - r.num), .int (r.den : Int)]] = [pr a.1, pr a.2] ∧ (PrOk a.1 ∧ PrOk a.2) ∧ ∀ d, d = rt (qr a.1 + qr a.2) → Φ d := by
  have hr' := hr.ok (show 400 ≤ 1000 by decide)
  refine ⟨((q.num, (q.den : Int)), (0 - r.num, (r.den : Int))), rfl, ⟨hq.ok (by decide), ⟨hr'.1, ?_, hr'.2.2⟩⟩, ?_⟩
  · show Bd 1000 (0 - r.num)
    rw [Int.zero_sub]
    exact hr'.2.1.neg
  rintro _ rfl
  have e : qr (0 - r.num, (r.den : Int)) = -r := by
    rw [Int.zero_sub]
    show Rat.divInt (-r.num) _ = _
    rw [← Rat.neg_divInt, Rat.num_divInt_den]
  simp only [qr_self, e]
  rw [← Rat.sub_eq_add_neg]
  exact h
theorem ex_tms {Φ : D → Prop} {q r : Rat} (hq : QB 400 q) (hr : QB 400 r) (h : Φ (rt (q * r))) : ∃ a : (Int × Int) × (Int × Int), [rt q, rt r] = [pr a.1, pr a.2] ∧ (PrOk a.1 ∧ PrOk a.2) ∧ ∀ d, d = rt (qr a.1 * qr a.2) → Φ d := by
  refine ⟨((q.num, (q.den : Int)), (r.num, (r.den : Int))), rfl, ⟨hq.ok (by decide), hr.ok (by decide)⟩, ?_⟩
  rintro _ rfl
  simp only [qr_self]
  exact h
theorem ex_tms1 {Φ : D → Prop} {q : Rat} (hq : QB 400 q) (h : Φ (rt q)) : ∃ a : (Int × Int) × (Int × Int), [rt q, .tuple [.int 1, .int 1]] = [pr a.1, pr a.2] ∧ (PrOk a.1 ∧ PrOk a.2) ∧ ∀ d, d = rt (qr a.1 * qr a.2) → Φ d := by
  refine ⟨((q.num, (q.den : Int)), (1, 1)), rfl, ⟨hq.ok (by decide), ⟨by show (1 : Int) ≠ 0; decide, (by decide : Bd 64 1).mono (by decide), (by decide : Bd 64 1).mono (by decide)⟩⟩, ?_⟩
  rintro _ rfl
  have e : qr ((1 : Int), (1 : Int)) = 1 := rfl
  simp only [qr_self, e, Rat.mul_one]
  exact h
theorem QB.sub {a b : Nat} {q r : Rat} (h : QB a q) (g : QB b r) : QB (a + b + 1) (q - r) := by
  rw [Rat.sub_eq_add_neg]
  exact h.add g.neg

abbrev sp_law_corner (K : PySem.W.Frag) : Sp := spD K (fun a : (Rat × Rat) × (Rat × Rat) => [Ln a.1, Ln a.2]) (fun a => a.1.1 ≠ a.2.1 ∧ (QB 24 a.1.1 ∧ QB 24 a.1.2) ∧ (QB 24 a.2.1 ∧ QB 24 a.2.2)) (fun a r => r = pt (crn a.1 a.2))
theorem ok_law_corner (T : Tx K mg) : FnOk P w K mg base CX0 4 (He.fAd K ("_law_corner", none)) (fdK K "_law_corner") ["one", "other"] (sp_law_corner K) := by
  have G_law_times := ok_law_times (P := P) (w := w) (base := base) T
  have G_law_plus := ok_law_plus (P := P) (w := w) (base := base) T
  have G_law_ratio := ok_law_ratio (P := P) (w := w) (base := base) T
  have G_law_lowest := ok_law_lowest (P := P) (w := w) (base := base) T
  refine okD T.d_law_corner sc_law_corner ?len (fun cdv A outer s H E hr => ⟨_, (pss_cons (ps_set (i := 2) sc_law_corner.nd rfl (by first | exact Or.inl rfl | exact Or.inr rfl) (pe_call G_law_times (hr.mono (by first | decide | exact Nat.le_refl _)) (by rfl) T.g_law_times T.d_law_times.kp (b_law_times T) .nil pass0 (pa_cons (pe_call G_law_plus (hr.mono (by first | decide | exact Nat.le_refl _)) (by rfl) T.g_law_plus T.d_law_plus.kp (b_law_plus T) .nil pass0 (pa_cons (pe_ix (ix_seqK (K := K) rfl) (pv 1) pe_int (fun _ _ => rfl)) (pa_cons (pe_tup (pa_cons (pe_op op_sub pe_int (pe_ix (ix_seqK (K := K) rfl) (pe_ix (ix_seqK (K := K) rfl) (pv 0) pe_int (fun _ _ => rfl)) pe_int (fun _ _ => rfl))) (pa_cons (pe_ix (ix_seqK (K := K) rfl) (pe_ix (ix_seqK (K := K) rfl) (pv 0) pe_int (fun _ _ => rfl)) pe_int (fun _ _ => rfl)) pa_nil))) pa_nil))) (pa_cons (pe_tup (pa_cons pe_int (pa_cons pe_int pa_nil))) pa_nil))))
      (pss_cons (ps_set (i := 3) sc_law_corner.nd rfl (by first | exact Or.inl rfl | exact Or.inr rfl) (pe_call G_law_plus (hr.mono (by first | decide | exact Nat.le_refl _)) (by rfl) T.g_law_plus T.d_law_plus.kp (b_law_plus T) .nil pass0 (pa_cons (pe_ix (ix_seqK (K := K) rfl) (pv 0) pe_int (fun _ _ => rfl)) (pa_cons (pe_tup (pa_cons (pe_op op_sub pe_int (pe_ix (ix_seqK (K := K) rfl) (pe_ix (ix_seqK (K := K) rfl) (pv 1) pe_int (fun _ _ => rfl)) pe_int (fun _ _ => rfl))) (pa_cons (pe_ix (ix_seqK (K := K) rfl) (pe_ix (ix_seqK (K := K) rfl) (pv 1) pe_int (fun _ _ => rfl)) pe_int (fun _ _ => rfl)) pa_nil))) pa_nil))))
      (pss_cons (ps_set (i := 2) sc_law_corner.nd rfl (by first | exact Or.inl rfl | exact Or.inr rfl) (pe_call G_law_ratio (hr.mono (by first | decide | exact Nat.le_refl _)) (by rfl) T.g_law_ratio T.d_law_ratio.kp (b_law_ratio T) .nil pass0 (pa_cons (pe_op op_mulW (pe_ix (ix_seqK (K := K) rfl) (pv 2) pe_int (fun _ _ => rfl)) (pe_ix (ix_seqK (K := K) rfl) (pv 3) pe_int (fun _ _ => rfl))) (pa_cons (pe_op op_mulW (pe_ix (ix_seqK (K := K) rfl) (pv 2) pe_int (fun _ _ => rfl)) (pe_ix (ix_seqK (K := K) rfl) (pv 3) pe_int (fun _ _ => rfl))) pa_nil))))
      (pss_cons (ps_set (i := 4) sc_law_corner.nd rfl (by first | exact Or.inl rfl | exact Or.inr rfl) (pe_call G_law_plus (hr.mono (by first | decide | exact Nat.le_refl _)) (by rfl) T.g_law_plus T.d_law_plus.kp (b_law_plus T) .nil pass0 (pa_cons (pe_call G_law_times (hr.mono (by first | decide | exact Nat.le_refl _)) (by rfl) T.g_law_times T.d_law_times.kp (b_law_times T) .nil pass0 (pa_cons (pe_ix (ix_seqK (K := K) rfl) (pv 0) pe_int (fun _ _ => rfl)) (pa_cons (pv 2) pa_nil))) (pa_cons (pe_ix (ix_seqK (K := K) rfl) (pv 0) pe_int (fun _ _ => rfl)) pa_nil))))
      (pss_one (ps_ret (pe_call G_law_lowest (hr.mono (by first | decide | exact Nat.le_refl _)) (by rfl) T.g_law_lowest T.d_law_lowest.kp (b_law_lowest T) .nil pass0 (pa_cons (pe_op op_mulW (pe_ix (ix_seqK (K := K) rfl) (pv 2) pe_int (fun _ _ => rfl)) (pe_ix (ix_seqK (K := K) rfl) (pv 4) pe_int (fun _ _ => rfl))) (pa_cons (pe_op op_mulW (pe_ix (ix_seqK (K := K) rfl) (pv 4) pe_int (fun _ _ => rfl)) (pe_ix (ix_seqK (K := K) rfl) (pv 2) pe_int (fun _ _ => rfl))) (pa_cons (pe_op op_mulW (pe_ix (ix_seqK (K := K) rfl) (pv 2) pe_int (fun _ _ => rfl)) (pe_ix (ix_seqK (K := K) rfl) (pv 4) pe_int (fun _ _ => rfl))) pa_nil)))))))))), ?rd⟩)
  case len =>
    intro a h; rfl

  case rd =>
  rintro ⟨⟨p, q⟩, ⟨r, z⟩⟩ ⟨hne, ⟨h1, h2⟩, ⟨h3, h4⟩⟩ C _
  (try dsimp only [cxOf, Cx.nox, Cx.wish]); show WS K C _ [some (.dat _), some (.dat _), none, none, none] _
  simp only at hne h1 h2 h3 h4
  show WS K C _ [some (.dat (.tuple [rt p, rt q])), some (.dat (.tuple [rt r, rt z])), none, none, none] _
  repeat walk_at "we"
  refine ex_mns (h4.mono (by decide)) (h2.mono (by decide)) ?_
  have b1 := h4.sub h2
  have b2 := h1.sub h3
  repeat walk_at "we"
  refine ex_tms1 (b1.mono (by decide)) ?_
  repeat walk_at "we"
  refine ex_mns (h1.mono (by decide)) (h3.mono (by decide)) ?_
  have hrun : p - r ≠ 0 := fun e => hne (by grind)
  have hn0 : (p - r).num ≠ 0 := fun e => hrun (Rat.num_eq_zero.mp e)
  have hq1 := b1
  obtain ⟨c1, c2⟩ := b1
  obtain ⟨c3, c4⟩ := b2
  have hcx : Rat.divInt ((z - q).num * ((p - r).den : Int)) (((z - q).den : Int) * (p - r).num) = crx (p, q) (r, z) := by
    show _ = (z - q) / (p - r)
    rw [← Rat.divInt_mul_divInt, Rat.num_divInt_den, Rat.div_def]
    congr 1
    rw [← Rat.inv_divInt, Rat.num_divInt_den]
  have hcb : QB 98 (crx (p, q) (r, z)) := by
    rw [← hcx]
    exact QB.of (Int.mul_ne_zero (den_ne _) hn0) ((c1.mul c4).mono (by decide)) ((c2.mul c3).mono (by decide))
  repeat walk_at "we"
  refine ⟨(_, _), rfl, ⟨Int.mul_ne_zero (den_ne _) hn0, (c2.mul c3).mono (by decide)⟩, ?_⟩
  rintro _ rfl
  simp only
  rw [hcx]
  have hy := (h1.mul hcb).add h2
  repeat walk_at "we"
  refine ex_tms (h1.mono (by decide)) (hcb.mono (by decide)) ?_
  repeat walk_at "we"
  refine ex_pls ((h1.mul hcb).mono (by decide)) (h2.mono (by decide)) ?_
  obtain ⟨d1, d2⟩ := hcb
  obtain ⟨d3, d4⟩ := hy
  repeat walk_at "we"
  refine ⟨(_, _, _), rfl, ⟨den2 _ _, (d2.mul d4).mono (by decide)⟩, ?_⟩
  rintro _ rfl
  rfl

abbrev N_law_above : List Str := ["line", "p", "on"]
theorem sc_law_above : FnScope N_law_above ["line", "p"] (defScope s_law_above) := ⟨rfl, rfl, rfl, by decide +kernel, rfl, by decide +kernel, by decide +kernel⟩
theorem b_law_above (T : Tx K mg) : Binds K (fdK K "_law_above") ["line", "p"] [] := T.d_law_above.bindsN fun _ _ _ _ _ _ us hl => match us, hl with | [_, _], _ => rfl
theorem ex_plus {Φ : D → Prop} {q r : Rat} {n n' : Nat} (hq : QB n q) (hr : QB n' r) (hn : n ≤ 1000) (hn' : n' ≤ 1000) (h : Φ (rt (q + r))) : ∃ a : (Int × Int) × (Int × Int), [rt q, rt r] = [pr a.1, pr a.2] ∧ (PrOk a.1 ∧ PrOk a.2) ∧ ∀ d, d = rt (qr a.1 + qr a.2) → Φ d := by
  refine ⟨((q.num, (q.den : Int)), (r.num, (r.den : Int))), rfl, ⟨hq.ok hn, hr.ok hn'⟩, ?_⟩
  rintro _ rfl
  simp only [qr_self]
  exact h
/-- a point's own number, less a rational -/
theorem ex_less {Φ : D → Prop} {x w : Int} {r : Rat} {n' : Nat} (hx : Bd 1000 x) (hw : 0 < w ∧ Bd 1000 w) (hr : QB n' r) (hn' : n' ≤ 1000) (h : Φ (rt (Rat.divInt x w + -r))) : ∃ a : (Int × Int) × (Int × Int), [.tuple [.int x, .int w], .tuple [.int (0 - r.num), .int (r.den : Int)]] = [pr a.1, pr a.2] ∧ (PrOk a.1 ∧ PrOk a.2) ∧ ∀ d, d = rt (qr a.1 + qr a.2) → Φ d := by
  refine ⟨((x, w), (0 - r.num, (r.den : Int))), rfl, ⟨⟨Int.ne_of_gt hw.1, hx, hw.2⟩, ⟨(hr.ok hn').1, ?_, (hr.ok hn').2.2⟩⟩, ?_⟩
  · show Bd 1000 (0 - r.num)
    rw [Int.zero_sub]
    exact (hr.ok hn').2.1.neg
  rintro _ rfl
  have e : qr (0 - r.num, (r.den : Int)) = -r := by
    rw [Int.zero_sub]
    show Rat.divInt (-r.num) _ = _
    rw [← Rat.neg_divInt, Rat.num_divInt_den]
  simp only [qr_self, e]
  exact h
theorem ex_timesP {Φ : D → Prop} {x w : Int} {r : Rat} {n' : Nat} (hx : Bd 1000 x) (hw : 0 < w ∧ Bd 1000 w) (hr : QB n' r) (hn' : n' ≤ 1000) (h : Φ (rt (r * Rat.divInt x w))) : ∃ a : (Int × Int) × (Int × Int), [rt r, .tuple [.int x, .int w]] = [pr a.1, pr a.2] ∧ (PrOk a.1 ∧ PrOk a.2) ∧ ∀ d, d = rt (qr a.1 * qr a.2) → Φ d := by
  refine ⟨((r.num, (r.den : Int)), (x, w)), rfl, ⟨hr.ok hn', ⟨Int.ne_of_gt hw.1, hx, hw.2⟩⟩, ?_⟩
  rintro _ rfl
  simp only [qr_self]
  exact h

abbrev sp_law_above (K : PySem.W.Frag) : Sp := spD K (fun a : (Rat × Rat) × P3 => [Ln a.1, pt a.2]) (fun a => QB 100 a.1.1 ∧ QB 100 a.1.2 ∧ BP 400 a.2 ∧ 0 < a.2.2.2) (fun a r => r = rt (upQ a.1 a.2))
theorem ok_law_above (T : Tx K mg) : FnOk P w K mg base CX0 4 (He.fAd K ("_law_above", none)) (fdK K "_law_above") ["line", "p"] (sp_law_above K) := by
  have G_law_plus := ok_law_plus (P := P) (w := w) (base := base) T
  have G_law_times := ok_law_times (P := P) (w := w) (base := base) T
  refine okD T.d_law_above sc_law_above ?len (fun cdv A outer s H E hr => ⟨_, (pss_cons (ps_set (i := 2) sc_law_above.nd rfl (by first | exact Or.inl rfl | exact Or.inr rfl) (pe_call G_law_plus (hr.mono (by first | decide | exact Nat.le_refl _)) (by rfl) T.g_law_plus T.d_law_plus.kp (b_law_plus T) .nil pass0 (pa_cons (pe_call G_law_times (hr.mono (by first | decide | exact Nat.le_refl _)) (by rfl) T.g_law_times T.d_law_times.kp (b_law_times T) .nil pass0 (pa_cons (pe_ix (ix_seqK (K := K) rfl) (pv 0) pe_int (fun _ _ => rfl)) (pa_cons (pe_tup (pa_cons (pe_ix (ix_seqK (K := K) rfl) (pv 1) pe_int (fun _ _ => rfl)) (pa_cons (pe_ix (ix_seqK (K := K) rfl) (pv 1) pe_int (fun _ _ => rfl)) pa_nil))) pa_nil))) (pa_cons (pe_ix (ix_seqK (K := K) rfl) (pv 0) pe_int (fun _ _ => rfl)) pa_nil))))
      (pss_one (ps_ret (pe_call G_law_plus (hr.mono (by first | decide | exact Nat.le_refl _)) (by rfl) T.g_law_plus T.d_law_plus.kp (b_law_plus T) .nil pass0 (pa_cons (pe_tup (pa_cons (pe_ix (ix_seqK (K := K) rfl) (pv 1) pe_int (fun _ _ => rfl)) (pa_cons (pe_ix (ix_seqK (K := K) rfl) (pv 1) pe_int (fun _ _ => rfl)) pa_nil))) (pa_cons (pe_tup (pa_cons (pe_op op_sub pe_int (pe_ix (ix_seqK (K := K) rfl) (pv 2) pe_int (fun _ _ => rfl))) (pa_cons (pe_ix (ix_seqK (K := K) rfl) (pv 2) pe_int (fun _ _ => rfl)) pa_nil))) pa_nil)))))), ?rd⟩)
  case len =>
    intro a h; rfl

  case rd =>
  rintro ⟨⟨m, k⟩, p⟩ ⟨h1, h2, h3, h4⟩ C _
  (try dsimp only [cxOf, Cx.nox, Cx.wish]); show WS K C _ [some (.dat _), some (.dat _), none] _
  simp only at h1 h2 h3 h4
  have qx0 := qx_bd h4 h3
  obtain ⟨h5, h6, h7⟩ := id h3
  repeat walk_at "we"
  refine ex_timesP (h5.mono (by decide)) ⟨h4, h7.mono (by decide)⟩ h1 (by decide) ?_
  repeat walk_at "we"
  refine ex_plus (h1.mul qx0) h2 (by decide) (by decide) ?_
  repeat walk_at "we"
  refine ex_less (h6.mono (by decide)) ⟨h4, h7.mono (by decide)⟩ ((h1.mul qx0).add h2) (by decide) ?_
  rfl

abbrev N_law_alike : List Str := ["found", "due", "k"]
theorem sc_law_alike : FnScope N_law_alike ["found", "due"] (defScope s_law_alike) := ⟨rfl, rfl, rfl, by decide +kernel, rfl, by decide +kernel, by decide +kernel⟩
theorem b_law_alike (T : Tx K mg) : Binds K (fdK K "_law_alike") ["found", "due"] [] := T.d_law_alike.bindsN fun _ _ _ _ _ _ us hl => match us, hl with | [_, _], _ => rfl
/-- data of at most n levels -/
def shp : Nat → D → Prop
  | 0, d => d = .none ∨ (∃ b, d = .bool b) ∨ (∃ i, d = .int i) ∨ ∃ x, PyData.strOk x = true ∧ d = .str x
  | n + 1, d => (d = .none ∨ (∃ b, d = .bool b) ∨ (∃ i, d = .int i) ∨ ∃ x, PyData.strOk x = true ∧ d = .str x) ∨ ∃ ds, (d = .tuple ds ∨ d = .list ds) ∧ ds.length ≤ 1000 ∧ ∀ x ∈ ds, shp n x
abbrev sp_alike (K : PySem.W.Frag) (n : Nat) : Sp := spD K (fun d : D => [d, d]) (shp n) (fun _ r => r = .bool true)

theorem alike0 (T : Tx K mg) {sp : Sp} {j : Nat} (G_law_alike : FnOk P w K mg base CX0 j (He.fAd K ("_law_alike", none)) (fdK K "_law_alike") ["found", "due"] sp) :
    FnOk P w K mg base CX0 (j + 1) (He.fAd K ("_law_alike", none)) (fdK K "_law_alike") ["found", "due"] (spD K (fun d : D => [d, d]) (fun d => d = .none ∨ (∃ b, d = .bool b) ∨ (∃ i, d = .int i) ∨ ∃ x, PyData.strOk x = true ∧ d = .str x) (fun _ r => r = .bool true)) := by
  refine okD T.d_law_alike sc_law_alike ?len (fun cdv A outer s H E hr => ⟨_, (pss_cons (ps_if (pt_val (pe_callB (call_isiTK (K := K) rfl) (by rfl) T.n_isinstance PyProof.Rows.boot_isinstance (pa_cons (pv 1) (pa_cons (pe_tup (pa_cons (pe_bltn (v := .ty "tuple") (by rfl) T.n_tuple PyProof.Rows.boot_tuple rfl) (pa_cons (pe_bltn (v := .ty "list") (by rfl) T.n_list PyProof.Rows.boot_list rfl) pa_nil))) pa_nil)))) (pss_cons (ps_if (PW.pt (pw_or (pt_not (pt_val (pe_callB (call_isiTK (K := K) rfl) (by rfl) T.n_isinstance PyProof.Rows.boot_isinstance (pa_cons (pv 0) (pa_cons (pe_tup (pa_cons (pe_bltn (v := .ty "tuple") (by rfl) T.n_tuple PyProof.Rows.boot_tuple rfl) (pa_cons (pe_bltn (v := .ty "list") (by rfl) T.n_list PyProof.Rows.boot_list rfl) pa_nil))) pa_nil))))) (pw_or1 (pt_cmpR (op_neDK (K := K) rfl hr.units) (pe_callB (call_isiK' (K := K) rfl) (by rfl) T.n_isinstance PyProof.Rows.boot_isinstance (pa_cons (pv 0) (pa_cons (pe_bltn (v := .ty "list") (by rfl) T.n_list PyProof.Rows.boot_list rfl) pa_nil))) (pe_callB (call_isiK' (K := K) rfl) (by rfl) T.n_isinstance PyProof.Rows.boot_isinstance (pa_cons (pv 1) (pa_cons (pe_bltn (v := .ty "list") (by rfl) T.n_list PyProof.Rows.boot_list rfl) pa_nil))) (nomark _))))) (pss_one (ps_ret pe_bl)) pss_nil)
      (pss_cons (ps_if (pt_cmpR (op_neDK (K := K) rfl hr.units) (pe_callB (call_lenK (K := K) rfl) (by rfl) T.n_len PySem.boot_len (pa_cons (pv 0) pa_nil)) (pe_callB (call_lenK (K := K) rfl) (by rfl) T.n_len PySem.boot_len (pa_cons (pv 1) pa_nil)) (nomark _)) (pss_one (ps_ret pe_bl)) pss_nil)
      (pss_one (ps_ret (pe_cmpR (op_eqDK (K := K) rfl hr.units) (pe_lc (by rfl) sc_law_alike.nd (pi_range1 (by rfl) T.n_range (pa_cons (pe_callB (call_lenK (K := K) rfl) (by rfl) T.n_len PySem.boot_len (pa_cons (pv 1) pa_nil)) pa_nil)) (blkOk_by (own := [("k", 2)]) (N := N_law_alike) (sc := defScope s_law_alike) (by decide +kernel)) (fun _ _ _ _ _ => (pg_name (i := 2) sc_law_alike.nd rfl (by first | exact Or.inl rfl | exact Or.inr rfl))) (fun _ _ _ _ _ => pts_one (pt_not (pt_val (pe_call G_law_alike (hr.mono (by first | decide | exact Nat.le_refl _)) (by rfl) T.g_law_alike T.d_law_alike.kp (b_law_alike T) .nil pass0 (pa_cons (pe_ix (ix_seqK (K := K) rfl) (pv 0) (pv 2) (fun _ _ => rfl)) (pa_cons (pe_ix (ix_seqK (K := K) rfl) (pv 1) (pv 2) (fun _ _ => rfl)) pa_nil)))))) (fun _ _ _ _ _ => (pv 2))) (pe_lst pa_nil) (nomark _)))))) pss_nil)
      (pss_cons (ps_if (PW.pt (pw_or (pt_cmpR op_isN (pv 1) pe_non (nomark _)) (pw_or1 (pt_val (pe_callB (call_isiK' (K := K) rfl) (by rfl) T.n_isinstance PyProof.Rows.boot_isinstance (pa_cons (pv 1) (pa_cons (pe_bltn (v := .ty "str") (by rfl) T.n_str PyProof.Rows.boot_str rfl) pa_nil))))))) (pss_one (ps_ret (pe_and (pe_cmpR (op_eqDK (K := K) rfl hr.units) (pv 0) (pv 1) (nomark _)) (pe_one (pe_cmpR (op_eqDK (K := K) rfl hr.units) (pe_callB (call_isiK' (K := K) rfl) (by rfl) T.n_isinstance PyProof.Rows.boot_isinstance (pa_cons (pv 0) (pa_cons (pe_bltn (v := .ty "str") (by rfl) T.n_str PyProof.Rows.boot_str rfl) pa_nil))) (pe_callB (call_isiK' (K := K) rfl) (by rfl) T.n_isinstance PyProof.Rows.boot_isinstance (pa_cons (pv 1) (pa_cons (pe_bltn (v := .ty "str") (by rfl) T.n_str PyProof.Rows.boot_str rfl) pa_nil))) (nomark _)))))) pss_nil)
      (pss_one (ps_ret (pe_and (pe_callB (call_isiK' (K := K) rfl) (by rfl) T.n_isinstance PyProof.Rows.boot_isinstance (pa_cons (pv 0) (pa_cons (pe_bltn (v := .ty "int") (by rfl) T.n_int PyProof.Rows.boot_int rfl) pa_nil))) (pe_and (pe_cmpR (op_eqDK (K := K) rfl hr.units) (pe_callB (call_isiK' (K := K) rfl) (by rfl) T.n_isinstance PyProof.Rows.boot_isinstance (pa_cons (pv 0) (pa_cons (pe_bltn (v := .ty "bool") (by rfl) T.n_bool PyProof.Rows.boot_bool rfl) pa_nil))) (pe_callB (call_isiK' (K := K) rfl) (by rfl) T.n_isinstance PyProof.Rows.boot_isinstance (pa_cons (pv 1) (pa_cons (pe_bltn (v := .ty "bool") (by rfl) T.n_bool PyProof.Rows.boot_bool rfl) pa_nil))) (nomark _)) (pe_one (pe_cmpR (op_eqDK (K := K) rfl hr.units) (pv 0) (pv 1) (nomark _))))))))), ?rd⟩)
  case len => intro a h; rfl
  case rd =>
    rintro d hd C _
    (try dsimp only [cxOf, Cx.nox, Cx.wish]); show WS K C _ [some (.dat _), some (.dat _), none] _
    repeat walk_at "we"
    have hn : (isTupD d || isListD d) = false := by rcases hd with rfl | ⟨b, rfl⟩ | ⟨i, rfl⟩ | ⟨x, hx, rfl⟩ <;> rfl
    rw [hn]
    refine ⟨(fun h => nomatch h), fun _ => ?_⟩
    repeat walk_at "we"
    refine rd_isN rfl ?_
    repeat walk_at "we"
    rcases hd with rfl | ⟨b, rfl⟩ | ⟨i, rfl⟩ | ⟨x, hx, rfl⟩
    · refine ⟨fun _ => ⟨fun _ => ?_, (fun z => nomatch z)⟩, (fun z => nomatch z)⟩
      repeat walk_at "we"
      refine rd_eqD rfl rfl ?_
      repeat walk_at "we"
      refine ⟨fun _ => ?_, (fun z => nomatch z)⟩
      repeat walk_at "we"
      refine rd_eqD rfl rfl ?_
      rfl
    · refine ⟨(fun z => nomatch z), fun _ => ?_⟩
      repeat walk_at "we"
      refine ⟨(fun z => nomatch z), fun _ => ?_⟩
      repeat walk_at "we"
      refine ⟨fun _ => ?_, (fun z => nomatch z)⟩
      repeat walk_at "we"
      refine rd_eqD rfl rfl ?_
      repeat walk_at "we"
      refine ⟨fun _ => ?_, (fun z => nomatch z)⟩
      repeat walk_at "we"
      refine rd_eqD rfl rfl ?_
      show PyData.bool _ = _
      rw [eqv_bool, beq_self_eq_true]
    · refine ⟨(fun z => nomatch z), fun _ => ?_⟩
      repeat walk_at "we"
      refine ⟨(fun z => nomatch z), fun _ => ?_⟩
      repeat walk_at "we"
      refine ⟨fun _ => ?_, (fun z => nomatch z)⟩
      repeat walk_at "we"
      refine rd_eqD rfl rfl ?_
      repeat walk_at "we"
      refine ⟨fun _ => ?_, (fun z => nomatch z)⟩
      repeat walk_at "we"
      refine rd_eqD rfl rfl ?_
      show PyData.bool _ = _
      rw [eqv_int, decide_eq_true rfl]
    · have hs : SeqAt.shaped (.str x) = true := by simp [SeqAt.shaped, PyData.canLay0, PyData.depth, hx]
      refine ⟨(fun z => nomatch z), fun _ => ?_⟩
      repeat walk_at "we"
      refine ⟨fun _ => ?_, (fun z => nomatch z)⟩
      repeat walk_at "we"
      refine rd_eqD hs hs ?_
      repeat walk_at "we"
      rw [show PyData.eqv (.str x) (.str x) = true by simp [PyData.eqv]]
      refine ⟨fun _ => ?_, (fun z => nomatch z)⟩
      repeat walk_at "we"
      refine rd_eqD rfl rfl ?_
      rfl
theorem alike1 (T : Tx K mg) {Sh : D → Prop} {j : Nat} (G_law_alike : FnOk P w K mg base CX0 j (He.fAd K ("_law_alike", none)) (fdK K "_law_alike") ["found", "due"] (spD K (fun d : D => [d, d]) Sh (fun _ r => r = .bool true))) :
    FnOk P w K mg base CX0 (j + 1) (He.fAd K ("_law_alike", none)) (fdK K "_law_alike") ["found", "due"] (spD K (fun d : D => [d, d]) (fun d => ∃ ds, (d = .tuple ds ∨ d = .list ds) ∧ ds.length ≤ 1000 ∧ ∀ x ∈ ds, Sh x) (fun _ r => r = .bool true)) := by
  refine okD T.d_law_alike sc_law_alike ?len (fun cdv A outer s H E hr => ⟨_, (pss_cons (ps_if (pt_val (pe_callB (call_isiTK (K := K) rfl) (by rfl) T.n_isinstance PyProof.Rows.boot_isinstance (pa_cons (pv 1) (pa_cons (pe_tup (pa_cons (pe_bltn (v := .ty "tuple") (by rfl) T.n_tuple PyProof.Rows.boot_tuple rfl) (pa_cons (pe_bltn (v := .ty "list") (by rfl) T.n_list PyProof.Rows.boot_list rfl) pa_nil))) pa_nil)))) (pss_cons (ps_if (PW.pt (pw_or (pt_not (pt_val (pe_callB (call_isiTK (K := K) rfl) (by rfl) T.n_isinstance PyProof.Rows.boot_isinstance (pa_cons (pv 0) (pa_cons (pe_tup (pa_cons (pe_bltn (v := .ty "tuple") (by rfl) T.n_tuple PyProof.Rows.boot_tuple rfl) (pa_cons (pe_bltn (v := .ty "list") (by rfl) T.n_list PyProof.Rows.boot_list rfl) pa_nil))) pa_nil))))) (pw_or1 (pt_cmpR (op_neDK (K := K) rfl hr.units) (pe_callB (call_isiK' (K := K) rfl) (by rfl) T.n_isinstance PyProof.Rows.boot_isinstance (pa_cons (pv 0) (pa_cons (pe_bltn (v := .ty "list") (by rfl) T.n_list PyProof.Rows.boot_list rfl) pa_nil))) (pe_callB (call_isiK' (K := K) rfl) (by rfl) T.n_isinstance PyProof.Rows.boot_isinstance (pa_cons (pv 1) (pa_cons (pe_bltn (v := .ty "list") (by rfl) T.n_list PyProof.Rows.boot_list rfl) pa_nil))) (nomark _))))) (pss_one (ps_ret pe_bl)) pss_nil)
      (pss_cons (ps_if (pt_cmpR (op_neDK (K := K) rfl hr.units) (pe_callB (call_lenK (K := K) rfl) (by rfl) T.n_len PySem.boot_len (pa_cons (pv 0) pa_nil)) (pe_callB (call_lenK (K := K) rfl) (by rfl) T.n_len PySem.boot_len (pa_cons (pv 1) pa_nil)) (nomark _)) (pss_one (ps_ret pe_bl)) pss_nil)
      (pss_one (ps_ret (pe_cmpR (op_eqDK (K := K) rfl hr.units) (pe_lc (by rfl) sc_law_alike.nd (pi_range1 (by rfl) T.n_range (pa_cons (pe_callB (call_lenK (K := K) rfl) (by rfl) T.n_len PySem.boot_len (pa_cons (pv 1) pa_nil)) pa_nil)) (blkOk_by (own := [("k", 2)]) (N := N_law_alike) (sc := defScope s_law_alike) (by decide +kernel)) (fun _ _ _ _ _ => (pg_name (i := 2) sc_law_alike.nd rfl (by first | exact Or.inl rfl | exact Or.inr rfl))) (fun _ _ _ _ _ => pts_one (pt_not (pt_val (pe_call G_law_alike (hr.mono (by first | decide | exact Nat.le_refl _)) (by rfl) T.g_law_alike T.d_law_alike.kp (b_law_alike T) .nil pass0 (pa_cons (pe_ix (ix_seqK (K := K) rfl) (pv 0) (pv 2) (fun _ _ => rfl)) (pa_cons (pe_ix (ix_seqK (K := K) rfl) (pv 1) (pv 2) (fun _ _ => rfl)) pa_nil)))))) (fun _ _ _ _ _ => (pv 2))) (pe_lst pa_nil) (nomark _)))))) pss_nil)
      (pss_cons (ps_if (PW.pt (pw_or (pt_cmpR op_isN (pv 1) pe_non (nomark _)) (pw_or1 (pt_val (pe_callB (call_isiK' (K := K) rfl) (by rfl) T.n_isinstance PyProof.Rows.boot_isinstance (pa_cons (pv 1) (pa_cons (pe_bltn (v := .ty "str") (by rfl) T.n_str PyProof.Rows.boot_str rfl) pa_nil))))))) (pss_one (ps_ret (pe_and (pe_cmpR (op_eqDK (K := K) rfl hr.units) (pv 0) (pv 1) (nomark _)) (pe_one (pe_cmpR (op_eqDK (K := K) rfl hr.units) (pe_callB (call_isiK' (K := K) rfl) (by rfl) T.n_isinstance PyProof.Rows.boot_isinstance (pa_cons (pv 0) (pa_cons (pe_bltn (v := .ty "str") (by rfl) T.n_str PyProof.Rows.boot_str rfl) pa_nil))) (pe_callB (call_isiK' (K := K) rfl) (by rfl) T.n_isinstance PyProof.Rows.boot_isinstance (pa_cons (pv 1) (pa_cons (pe_bltn (v := .ty "str") (by rfl) T.n_str PyProof.Rows.boot_str rfl) pa_nil))) (nomark _)))))) pss_nil)
      (pss_one (ps_ret (pe_and (pe_callB (call_isiK' (K := K) rfl) (by rfl) T.n_isinstance PyProof.Rows.boot_isinstance (pa_cons (pv 0) (pa_cons (pe_bltn (v := .ty "int") (by rfl) T.n_int PyProof.Rows.boot_int rfl) pa_nil))) (pe_and (pe_cmpR (op_eqDK (K := K) rfl hr.units) (pe_callB (call_isiK' (K := K) rfl) (by rfl) T.n_isinstance PyProof.Rows.boot_isinstance (pa_cons (pv 0) (pa_cons (pe_bltn (v := .ty "bool") (by rfl) T.n_bool PyProof.Rows.boot_bool rfl) pa_nil))) (pe_callB (call_isiK' (K := K) rfl) (by rfl) T.n_isinstance PyProof.Rows.boot_isinstance (pa_cons (pv 1) (pa_cons (pe_bltn (v := .ty "bool") (by rfl) T.n_bool PyProof.Rows.boot_bool rfl) pa_nil))) (nomark _)) (pe_one (pe_cmpR (op_eqDK (K := K) rfl hr.units) (pv 0) (pv 1) (nomark _))))))))), ?rd⟩)
  case len => intro a h; rfl
  case rd =>
    rintro d ⟨ds, hd, hz, hs⟩ C _
    (try dsimp only [cxOf, Cx.nox, Cx.wish]); show WS K C _ [some (.dat _), some (.dat _), none] _
    repeat walk_at "we"
    have hn : (isTupD d || isListD d) = true := by rcases hd with rfl | rfl <;> rfl
    rw [hn]
    refine ⟨fun _ => ?_, (fun h => nomatch h)⟩
    repeat walk_at "we"
    rw [hn]
    refine ⟨(fun h => nomatch h), fun _ => ?_⟩
    repeat walk_at "we"
    refine rd_neD rfl rfl ?_
    repeat walk_at "we"
    rw [eqv_bool, beq_self_eq_true]
    refine ⟨(fun h => nomatch h), fun _ => ?_⟩
    repeat walk_at "we"
    refine cd_len hd.symm ?_
    repeat walk_at "we"
    refine cd_len hd.symm ?_
    repeat walk_at "we"
    refine rd_neD rfl rfl ?_
    repeat walk_at "we"
    rw [eqv_int, decide_eq_true rfl]
    refine ⟨(fun h => nomatch h), fun _ => ?_⟩
    repeat walk_at "we"
    refine we_lcR ?_
    repeat walk_at "we"
    refine cd_len hd.symm ?_
    repeat walk_at "we"
    refine ⟨by omega, by omega, fun i acc => acc = [], rfl, ?_, (fun i acc e => by rw [e]; exact Nat.zero_le _), ?_⟩
    · rintro i acc hi rfl
      show WT K C _ [some (.dat d), some (.dat d), some (.dat (.int (i : Int)))] _
      have hi' : i < ds.length := by omega
      have hat : atI ds (i : Int) = some ds[i] := atI_nat (List.getElem?_eq_getElem hi')
      repeat walk_at "we"
      refine rd_ixS hd hat ?_
      repeat walk_at "we"
      refine rd_ixS hd hat ?_
      repeat walk_at "we"
      refine ⟨hs _ (List.getElem_mem hi'), ?_⟩
      rintro _ rfl
      exact ⟨true, rfl, (fun z => nomatch z), fun _ => rfl⟩
    · rintro acc rfl
      repeat walk_at "we"
      refine rd_eqD rfl rfl ?_
      rfl
theorem ok_false' {n : Nat} {f : Addr} {fd : FuncData} {ps : List Str} : FnOk P w K mg base CX0 n f fd ps (fun _ _ _ _ => False) := ok_false.mono (Nat.zero_le n)
theorem spD_or {α : Type} {enc : α → List D} {A B : α → Prop} {Rl : α → D → Prop} {n : Nat} {f : Addr} {fd : FuncData} {ps : List Str} (h1 : FnOk P w K mg base CX0 n f fd ps (spD K enc A Rl)) (h2 : FnOk P w K mg base CX0 n f fd ps (spD K enc B Rl)) :
    FnOk P w K mg base CX0 n f fd ps (spD K enc (fun a => A a ∨ B a) Rl) :=
  ⟨fun vs H Q E ⟨a, S, e, d, p, q⟩ => by
    rcases p with p | p
    · exact h1.len vs H Q E ⟨a, S, e, d, p, q⟩
    · exact h2.len vs H Q E ⟨a, S, e, d, p, q⟩, fun A' outer s H args us vs Q E hr he hb hv ⟨a, S, e, d, p, q⟩ => by
    rcases p with p | p
    · exact h1.run A' outer s H args us vs Q E hr he hb hv ⟨a, S, e, d, p, q⟩
    · exact h2.run A' outer s H args us vs Q E hr he hb hv ⟨a, S, e, d, p, q⟩⟩
theorem alike_n (T : Tx K mg) : ∀ n : Nat, FnOk P w K mg base CX0 (n + 1) (He.fAd K ("_law_alike", none)) (fdK K "_law_alike") ["found", "due"] (sp_alike K n)
  | 0 => alike0 T ok_false
  | n + 1 => spD_or (alike0 T (ok_false' (n := n + 1))) (alike1 T (alike_n T n))
abbrev sp_law_alike (K : PySem.W.Frag) : Sp := sp_alike K 3
theorem ok_law_alike (T : Tx K mg) : FnOk P w K mg base CX0 4 (He.fAd K ("_law_alike", none)) (fdK K "_law_alike") ["found", "due"] (sp_law_alike K) := alike_n T 3

abbrev N_law_order : List Str := ["a", "b", "found"]
theorem sc_law_order : FnScope N_law_order ["a", "b"] (defScope s_law_order) := ⟨rfl, rfl, rfl, by decide +kernel, rfl, by decide +kernel, by decide +kernel⟩
theorem b_law_order (T : Tx K mg) : Binds K (fdK K "_law_order") ["a", "b"] [] := T.d_law_order.bindsN fun _ _ _ _ _ _ us hl => match us, hl with | [_, _], _ => rfl

abbrev sp_law_order (K : PySem.W.Frag) : Sp := spD K (fun a : P3 × P3 => [pt a.1, pt a.2]) (fun a => BP 100000 a.1 ∧ BP 100000 a.2) (fun a r => r = .int (ord a.1 a.2))
theorem ok_law_order (T : Tx K mg) : FnOk P w K mg base CX0 2 (He.fAd K ("_law_order", none)) (fdK K "_law_order") ["a", "b"] (sp_law_order K) := by
  have G_law_sign := ok_law_sign (P := P) (w := w) (base := base) T
  refine okD T.d_law_order sc_law_order ?len (fun cdv A outer s H E hr => ⟨_, (pss_cons (ps_set (i := 2) sc_law_order.nd rfl (by first | exact Or.inl rfl | exact Or.inr rfl) (pe_call G_law_sign (hr.mono (by first | decide | exact Nat.le_refl _)) (by rfl) T.g_law_sign T.d_law_sign.kp (b_law_sign T) .nil pass0 (pa_cons (pe_op op_sub (pe_op op_mulW (pe_ix (ix_seqK (K := K) rfl) (pv 0) pe_int (fun _ _ => rfl)) (pe_ix (ix_seqK (K := K) rfl) (pv 1) pe_int (fun _ _ => rfl))) (pe_op op_mulW (pe_ix (ix_seqK (K := K) rfl) (pv 1) pe_int (fun _ _ => rfl)) (pe_ix (ix_seqK (K := K) rfl) (pv 0) pe_int (fun _ _ => rfl)))) pa_nil)))
      (pss_one (ps_ret (pe_ifExp (pt_cmpR (op_neDK (K := K) rfl hr.units) (pv 2) pe_int (nomark _)) (pv 2) (pe_call G_law_sign (hr.mono (by first | decide | exact Nat.le_refl _)) (by rfl) T.g_law_sign T.d_law_sign.kp (b_law_sign T) .nil pass0 (pa_cons (pe_op op_sub (pe_op op_mulW (pe_ix (ix_seqK (K := K) rfl) (pv 0) pe_int (fun _ _ => rfl)) (pe_ix (ix_seqK (K := K) rfl) (pv 1) pe_int (fun _ _ => rfl))) (pe_op op_mulW (pe_ix (ix_seqK (K := K) rfl) (pv 1) pe_int (fun _ _ => rfl)) (pe_ix (ix_seqK (K := K) rfl) (pv 0) pe_int (fun _ _ => rfl)))) pa_nil)))))), ?rd⟩)
  case len =>
    intro a h; rfl

  case rd =>
  rintro ⟨⟨u0, u1, u2⟩, ⟨v0, v1, v2⟩⟩ ⟨⟨h1, h2, h3⟩, ⟨h4, h5, h6⟩⟩ C _
  (try dsimp only [cxOf, Cx.nox, Cx.wish]); show WS K C _ [some (.dat _), some (.dat _), none] _
  simp only at h1 h2 h3 h4 h5 h6
  repeat walk_at "we"
  refine ⟨trivial, ?_⟩
  rintro _ rfl
  repeat walk_at "we"
  refine rd_neD rfl rfl ?_
  repeat walk_at "we"
  rw [eqv_int]
  refine ⟨fun h => ?_, fun h => ?_⟩
  · repeat walk_at "we"
    show PyData.int _ = PyData.int (if _ then _ else _)
    rw [if_pos (by simpa using h)]
  · repeat walk_at "we"
    refine ⟨trivial, ?_⟩
    rintro _ rfl
    show PyData.int _ = PyData.int (if _ then _ else _)
    rw [if_neg (by simpa using h)]

abbrev N_law_ordered : List Str := ["points", "found", "p", "at", "q"]
theorem sc_law_ordered : FnScope N_law_ordered ["points"] (defScope s_law_ordered) := ⟨rfl, rfl, rfl, by decide +kernel, rfl, by decide +kernel, by decide +kernel⟩
theorem b_law_ordered (T : Tx K mg) : Binds K (fdK K "_law_ordered") ["points"] [] := T.d_law_ordered.bindsN fun _ _ _ _ _ _ us hl => match us, hl with | [_], _ => rfl
theorem cut_sorted {p : P3} {f : P3 → Bool} : ∀ {qs : List P3}, qs.Pairwise Lx → (∀ q ∈ qs, (f q = true ∧ Lx q p) ∨ (f q = false ∧ Lx p q)) →
    (∀ q ∈ qs.take (qs.filter f).length, Lx q p) ∧ ∀ q ∈ qs.drop (qs.filter f).length, Lx p q
  | [], _, _ => ⟨fun q h => (by simp at h), fun q h => (by simp at h)⟩
  | x :: qs, hs, ht => by
    rw [List.pairwise_cons] at hs
    obtain ⟨ih1, ih2⟩ := cut_sorted hs.2 fun q hq => ht q (List.mem_cons_of_mem _ hq)
    rcases ht x (by simp) with ⟨hf, hx⟩ | ⟨hf, hx⟩
    · rw [List.filter_cons_of_pos hf, List.length_cons, List.take_succ_cons, List.drop_succ_cons]
      refine ⟨fun q hq => ?_, ih2⟩
      rcases List.mem_cons.mp hq with rfl | hq
      · exact hx
      · exact ih1 q hq
    · have hno : ∀ q ∈ x :: qs, ¬ (f q = true) := fun q hq h => by
        rcases ht q hq with ⟨_, h⟩ | ⟨h', _⟩
        · rcases List.mem_cons.mp hq with rfl | hq
          · exact hx.irrefl h
          · exact hx.irrefl ((hs.1 q hq).trans h)
        · rw [h'] at h; cases h
      rw [List.filter_eq_nil_iff.mpr hno]
      refine ⟨fun q hq => (by simp at hq), fun q hq => ?_⟩
      rcases List.mem_cons.mp hq with rfl | hq
      · exact hx
      · exact hx.trans (hs.1 q hq)
theorem ins_sorted {p : P3} {f : P3 → Bool} {qs : List P3} (hs : qs.Pairwise Lx) (ht : ∀ q ∈ qs, (f q = true ∧ Lx q p) ∨ (f q = false ∧ Lx p q)) :
    (qs.take (qs.filter f).length ++ [p] ++ qs.drop (qs.filter f).length).Pairwise Lx ∧ (qs.take (qs.filter f).length ++ [p] ++ qs.drop (qs.filter f).length).Perm (qs ++ [p]) := by
  obtain ⟨h1, h2⟩ := cut_sorted hs ht
  generalize (qs.filter f).length = n at h1 h2
  constructor
  · rw [List.append_assoc, List.pairwise_append]
    have hs' := hs
    rw [← List.take_append_drop n qs, List.pairwise_append] at hs'
    refine ⟨hs'.1, ?_, ?_⟩
    · rw [List.singleton_append, List.pairwise_cons]
      exact ⟨h2, hs'.2.1⟩
    · intro a ha b hb
      rw [List.singleton_append] at hb
      rcases List.mem_cons.mp hb with hb | hb
      · rw [hb]; exact h1 a ha
      · exact hs'.2.2 a ha b hb
  · rw [List.append_assoc]
    refine (List.Perm.append_left _ List.perm_append_comm).trans ?_
    rw [← List.append_assoc, List.take_append_drop]
/-- before p -/
def befB (p : P3) : D → Bool
  | .tuple [.int x, .int y, .int w] => decide (ord (x, y, w) p < 0)
  | _ => false
theorem cutD_fromG {ps : List P3} {k : Nat} (hk : k ≤ ps.length) : cutD (ps.map pt) (some (k : Int)) none = (ps.drop k).map pt := by
  unfold cutD
  rw [HT.sIx_nat, HT.sIx_none, List.length_map, Nat.min_eq_left hk]
  rw [List.take_of_length_le (by rw [List.length_drop, List.length_map]; exact Nat.le_refl _), List.map_drop]

abbrev sp_law_ordered (K : PySem.W.Frag) : Sp := spD K (fun ps : List P3 => [.list (ps.map pt)]) (fun ps => ps.length ≤ 100 ∧ ps.Nodup ∧ ∀ p ∈ ps, Nm p ∧ BP 10000 p) (fun ps r => ∃ qs : List P3, r = .list (qs.map pt) ∧ qs.Pairwise Lx ∧ qs.Perm ps)
theorem ok_law_ordered (T : Tx K mg) : FnOk P w K mg base CX0 3 (He.fAd K ("_law_ordered", none)) (fdK K "_law_ordered") ["points"] (sp_law_ordered K) := by
  have G_law_order := ok_law_order (P := P) (w := w) (base := base) T
  refine okD T.d_law_ordered sc_law_ordered ?len (fun cdv A outer s H E hr => ⟨_, (pss_cons (ps_set (i := 1) sc_law_ordered.nd rfl (by first | exact Or.inl rfl | exact Or.inr rfl) (pe_lst pa_nil))
      (pss_cons (ps_for PassesOwn.never rfl (pi_listK (K := K) rfl (pv 0)) (pg_name (i := 2) sc_law_ordered.nd rfl (by first | exact Or.inl rfl | exact Or.inr rfl)) (pss_cons (ps_set (i := 3) sc_law_ordered.nd rfl (by first | exact Or.inl rfl | exact Or.inr rfl) (pe_callB (call_lenK (K := K) rfl) (by rfl) T.n_len PySem.boot_len (pa_cons (pe_lc (by rfl) sc_law_ordered.nd (pi_listK (K := K) rfl (pv 1)) (blkOk_by (own := [("q", 4)]) (N := N_law_ordered) (sc := defScope s_law_ordered) (by decide +kernel)) (fun _ _ _ _ _ => (pg_name (i := 4) sc_law_ordered.nd rfl (by first | exact Or.inl rfl | exact Or.inr rfl))) (fun _ _ _ _ _ => pts_one (pt_cmpR op_lt (pe_call G_law_order (hr.mono (by first | decide | exact Nat.le_refl _)) (by rfl) T.g_law_order T.d_law_order.kp (b_law_order T) .nil pass0 (pa_cons (pv 4) (pa_cons (pv 2) pa_nil))) pe_int (nomark _))) (fun _ _ _ _ _ => (pv 4))) pa_nil)))
      (pss_one (ps_set (i := 1) sc_law_ordered.nd rfl (by first | exact Or.inl rfl | exact Or.inr rfl) (pe_op op_cat (pe_op op_cat (pe_slice (sl_listK (K := K) rfl) (pv 1) po_none (po_some (pv 3))) (pe_lst (pa_cons (pv 2) pa_nil))) (pe_slice (sl_listK (K := K) rfl) (pv 1) (po_some (pv 3)) po_none))))))
      (pss_one (ps_ret (pv 1))))), ?rd⟩)
  case len =>
    intro a h; rfl

  case rd =>
  rintro ps ⟨hl, nd, hp⟩ C _
  (try dsimp only [cxOf, Cx.nox, Cx.wish]); show WS K C _ [some (.dat _), none, none, none, none] _
  refine ws_seq (ws_asg (we_lst (wa_nil ⟨Nat.zero_le _, ?_⟩)))
  show WS K C _ [some (.dat (.list (ps.map pt))), some (.dat (.list [])), none, none, none] _
  refine ws_seq (ws_for (wi_list ?_))
  repeat walk_at "we"
  refine ⟨fun i e => ∃ qs x2 x3 x4, (qs.Pairwise Lx ∧ qs.Perm (ps.take i)) ∧ e = [some (.dat (.list (ps.map pt))), some (.dat (.list (qs.map pt))), x2, x3, x4], ⟨[], none, none, none, ⟨.nil, .nil⟩, rfl⟩, ?_, ?_⟩
  · rintro i d e hi ⟨qs, x2, x3, x4, ⟨hs, hq⟩, rfl⟩
    obtain ⟨p, hpi, rfl⟩ := map_atR hi
    have hpm := List.mem_of_getElem? hpi
    have hil := (List.getElem?_eq_some_iff.mp hpi).1
    have hql : qs.length ≤ 100 := by rw [hq.length_eq, List.length_take]; omega
    have hno : p ∉ qs := fun z => nodup_takeR nd hpi (hq.mem_iff.mp z)
    have hqm : ∀ q ∈ qs, Nm q ∧ BP 10000 q := fun q hqq => hp q (List.mem_of_mem_take (hq.mem_iff.mp hqq))
    have htr : ∀ q ∈ qs, (decide (ord q p < 0) = true ∧ Lx q p) ∨ (decide (ord q p < 0) = false ∧ Lx p q) := fun q hqq => by
      have ng := ord_neg (hqm q hqq).1 (hp p hpm).1
      rcases ord_tri (hqm q hqq).1 (hp p hpm).1 with h | h | h
      · exact .inl ⟨decide_eq_true (ng.mpr h), h⟩
      · exact .inr ⟨decide_eq_false fun z => h.irrefl (ng.mp z), h⟩
      · exact absurd (h ▸ hqq) hno
    obtain ⟨i1, i2⟩ := ins_sorted (f := fun q => decide (ord q p < 0)) hs htr
    have hfl : (qs.filter fun q => decide (ord q p < 0)).length ≤ qs.length := List.length_filter_le _ _
    refine wg_name ?_
    show WS K C _ [some (.dat (.list (ps.map pt))), some (.dat (.list (qs.map pt))), some (.dat (pt p)), x3, x4] _
    refine ws_seq (ws_asg (WE.imp (Ψ := fun v => v = .int (((qs.filter fun q => decide (ord q p < 0)).length : Nat) : Int)) ?at_ ?_))
    case at_ =>
      repeat walk_at "we"
      refine we_filter (by walk_at "og") (fun d => d) (befB p) (wi_list ?_)
      repeat walk_at "we"
      refine ⟨by rw [List.length_map]; omega, ?_, ?_⟩
      · rintro j d hj
        obtain ⟨q, hqj, rfl⟩ := map_atR hj
        have hqq := List.mem_of_getElem? hqj
        refine wg_name ?_
        show WT K C _ [some (.dat (.list (ps.map pt))), some (.dat (.list (qs.map pt))), some (.dat (pt p)), x3, some (.dat (pt q))] _
        repeat walk_at "we"
        refine ⟨(q, p), rfl, ⟨(hqm q hqq).2.mono (by decide), (hp p hpm).2.mono (by decide)⟩, ?_⟩
        rintro _ rfl
        repeat walk_at "we"
        refine ⟨rfl, fun _ => ?_⟩
        repeat walk_at "we"
        rfl
      have key : ((List.filter (befB p) (qs.map pt)).map fun d => d) = ((qs.filter fun q => decide (ord q p < 0)).map pt) := by
        rw [List.map_id', List.filter_map]
        rfl
      rw [key]
      refine wa_nil (cd_len (.inl rfl) ?_)
      rw [List.length_map]
    rintro _ rfl
    generalize (qs.filter fun q => decide (ord q p < 0)).length = n at i1 i2 hfl
    show WS K C _ [some (.dat (.list (ps.map pt))), some (.dat (.list (qs.map pt))), some (.dat (pt p)), some (.dat (.int (n : Int))), x4] _
    repeat walk_at "we"
    refine we_slL ?_
    repeat walk_at "we"
    refine wp_none (wp_some ?_)
    repeat walk_at "we"
    rw [cutD_toG]
    repeat walk_at "we"
    refine rd_catL (by rw [List.length_map, List.length_take]; show _ + 1 ≤ _; omega) ?_
    refine we_slL ?_
    repeat walk_at "we"
    refine wp_some ?_
    repeat walk_at "we"
    refine wp_none ?_
    rw [cutD_fromG hfl]
    have eq : (qs.take n).map pt ++ [pt p] ++ (qs.drop n).map pt = (qs.take n ++ [p] ++ qs.drop n).map pt := by simp
    have hlen : (qs.take n ++ [p] ++ qs.drop n).length = qs.length + 1 := by simp; omega
    refine rd_catL (by rw [← List.length_append, eq, List.length_map, hlen]; omega) ?_
    rw [eq]
    refine ⟨_, _, _, _, ⟨i1, i2.trans ?_⟩, rfl⟩
    rw [take_snoc hpi]
    exact hq.append_right _
  rintro e ⟨qs, x2, x3, x4, ⟨hs, hq⟩, rfl⟩
  rw [List.length_map, List.take_length] at hq
  repeat walk_at "we"
  exact ⟨hs, hq⟩

abbrev N_law : List Str := ["script", "row", "points", "p", "lines", "corners", "i", "k", "pairs", "m", "j", "due", "a", "b", "high", "q", "line"]
theorem sc_law : FnScope N_law ["script"] (defScope s_law) := ⟨rfl, rfl, rfl, by decide +kernel, rfl, by decide +kernel, by decide +kernel⟩
theorem b_law (T : Tx K mg) : Binds K (fdK K "law") ["script"] [] := T.d_law.bindsN fun _ _ _ _ _ _ us hl => match us, hl with | [_], _ => rfl
/-- the names of the comprehension that holds another one -/
def NSC_law : Scope := { kind := .function, names := [(".0", .local), ("p", .cell), ("len", .globalImplicit), ("k", .cell), ("lines", .cell)], isGenerator := false, isCoroutine := false }
theorem det_sw1 (p q r : P3) : det q p r = - det p q r := by
  obtain ⟨a, b, c⟩ := p
  obtain ⟨d, e, f⟩ := q
  obtain ⟨g, h, i⟩ := r
  simp only [det]
  grind
theorem det_sw2 (p q r : P3) : det p r q = - det p q r := by
  obtain ⟨a, b, c⟩ := p
  obtain ⟨d, e, f⟩ := q
  obtain ⟨g, h, i⟩ := r
  simp only [det]
  grind
theorem NoL.mem {ps : List P3} (h : NoL ps) {p q r : P3} (hp : p ∈ ps) (hq : q ∈ ps) (hr : r ∈ ps) (h1 : p ≠ q) (h2 : p ≠ r) (h3 : q ≠ r) : det p q r ≠ 0 := by
  obtain ⟨i, hi⟩ := List.mem_iff_getElem?.mp hp
  obtain ⟨j, hj⟩ := List.mem_iff_getElem?.mp hq
  obtain ⟨k, hk⟩ := List.mem_iff_getElem?.mp hr
  have n1 : i ≠ j := fun e => h1 (by subst e; exact Option.some.inj (hi.symm.trans hj))
  have n2 : i ≠ k := fun e => h2 (by subst e; exact Option.some.inj (hi.symm.trans hk))
  have n3 : j ≠ k := fun e => h3 (by subst e; exact Option.some.inj (hj.symm.trans hk))
  rcases Nat.lt_or_gt_of_ne n1 with a | a <;> rcases Nat.lt_or_gt_of_ne n2 with b | b <;> rcases Nat.lt_or_gt_of_ne n3 with c | c
  · exact h i j k p q r a c hi hj hk
  · have := h i k j p r q b c hi hk hj
    rw [det_sw2 p q r] at this
    omega
  · omega
  · have := h k i j r p q b a hk hi hj
    rw [det_sw1 p r q, det_sw2 p q r] at this
    omega
  · have := h j i k q p r a b hj hi hk
    rw [det_sw1 p q r] at this
    omega
  · omega
  · have := h j k i q r p c b hj hk hi
    rw [det_sw2 q p r, det_sw1 p q r] at this
    omega
  · have := h k j i r q p c a hk hj hi
    rw [det_sw1 q r p, det_sw2 q p r, det_sw1 p q r] at this
    omega
/-- the points that the lines are made of -/
def PtOk (pts : List P3) : Prop := (pts.map fun p => p.1).Nodup ∧ (∀ p ∈ pts, G1 p) ∧ ∀ p q r, p ∈ pts → q ∈ pts → r ∈ pts → p ≠ q → p ≠ r → q ≠ r → det p q r ≠ 0
theorem PtOk.vp {pts : List P3} (h : PtOk pts) {p : P3} (hp : p ∈ pts) : VP p := by
  obtain ⟨h1, h2, h3⟩ := h.2.1 p hp
  exact VP.of (h.2.1 p hp).nm (by omega) (by omega) (by rw [h1]; decide)
def firstD : D → D
  | .tuple [.int x, _, _] => .int x
  | _ => .none
theorem any_int (ns : List Int) (i : Int) : ((ns.map PyData.int).any fun z => PyData.eqv z (.int i)) = decide (i ∈ ns) := by
  induction ns with
  | nil => rfl
  | cons n ns ih =>
    simp only [List.map_cons, List.any_cons, ih, eqv_int]
    by_cases h1 : n = i <;> by_cases h2 : i ∈ ns <;> simp [h1, h2, eq_comm]
    exact fun e => h1 e.symm
theorem shaped_ints (ns : List Int) : SeqAt.shaped (.list (ns.map PyData.int)) = true := by
  have l : ∀ ns : List Int, PyData.canLayAll0 (ns.map PyData.int) = true := fun ns => by
    induction ns with
    | nil => simp [PyData.canLayAll0]
    | cons n ns ih =>
      rw [List.map_cons, PyData.canLayAll0, ih]
      rfl
  have d : ∀ ns : List Int, PyData.depthAll (ns.map PyData.int) ≤ 2 := fun ns => by
    induction ns with
    | nil => simp [PyData.depthAll]
    | cons n ns ih =>
      rw [List.map_cons, PyData.depthAll]
      have : PyData.depth (.int n) ≤ 2 := by simp [PyData.depth]
      omega
  have h2 : PyData.depth (.list (ns.map PyData.int)) ≤ 64 := by
    rw [PyData.depth]
    have := d ns
    omega
  unfold SeqAt.shaped
  rw [PyData.canLay0, l, decide_eq_true h2]
  rfl
def lineD : D → D
  | .tuple [.int x, .int y, .int _] => Ln (Rat.divInt x 1, Rat.divInt (0 - y) 1)
  | _ => .none
theorem line_dp {p : P3} (h : G1 p) : lineD (pt p) = Ln (dpL p) := by
  obtain ⟨x, y, w⟩ := p
  obtain ⟨h1, _, _⟩ := h
  simp only at h1
  subst h1
  show Ln (Rat.divInt x 1, Rat.divInt (0 - y) 1) = Ln (Rat.divInt x 1, - Rat.divInt y 1)
  rw [Int.zero_sub, neg_divInt0]
theorem dp_bd {p : P3} (h : G1 p) : QB 12 (dpL p).1 ∧ QB 12 (dpL p).2 := by
  obtain ⟨h1, h2, h3⟩ := h
  refine ⟨QB.of (by omega) (show p.1.natAbs < 2 ^ 12 by omega) (show p.2.2.natAbs < 2 ^ 12 by rw [h1]; decide), QB.neg (QB.of (by omega) (show p.2.1.natAbs < 2 ^ 12 by omega) (show p.2.2.natAbs < 2 ^ 12 by rw [h1]; decide))⟩
theorem dp_inj {p q : P3} (hp : G1 p) (hq : G1 q) (h : (dpL p).1 = (dpL q).1) : p.1 = q.1 := by
  have := (divInt_eq' (a := p.1) (c := q.1) hp.nm.1 hq.nm.1).mp h
  rw [hp.1, hq.1] at this
  omega
theorem PtOk.ls {pts : List P3} (h : PtOk pts) (h1 : 1 ≤ pts.length) (h7 : pts.length ≤ 7) : LsOk (pts.map dpL) := by
  refine ⟨by rw [List.length_map]; exact ⟨h1, h7⟩, ?_, fun l hl => ?_⟩
  · rw [List.map_map]
    have nd := List.pairwise_map.mp h.1
    refine List.pairwise_map.mpr (nd.imp_of_mem ?_)
    intro a b ha hb hab e
    exact hab (dp_inj (h.2.1 a ha) (h.2.1 b hb) e)
  · obtain ⟨p, hp, rfl⟩ := List.mem_map.mp hl
    obtain ⟨q1, q2⟩ := dp_bd (h.2.1 p hp)
    exact ⟨q1.mono (by decide), q2.mono (by decide)⟩
theorem divInt_1 (a : Int) : Rat.divInt a 1 = (a : Rat) := by
  rw [divInt_eq, show ((1 : Int) : Rat) = 1 from rfl]
  grind
theorem half_bd {l m : Rat × Rat} {a0 b0 a1 b1 v : Int} (e0 : l.1 = Rat.divInt a0 1) (e1 : l.2 = Rat.divInt b0 1) (e2 : m.1 = Rat.divInt a1 1) (e3 : m.2 = Rat.divInt b1 1) (hne : l.1 ≠ m.1)
    (ha0 : Bd 7 a0) (ha1 : Bd 7 a1) (hb0 : Bd 12 b0) (hb1 : Bd 12 b1) (hv : Bd 3 v) :
    QB 24 (qy (crn l m) + -(Rat.divInt (2 * v + 1) 2) * qx (crn l m)) := by
  have hd : a0 - a1 ≠ 0 := fun z => hne (by rw [e0, e2, show a0 = a1 by omega])
  have q0 : l.1 = (a0 : Rat) := by rw [e0, divInt_1]
  have q1 : l.2 = (b0 : Rat) := by rw [e1, divInt_1]
  have q2 : m.1 = (a1 : Rat) := by rw [e2, divInt_1]
  have q3 : m.2 = (b1 : Rat) := by rw [e3, divInt_1]
  have hd' : (a0 : Rat) - (a1 : Rat) ≠ 0 := by exact_mod_cast hd
  have h2 : 2 * (a0 - a1) ≠ 0 := by omega
  have e : qy (crn l m) + -(Rat.divInt (2 * v + 1) 2) * qx (crn l m) = Rat.divInt (2 * (a0 * (b1 - b0) + b0 * (a0 - a1)) - (2 * v + 1) * (b1 - b0)) (2 * (a0 - a1)) := by
    rw [crn, pq_qx, pq_qy, crx, q0, q1, q2, q3, divInt_eq, divInt_eq]
    simp only [Rat.intCast_mul, Rat.intCast_sub, Rat.intCast_add]
    have t2 : ((2 : Int) : Rat) = 2 := rfl
    have t1 : ((1 : Int) : Rat) = 1 := rfl
    rw [t1, t2]
    grind
  rw [e]
  have two : Bd 2 (2 : Int) := by decide
  have one : Bd 1 (1 : Int) := by decide
  have db := hb1.sub hb0
  have da := ha0.sub ha1
  refine QB.of h2 (((two.mul ((ha0.mul db).add (hb0.mul da))).sub (((two.mul hv).add one).mul db)).mono (by decide)) ((two.mul da).mono (by decide))
theorem half_ne {q : Rat} {a v : Int} (e : q = Rat.divInt a 1) : Rat.divInt (2 * v + 1) 2 ≠ q := fun z => by
  rw [e] at z
  have := (divInt_eq' (a := 2 * v + 1) (b := 2) (c := a) (d := 1) (by decide) (by decide)).mp z
  omega
theorem dp_ints {p : P3} (h : G1 p) : (dpL p).1 = Rat.divInt p.1 1 ∧ (dpL p).2 = Rat.divInt (-p.2.1) 1 := by
  obtain ⟨h1, _, _⟩ := h
  refine ⟨?_, ?_⟩
  · show Rat.divInt p.1 p.2.2 = _
    rw [h1]
  · show - Rat.divInt p.2.1 p.2.2 = _
    rw [h1, neg_divInt0]
theorem LsOk.more {pts : List P3} (hP : PtOk pts) (h2 : 2 ≤ pts.length) (h6 : pts.length ≤ 6) {v : Int} (hv : Bd 3 v) :
    LsOk (pts.map dpL ++ [(Rat.divInt (2 * v + 1) 2, qy (crn (dpL pts[0]) (dpL pts[1])) + -(Rat.divInt (2 * v + 1) 2) * qx (crn (dpL pts[0]) (dpL pts[1])))]) := by
  have hL := hP.ls (by omega) (by omega)
  have g0 := hP.2.1 pts[0] (List.getElem_mem _)
  have g1 := hP.2.1 pts[1] (List.getElem_mem _)
  have at0 : (pts.map dpL)[0]? = some (dpL pts[0]) := by rw [List.getElem?_map, List.getElem?_eq_getElem (by omega)]; rfl
  have at1 : (pts.map dpL)[1]? = some (dpL pts[1]) := by rw [List.getElem?_map, List.getElem?_eq_getElem (by omega)]; rfl
  have hne := slope_ne hL.2.1 (by decide : (0 : Nat) ≠ 1) at0 at1
  have bx : ∀ p, G1 p → Bd 7 p.1 ∧ Bd 12 (-p.2.1) := fun p ⟨_, h2, h3⟩ => ⟨show p.1.natAbs < 2 ^ 7 by omega, show (-p.2.1).natAbs < 2 ^ 12 by omega⟩
  refine ⟨?_, ?_, fun l hl => ?_⟩
  · rw [List.length_append, List.length_map, List.length_singleton]
    omega
  · rw [List.map_append, List.map_singleton]
    refine List.nodup_append.mpr ⟨hL.2.1, by simp, ?_⟩
    intro a ha b hb e
    rw [List.mem_singleton] at hb
    obtain ⟨l, hl, rfl⟩ := List.mem_map.mp ha
    obtain ⟨p, hp, rfl⟩ := List.mem_map.mp hl
    exact half_ne (dp_ints (hP.2.1 p hp)).1 (hb.symm.trans e.symm)
  · rcases List.mem_append.mp hl with hl | hl
    · exact hL.2.2 l hl
    · rw [List.mem_singleton.mp hl]
      refine ⟨QB.of (by decide) ?_ (by decide), half_bd (dp_ints g0).1 (dp_ints g0).2 (dp_ints g1).1 (dp_ints g1).2 hne (bx _ g0).1 (bx _ g1).1 (bx _ g0).2 (bx _ g1).2 hv⟩
      have two : Bd 2 (2 : Int) := by decide
      have one : Bd 1 (1 : Int) := by decide
      exact ((two.mul hv).add one).mono (by decide)
theorem ex_tmsC {Φ : D → Prop} {M : Rat} {c : P3} (hM : QB 24 M) (hc : BP 200 c) (w0 : 0 < c.2.2) (h : Φ (rt (-M * qx c))) : ∃ a : (Int × Int) × (Int × Int), [.tuple [.int (0 - M.num), .int (M.den : Int)], .tuple [.int c.1, .int c.2.2]] = [pr a.1, pr a.2] ∧ (PrOk a.1 ∧ PrOk a.2) ∧ ∀ d, d = rt (qr a.1 * qr a.2) → Φ d := by
  have hr' := hM.ok (show 24 ≤ 1000 by decide)
  refine ⟨((0 - M.num, (M.den : Int)), (c.1, c.2.2)), rfl, ⟨⟨hr'.1, ?_, hr'.2.2⟩, ⟨Int.ne_of_gt w0, hc.1.mono (by decide), hc.2.2.mono (by decide)⟩⟩, ?_⟩
  · show Bd 1000 (0 - M.num)
    rw [Int.zero_sub]
    exact hr'.2.1.neg
  rintro _ rfl
  have e : qr (0 - M.num, (M.den : Int)) = -M := by
    rw [Int.zero_sub]
    show Rat.divInt (-M.num) _ = _
    rw [← Rat.neg_divInt, Rat.num_divInt_den]
  simp only [e]
  exact h
theorem ex_plsC {Φ : D → Prop} {q : Rat} {c : P3} (hq : QB 400 q) (hc : BP 200 c) (w0 : 0 < c.2.2) (h : Φ (rt (qy c + q))) : ∃ a : (Int × Int) × (Int × Int), [.tuple [.int c.2.1, .int c.2.2], rt q] = [pr a.1, pr a.2] ∧ (PrOk a.1 ∧ PrOk a.2) ∧ ∀ d, d = rt (qr a.1 + qr a.2) → Φ d := by
  refine ⟨((c.2.1, c.2.2), (q.num, (q.den : Int))), rfl, ⟨⟨Int.ne_of_gt w0, hc.2.1.mono (by decide), hc.2.2.mono (by decide)⟩, hq.ok (by decide)⟩, ?_⟩
  rintro _ rfl
  simp only [qr_self]
  exact h
/-- the corners of the pairs so far -/
def CorI (ls : List (Rat × Rat)) (i j : Nat) (cs : List P3) : Prop := cs.Nodup ∧ cs.length ≤ i * 7 + j ∧ ∀ p, p ∈ cs ↔ ∃ (a b : Nat) (l m : Rat × Rat), (a < i ∧ b < a ∨ a = i ∧ b < j) ∧ ls[a]? = some l ∧ ls[b]? = some m ∧ p = crn l m
theorem CorI.step {ls : List (Rat × Rat)} {i j : Nat} {cs : List P3} (h : CorI ls i j cs) {l m : Rat × Rat} (hi : ls[i]? = some l) (hj : ls[j]? = some m) :
    CorI ls i (j + 1) (if crn l m ∉ cs then cs ++ [crn l m] else cs) := by
  obtain ⟨h1, h2, h3⟩ := h
  have st : ∀ p, (∃ (a b : Nat) (l m : Rat × Rat), (a < i ∧ b < a ∨ a = i ∧ b < j + 1) ∧ ls[a]? = some l ∧ ls[b]? = some m ∧ p = crn l m) ↔ p ∈ cs ∨ p = crn l m := fun p => by
    rw [h3]
    constructor
    · rintro ⟨a, b, l', m', hc, ha, hb, e⟩
      by_cases hh : a = i ∧ b = j
      · obtain ⟨rfl, rfl⟩ := hh
        have e1 := Option.some.inj (hi.symm.trans ha)
        have e2 := Option.some.inj (hj.symm.trans hb)
        subst e1 e2
        exact .inr e
      · exact .inl ⟨a, b, l', m', by omega, ha, hb, e⟩
    · rintro (⟨a, b, l', m', hc, ha, hb, e⟩ | e)
      · exact ⟨a, b, l', m', by omega, ha, hb, e⟩
      · exact ⟨i, j, l, m, .inr ⟨rfl, by omega⟩, hi, hj, e⟩
  split
  · rename_i hn
    refine ⟨List.nodup_append.mpr ⟨h1, by simp, ?_⟩, by rw [List.length_append, List.length_singleton]; omega, fun p => ?_⟩
    · intro a ha b hb e
      rw [List.mem_singleton.mp hb] at e
      exact hn (e ▸ ha)
    · rw [st, List.mem_append, List.mem_singleton]
  · rename_i hn
    have hn : crn l m ∈ cs := Classical.byContradiction hn
    refine ⟨h1, by omega, fun p => ?_⟩
    rw [st]
    constructor
    · exact .inl
    · rintro (h | rfl)
      · exact h
      · exact hn
theorem CorI.next {ls : List (Rat × Rat)} {i : Nat} {cs : List P3} (h : CorI ls i i cs) (hi : i ≤ 7) : CorI ls (i + 1) 0 cs := by
  obtain ⟨h1, h2, h3⟩ := h
  refine ⟨h1, by omega, fun p => ?_⟩
  rw [h3]
  constructor
  · rintro ⟨a, b, l, m, hc, g⟩
    exact ⟨a, b, l, m, by omega, g⟩
  · rintro ⟨a, b, l, m, hc, g⟩
    exact ⟨a, b, l, m, by omega, g⟩
theorem CorI.all {ls : List (Rat × Rat)} (hL : LsOk ls) {cs : List P3} (h : CorI ls ls.length 0 cs) : ∀ p, p ∈ cs ↔ CorP ls p := fun p => by
  rw [h.2.2]
  constructor
  · rintro ⟨a, b, l, m, hc, ha, hb, e⟩
    have hab : b < a := by
      have := (List.getElem?_eq_some_iff.mp ha).1
      omega
    exact ⟨b, a, m, l, hab, hb, ha, by rw [e]; exact crn_swap (slope_ne hL.2.1 (Nat.ne_of_gt hab) ha hb)⟩
  · rintro ⟨b, a, m, l, hab, hb, ha, e⟩
    have := (List.getElem?_eq_some_iff.mp ha).1
    exact ⟨a, b, l, m, by omega, ha, hb, by rw [e]; exact crn_swap (slope_ne hL.2.1 (Nat.ne_of_lt hab) hb ha)⟩
theorem LsOk.cor {ls : List (Rat × Rat)} (hL : LsOk ls) {p : P3} (h : CorP ls p) : Nm p ∧ BP 200 p := by
  obtain ⟨i, j, l, m, hij, hi, hj, e⟩ := h
  obtain ⟨q1, q2⟩ := hL.2.2 l (List.mem_of_getElem? hi)
  obtain ⟨q3, q4⟩ := hL.2.2 m (List.mem_of_getElem? hj)
  rw [e]
  exact ⟨crn_nm l m, (crn_bd (slope_ne hL.2.1 (Nat.ne_of_lt hij) hi hj) q1 q2 q3 q4).1⟩
def abvB (p : P3) : D → Bool
  | .tuple [.tuple [.int a, .int b], .tuple [.int c, .int d]] => decide (0 < p.2.1 * b * d - a * p.1 * d - c * p.2.2 * b)
  | _ => false
theorem abv_num {l : Rat × Rat} {p : P3} (hp : 0 < p.2.2) : abvB p (Ln l) = decide (0 < (upQ l p).num) := by
  have h := hgt_eq (l := l) hp
  show decide (0 < p.2.1 * (l.1.den : Int) * (l.2.den : Int) - l.1.num * p.1 * (l.2.den : Int) - l.2.num * p.2.2 * (l.1.den : Int)) = _
  unfold hgt at h
  generalize p.2.1 * (l.1.den : Int) * (l.2.den : Int) - l.1.num * p.1 * (l.2.den : Int) - l.2.num * p.2.2 * (l.1.den : Int) = x at h ⊢
  rw [Bool.eq_iff_iff, decide_eq_true_eq, decide_eq_true_eq, ← Int.sign_eq_one_iff_pos, ← Int.sign_eq_one_iff_pos, h]
theorem abv_len {ls : List (Rat × Rat)} {p : P3} (hp : 0 < p.2.2) : ((List.filter (abvB p) (ls.map Ln)).map fun d => d).length = lev ls p := by
  rw [List.length_map, List.filter_map, List.length_map]
  unfold lev
  congr 1
  apply List.filter_congr
  intro l _
  show abvB p (Ln l) = _
  rw [abv_num hp, Bool.eq_iff_iff, decide_eq_true_eq, decide_eq_true_eq, ← Int.sign_eq_one_iff_pos]
  exact sign_one _
def levB (ls : List (Rat × Rat)) (k : Nat) : D → Bool
  | .tuple [.int x, .int y, .int w] => decide (lev ls (x, y, w) = k)
  | _ => false
theorem shp_int1 (n : Nat) (i : Int) : shp n (.int i) := match n with
  | 0 => .inr (.inr (.inl ⟨i, rfl⟩))
  | _ + 1 => .inl (.inr (.inr (.inl ⟨i, rfl⟩)))
theorem shp_ptsL (n : Nat) (ps : List P3) (h : ps.length ≤ 1000) : shp (n + 2) (.tuple (ps.map pt)) := .inr ⟨_, .inl rfl, by rw [List.length_map]; exact h, by
  intro x hx
  obtain ⟨p, _, rfl⟩ := List.mem_map.mp hx
  exact .inr ⟨_, .inl rfl, by simp, by
    intro x hx
    simp at hx
    rcases hx with rfl | rfl | rfl <;> exact shp_int1 _ _⟩⟩
theorem nodup_Lx {ps : List P3} (h : ps.Pairwise Lx) : ps.Nodup := h.imp fun hab e => by
  subst e
  exact hab.irrefl hab
theorem cor_len {ls : List (Rat × Rat)} {k : Nat} {qs cs : List P3} (hq : LevR ls k qs) (hn : cs.Nodup) (hc : ∀ p, p ∈ cs ↔ CorP ls p) : qs.length = (cs.filter fun p => decide (lev ls p = k)).length := by
  have h1 := nodup_Lx hq.1
  have h2 : (cs.filter fun p => decide (lev ls p = k)).Nodup := hn.filter _
  have h3 : ∀ p, p ∈ qs ↔ p ∈ cs.filter fun p => decide (lev ls p = k) := fun p => by
    rw [hq.2, List.mem_filter, hc, decide_eq_true_eq]
  exact ((List.perm_ext_iff_of_nodup h1 h2).mpr h3).length_eq
theorem g1_q {p : P3} (h : G1 p) : qx p = (p.1 : Rat) ∧ qy p = (p.2.1 : Rat) := by
  obtain ⟨h1, _, _⟩ := h
  unfold qx qy
  rw [h1, divInt_1, divInt_1]
  exact ⟨rfl, rfl⟩
theorem det_up {a b p c : P3} (ha : G1 a) (hb : G1 b) (hp : G1 p) (h1 : upQ (dpL a) c = 0) (h2 : upQ (dpL b) c = 0) : ((det a b p : Int) : Rat) = ((b.1 - a.1 : Int) : Rat) * upQ (dpL p) c := by
  obtain ⟨a1, a2⟩ := g1_q ha
  obtain ⟨b1, b2⟩ := g1_q hb
  obtain ⟨p1, p2⟩ := g1_q hp
  unfold upQ dpL at *
  simp only at h1 h2 ⊢
  rw [a1, a2] at h1
  rw [b1, b2] at h2
  rw [p1, p2]
  have e : det a b p = a.1 * (b.2.1 - p.2.1) + a.2.1 * (p.1 - b.1) + (b.1 * p.2.1 - b.2.1 * p.1) := by
    unfold det
    rw [ha.1, hb.1, hp.1]
    grind
  rw [e]
  simp only [Rat.intCast_mul, Rat.intCast_sub, Rat.intCast_add]
  generalize qx c = X at *
  generalize qy c = Y at *
  grind
theorem turn_up {a b p c : P3} (ha : G1 a) (hb : G1 b) (hp : G1 p) (h1 : upQ (dpL a) c = 0) (h2 : upQ (dpL b) c = 0) (hab : a.1 < b.1) : 0 < (det a b p).sign ↔ 0 < upQ (dpL p) c := by
  have e := det_up ha hb hp h1 h2
  have hd : (0 : Rat) < ((b.1 - a.1 : Int) : Rat) := by
    have : 0 < b.1 - a.1 := by omega
    exact_mod_cast this
  have s1 : 0 < (det a b p).sign ↔ 0 < det a b p := by
    constructor
    · intro h
      rcases Int.lt_trichotomy (det a b p) 0 with g | g | g
      · rw [Int.sign_eq_neg_one_of_neg g] at h; omega
      · rw [g] at h; exact absurd h (by decide)
      · exact g
    · intro h
      rw [Int.sign_eq_one_of_pos h]
      decide
  have s2 : 0 < det a b p ↔ (0 : Rat) < ((det a b p : Int) : Rat) := by
    constructor
    · intro h; exact_mod_cast h
    · intro h; exact_mod_cast h
  rw [s1, s2, e]
  constructor
  · intro h
    exact Classical.byContradiction fun z => by
      have z : upQ (dpL p) c ≤ 0 := by grind
      have := Rat.mul_nonneg (Rat.le_of_lt hd) (show 0 ≤ -upQ (dpL p) c by grind)
      grind
  · intro h
    exact Rat.mul_pos hd h
theorem crn_on2 {l m : Rat × Rat} (h : l.1 ≠ m.1) : upQ m (crn l m) = 0 := by
  rw [crn_swap h]
  exact crn_on m l
theorem PtOk.ne {pts : List P3} (h : PtOk pts) {i j : Nat} {p q : P3} (hij : i ≠ j) (hi : pts[i]? = some p) (hj : pts[j]? = some q) : p.1 ≠ q.1 := fun e => by
  have h1 : (pts.map fun p => p.1)[i]? = some p.1 := by rw [List.getElem?_map, hi]; rfl
  have h2 : (pts.map fun p => p.1)[j]? = some p.1 := by rw [List.getElem?_map, hj, e]; rfl
  have hl : i < (pts.map fun p => p.1).length := (List.getElem?_eq_some_iff.mp h1).1
  exact hij ((List.getElem?_inj hl h.1).mp (h1.trans h2.symm))
theorem cor_new {pts : List P3} (hP : PtOk pts) (hL : LsOk (pts.map dpL)) {i j : Nat} {cs : List P3} (hC : CorI (pts.map dpL) i j cs) (hji : j < i) {p q : P3} (hi : pts[i]? = some p) (hj : pts[j]? = some q) : crn (dpL p) (dpL q) ∉ cs := fun z => by
  obtain ⟨a, b, l, m, hc, ha, hb, e⟩ := (hC.2.2 _).mp z
  have gi : (pts.map dpL)[i]? = some (dpL p) := by rw [List.getElem?_map, hi]; rfl
  have gj : (pts.map dpL)[j]? = some (dpL q) := by rw [List.getElem?_map, hj]; rfl
  obtain ⟨r, hr, rfl⟩ : ∃ r, pts[a]? = some r ∧ l = dpL r := by
    rw [List.getElem?_map] at ha
    cases h : pts[a]? with
    | none => rw [h] at ha; cases ha
    | some r => rw [h] at ha; exact ⟨r, rfl, (Option.some.inj ha).symm⟩
  obtain ⟨t, ht, rfl⟩ : ∃ r, pts[b]? = some r ∧ m = dpL r := by
    rw [List.getElem?_map] at hb
    cases h : pts[b]? with
    | none => rw [h] at hb; cases hb
    | some r => rw [h] at hb; exact ⟨r, rfl, (Option.some.inj hb).symm⟩
  have hba : b < a := by omega
  have u1 := crn_on (dpL p) (dpL q)
  have u2 := crn_on2 (slope_ne hL.2.1 (Nat.ne_of_gt hji) gi gj)
  have u3 : upQ (dpL r) (crn (dpL p) (dpL q)) = 0 := by rw [e]; exact crn_on _ _
  have u4 : upQ (dpL t) (crn (dpL p) (dpL q)) = 0 := by rw [e]; exact crn_on2 (slope_ne hL.2.1 (Nat.ne_of_gt hba) ha hb)
  have mp := List.mem_of_getElem? hi
  have mq := List.mem_of_getElem? hj
  have key : ∀ (k : Nat) (s : P3), pts[k]? = some s → k ≠ i → k ≠ j → upQ (dpL s) (crn (dpL p) (dpL q)) = 0 → False := fun k s hk h1 h2 u => by
    have ms := List.mem_of_getElem? hk
    have n1 : p ≠ q := fun z => hP.ne (Nat.ne_of_gt hji) hi hj (by rw [z])
    have n2 : p ≠ s := fun z => hP.ne (fun y => h1 y.symm) hi hk (by rw [z])
    have n3 : q ≠ s := fun z => hP.ne (fun y => h2 y.symm) hj hk (by rw [z])
    have d := det_up (hP.2.1 p mp) (hP.2.1 q mq) (hP.2.1 s ms) u1 u2
    rw [u, Rat.mul_zero] at d
    exact hP.2.2 p q s mp mq ms n1 n2 n3 (by exact_mod_cast d)
  by_cases h1 : a = i ∨ a = j
  · by_cases h2 : b = i ∨ b = j
    · omega
    · exact key b t ht (fun z => h2 (.inl z)) (fun z => h2 (.inr z)) u4
  · exact key a r hr (fun z => h1 (.inl z)) (fun z => h1 (.inr z)) u3
def turnB (a b : P3) : D → Bool
  | .tuple [.int x, .int y, .int w] => decide (0 < (det a b (x, y, w)).sign)
  | _ => false
theorem turn_len {pts : List P3} (hP : PtOk pts) {a b c : P3} (ha : a ∈ pts) (hb : b ∈ pts) (h1 : upQ (dpL a) c = 0) (h2 : upQ (dpL b) c = 0) (hab : a.1 < b.1) :
    ((List.filter (turnB a b) (pts.map pt)).map fun d => d).length = lev (pts.map dpL) c := by
  rw [List.length_map, List.filter_map, List.length_map]
  unfold lev
  rw [List.filter_map, List.length_map]
  congr 1
  apply List.filter_congr
  intro p hp
  show decide (0 < (det a b p).sign) = decide (0 < upQ (dpL p) c)
  rw [Bool.eq_iff_iff, decide_eq_true_eq, decide_eq_true_eq]
  exact turn_up (hP.2.1 a ha) (hP.2.1 b hb) (hP.2.1 p hp) h1 h2 hab
/-- how many corners have h lines below -/
def cntL (ls : List (Rat × Rat)) (cs : List P3) (h : Nat) : Nat := (cs.filter fun p => decide (lev ls p = h)).length
theorem cntL_snoc (ls : List (Rat × Rat)) (cs : List P3) (c : P3) (h : Nat) : cntL ls (cs ++ [c]) h = cntL ls cs h + if lev ls c = h then 1 else 0 := by
  unfold cntL
  rw [List.filter_append, List.length_append]
  by_cases e : lev ls c = h
  · simp [e]
  · simp [e]
def cntD (ls : List (Rat × Rat)) (cs : List P3) (n : Nat) : List D := ((List.range n).map fun h => ((cntL ls cs h : Nat) : Int)).map PyData.int
theorem cntD_nil (ls : List (Rat × Rat)) (n : Nat) : cntD ls [] n = List.replicate n (.int 0) := by
  unfold cntD
  rw [List.map_map]
  apply List.ext_getElem?
  intro i
  rw [List.getElem?_map, List.getElem?_replicate]
  by_cases h : i < n
  · rw [if_pos h, List.getElem?_eq_getElem (by simpa using h)]
    rfl
  · rw [if_neg h, List.getElem?_eq_none (by simpa using h)]
    rfl
theorem cntD_len (ls : List (Rat × Rat)) (cs : List P3) (n : Nat) : (cntD ls cs n).length = n := by simp [cntD]
theorem cntD_at (ls : List (Rat × Rat)) (cs : List P3) {n h : Nat} (hh : h < n) : (cntD ls cs n)[h]? = some (.int ((cntL ls cs h : Nat) : Int)) := by simp [cntD, hh]
theorem cntD_set (ls : List (Rat × Rat)) (cs : List P3) (c : P3) (n : Nat) : (cntD ls cs n).set (lev ls c) (.int (((cntL ls cs (lev ls c) : Nat) : Int) + 1)) = cntD ls (cs ++ [c]) n := by
  apply List.ext_getElem?
  intro i
  rw [List.getElem?_set]
  by_cases h : i < n
  · rw [cntD_at ls (cs ++ [c]) h, cntD_len, cntL_snoc]
    by_cases e : lev ls c = i
    · subst e
      rw [if_pos rfl, if_pos h, if_pos rfl]
      rfl
    · rw [if_neg e, if_neg e, cntD_at ls cs h]
      rfl
  · have r1 : (cntD ls (cs ++ [c]) n)[i]? = none := List.getElem?_eq_none (by rw [cntD_len]; omega)
    have r2 : (cntD ls cs n)[i]? = none := List.getElem?_eq_none (by rw [cntD_len]; omega)
    rw [r1, r2, cntD_len]
    split
    · split
      · omega
      · rfl
    · rfl
def dualD : D → D
  | .tuple [.int x, .int y, .int w] => Ln (dpL (x, y, w))
  | _ => .none
theorem lev_le (ls : List (Rat × Rat)) (c : P3) : lev ls c ≤ ls.length := List.length_filter_le _ _
theorem eqv_ints (ns : List Int) : PyData.eqv (.list (ns.map PyData.int)) (.list (ns.map PyData.int)) = true := by
  induction ns with
  | nil => simp [PyData.eqv, PyData.eqvAll]
  | cons n ns ih =>
    simp only [PyData.eqv] at ih
    simp only [List.map_cons, PyData.eqv, PyData.eqvAll, ih]
    simp

theorem ok_law (T : Tx K mg) : FnOk P w K mg base CX0 9 (He.fAd K ("law", none)) (fdK K "law") ["script"] (spLaw K) := by
  have G_law_general := ok_law_general (P := P) (w := w) (base := base) T
  have G_law_taken := ok_law_taken (P := P) (w := w) (base := base) T
  have G_law_signed := ok_law_signed (P := P) (w := w) (base := base) T
  have G_law_ratio := ok_law_ratio (P := P) (w := w) (base := base) T
  have G_law_corner := ok_law_corner (P := P) (w := w) (base := base) T
  have G_law_plus := ok_law_plus (P := P) (w := w) (base := base) T
  have G_law_times := ok_law_times (P := P) (w := w) (base := base) T
  have G_law_above := ok_law_above (P := P) (w := w) (base := base) T
  have G_law_ordered := ok_law_ordered (P := P) (w := w) (base := base) T
  have G_law_alike := ok_law_alike (P := P) (w := w) (base := base) T
  have G_law_order := ok_law_order (P := P) (w := w) (base := base) T
  have G_law_turn := ok_law_turn (P := P) (w := w) (base := base) T
  have G_level_corners := ok_level_corners (P := P) (w := w) (base := base) T
  have G_dual_of_point := ok_dual_of_point (P := P) (w := w) (base := base) T
  refine okS T.d_law sc_law (fun vs H Q E ⟨_, _, e, _⟩ => by rw [e]; rfl) (fun cdv A outer s H E hr => ⟨_, (pss_cons (ps_set (i := 1) sc_law.nd rfl (by first | exact Or.inl rfl | exact Or.inr rfl) (pe_lst (pa_cons (pv 0) (pa_cons pe_int (pa_cons pe_int (pa_cons pe_int pa_nil))))))
      (pss_cons (ps_set (i := 2) sc_law.nd rfl (by first | exact Or.inl rfl | exact Or.inr rfl) (pe_lst pa_nil))
      (pss_cons (ps_for PassesOwn.never rfl (pi_tupK (K := K) rfl (pe_call G_law_general (hr.mono (by first | decide | exact Nat.le_refl _)) (by rfl) T.g_law_general T.d_law_general.kp (b_law_general T) .nil pass0 (pa_cons (pv 1) (pa_cons pe_int (pa_cons pe_int pa_nil))))) (pg_name (i := 3) sc_law.nd rfl (by first | exact Or.inl rfl | exact Or.inr rfl)) (pss_one (ps_set (i := 2) sc_law.nd rfl (by first | exact Or.inl rfl | exact Or.inr rfl) (pe_op op_cat (pv 2) (pe_ifExp (pt_cmpR (op_notInDK (K := K) rfl (room65 hr)) (pe_ix (ix_seqK (K := K) rfl) (pv 3) pe_int (fun _ _ => rfl)) (pe_lc (by rfl) sc_law.nd (pi_listK (K := K) rfl (pv 2)) (blkOk_by (own := [("q", 15)]) (N := N_law) (sc := defScope s_law) (by decide +kernel)) (fun _ _ _ _ _ => (pg_name (i := 15) sc_law.nd rfl (by first | exact Or.inl rfl | exact Or.inr rfl))) (fun _ _ _ _ _ => pts_nil) (fun _ _ _ _ _ => (pe_ix (ix_seqK (K := K) rfl) (pv 15) pe_int (fun _ _ => rfl)))) (by rfl)) (pe_lst (pa_cons (pv 3) pa_nil)) (pe_lst pa_nil))))))
      (pss_cons (ps_set (i := 4) sc_law.nd rfl (by first | exact Or.inl rfl | exact Or.inr rfl) (pe_lc (by rfl) sc_law.nd (pi_listK (K := K) rfl (pv 2)) (blkOk_by (own := [("p", 3)]) (N := N_law) (sc := defScope s_law) (by decide +kernel)) (fun _ _ _ _ _ => (pg_name (i := 3) sc_law.nd rfl (by first | exact Or.inl rfl | exact Or.inr rfl))) (fun _ _ _ _ _ => pts_nil) (fun _ _ _ _ _ => (pe_tup (pa_cons (pe_call G_law_ratio (hr.mono (by first | decide | exact Nat.le_refl _)) (by rfl) T.g_law_ratio T.d_law_ratio.kp (b_law_ratio T) .nil pass0 (pa_cons (pe_ix (ix_seqK (K := K) rfl) (pv 3) pe_int (fun _ _ => rfl)) (pa_cons pe_int pa_nil))) (pa_cons (pe_call G_law_ratio (hr.mono (by first | decide | exact Nat.le_refl _)) (by rfl) T.g_law_ratio T.d_law_ratio.kp (b_law_ratio T) .nil pass0 (pa_cons (pe_op op_sub pe_int (pe_ix (ix_seqK (K := K) rfl) (pv 3) pe_int (fun _ _ => rfl))) (pa_cons pe_int pa_nil))) pa_nil))))))
      (pss_cons (ps_if (PW.pt (pw_and (pt_cmpR (op_eqDK (K := K) rfl hr.units) (pe_call G_law_taken (hr.mono (by first | decide | exact Nat.le_refl _)) (by rfl) T.g_law_taken T.d_law_taken.kp (b_law_taken T) .nil pass0 (pa_cons (pv 1) (pa_cons pe_int pa_nil))) pe_int (nomark _)) (pw_and1 (pt_cmpR op_gt (pe_callB (call_lenK (K := K) rfl) (by rfl) T.n_len PySem.boot_len (pa_cons (pv 4) pa_nil)) pe_int (nomark _))))) (pss_cons (ps_par (i := 3) (j := 9) (by rfl) sc_law.nd rfl rfl (by decide) rfl rfl (pa_cons (pe_call G_law_corner (hr.mono (by first | decide | exact Nat.le_refl _)) (by rfl) T.g_law_corner T.d_law_corner.kp (b_law_corner T) .nil pass0 (pa_cons (pe_ix (ix_seqK (K := K) rfl) (pv 4) pe_int (fun _ _ => rfl)) (pa_cons (pe_ix (ix_seqK (K := K) rfl) (pv 4) pe_int (fun _ _ => rfl)) pa_nil))) (pa_cons (pe_call G_law_ratio (hr.mono (by first | decide | exact Nat.le_refl _)) (by rfl) T.g_law_ratio T.d_law_ratio.kp (b_law_ratio T) .nil pass0 (pa_cons (pe_op op_add (pe_op op_mulW pe_int (pe_call G_law_signed (hr.mono (by first | decide | exact Nat.le_refl _)) (by rfl) T.g_law_signed T.d_law_signed.kp (b_law_signed T) .nil pass0 (pa_cons (pv 1) (pa_cons pe_int pa_nil)))) pe_int) (pa_cons pe_int pa_nil))) pa_nil)) (by rfl))
      (pss_one (ps_expr (pe_bm PySem.F.plainAttrs_list PySem.F.slot_list_append PySem.F.type_list_append mt_append (pv 4) (pa_cons (pe_tup (pa_cons (pv 9) (pa_cons (pe_call G_law_plus (hr.mono (by first | decide | exact Nat.le_refl _)) (by rfl) T.g_law_plus T.d_law_plus.kp (b_law_plus T) .nil pass0 (pa_cons (pe_tup (pa_cons (pe_ix (ix_seqK (K := K) rfl) (pv 3) pe_int (fun _ _ => rfl)) (pa_cons (pe_ix (ix_seqK (K := K) rfl) (pv 3) pe_int (fun _ _ => rfl)) pa_nil))) (pa_cons (pe_call G_law_times (hr.mono (by first | decide | exact Nat.le_refl _)) (by rfl) T.g_law_times T.d_law_times.kp (b_law_times T) .nil pass0 (pa_cons (pe_tup (pa_cons (pe_op op_sub pe_int (pe_ix (ix_seqK (K := K) rfl) (pv 9) pe_int (fun _ _ => rfl))) (pa_cons (pe_ix (ix_seqK (K := K) rfl) (pv 9) pe_int (fun _ _ => rfl)) pa_nil))) (pa_cons (pe_tup (pa_cons (pe_ix (ix_seqK (K := K) rfl) (pv 3) pe_int (fun _ _ => rfl)) (pa_cons (pe_ix (ix_seqK (K := K) rfl) (pv 3) pe_int (fun _ _ => rfl)) pa_nil))) pa_nil))) pa_nil))) pa_nil))) pa_nil))))) pss_nil)
      (pss_cons (ps_set (i := 5) sc_law.nd rfl (by first | exact Or.inl rfl | exact Or.inr rfl) (pe_lst pa_nil))
      (pss_cons (ps_for PassesOwn.never rfl (pi_range1 (by rfl) T.n_range (pa_cons (pe_callB (call_lenK (K := K) rfl) (by rfl) T.n_len PySem.boot_len (pa_cons (pv 4) pa_nil)) pa_nil)) (pg_name (i := 6) sc_law.nd rfl (by first | exact Or.inl rfl | exact Or.inr rfl)) (pss_one (ps_for PassesOwn.never rfl (pi_range1 (by rfl) T.n_range (pa_cons (pv 6) pa_nil)) (pg_name (i := 10) sc_law.nd rfl (by first | exact Or.inl rfl | exact Or.inr rfl)) (pss_cons (ps_set (i := 3) sc_law.nd rfl (by first | exact Or.inl rfl | exact Or.inr rfl) (pe_call G_law_corner (hr.mono (by first | decide | exact Nat.le_refl _)) (by rfl) T.g_law_corner T.d_law_corner.kp (b_law_corner T) .nil pass0 (pa_cons (pe_ix (ix_seqK (K := K) rfl) (pv 4) (pv 6) (fun _ _ => rfl)) (pa_cons (pe_ix (ix_seqK (K := K) rfl) (pv 4) (pv 10) (fun _ _ => rfl)) pa_nil))))
      (pss_one (ps_set (i := 5) sc_law.nd rfl (by first | exact Or.inl rfl | exact Or.inr rfl) (pe_op op_cat (pv 5) (pe_ifExp (pt_cmpR (op_notInDK (K := K) rfl (room65 hr)) (pv 3) (pv 5) (by rfl)) (pe_lst (pa_cons (pv 3) pa_nil)) (pe_lst pa_nil)))))))))
      (pss_cons (ps_for PassesOwn.never rfl (pi_range1 (by rfl) T.n_range (pa_cons (pe_op op_add (pe_callB (call_lenK (K := K) rfl) (by rfl) T.n_len PySem.boot_len (pa_cons (pv 4) pa_nil)) pe_int) pa_nil)) (pg_name (i := 7) sc_law.nd rfl (by first | exact Or.inl rfl | exact Or.inr rfl)) (pss_cons (ps_setLc (i := 11) rfl sc_law.nd rfl rfl (sw_true rfl rfl rfl (by decide +kernel)) (pi_listK (K := K) rfl (pv 5)) (blkOk_by (own := [("p", 3)]) (N := N_law) (sc := defScope s_law) (by decide +kernel)) (fun _ _ _ _ _ => (pg_name (i := 3) sc_law.nd rfl (by first | exact Or.inl rfl | exact Or.inr rfl))) (fun _ _ _ _ _ => pts_one (pt_cmpR (op_eqDK (K := K) rfl hr.units) (pe_callB (call_lenK (K := K) rfl) (by rfl) T.n_len PySem.boot_len (pa_cons (pe_lc (by rfl) sc_law.nd (pi_listK (K := K) rfl (pv 4)) (blkOk_by (own := [("line", 16)]) (N := N_law) (sc := NSC_law) (by decide +kernel)) (fun _ _ _ _ _ => (pg_name (i := 16) sc_law.nd rfl (by first | exact Or.inl rfl | exact Or.inr rfl))) (fun _ _ _ _ _ => pts_one (pt_cmpR op_gt (pe_ix (ix_seqK (K := K) rfl) (pe_call G_law_above (hr.mono (by first | decide | exact Nat.le_refl _)) (by rfl) T.g_law_above T.d_law_above.kp (b_law_above T) .nil pass0 (pa_cons (pv 16) (pa_cons (pv 3) pa_nil))) pe_int (fun _ _ => rfl)) pe_int (nomark _))) (fun _ _ _ _ _ => (pv 16))) pa_nil)) (pv 7) (nomark _))) (fun _ _ _ _ _ => (pv 3)))
      (pss_one (ps_if (pt_not (pt_val (pe_call G_law_alike (hr.mono (by first | decide | exact Nat.le_refl _)) (by rfl) T.g_law_alike T.d_law_alike.kp (b_law_alike T) .nil pass0 (pa_cons (pe_call G_level_corners (hr.mono (by first | decide | exact Nat.le_refl _)) (by rfl) T.g_level_corners T.d_level_corners.kp (b_level_corners T) .nil pass0 (pa_cons (pe_callTy (call_tupleK (K := K) rfl) (by rfl) T.n_tuple PyProof.Rows.boot_tuple (pa_cons (pv 4) pa_nil)) (pa_cons (pv 7) pa_nil))) (pa_cons (pe_callTy (call_tupleK (K := K) rfl) (by rfl) T.n_tuple PyProof.Rows.boot_tuple (pa_cons (pe_call G_law_ordered (hr.mono (by first | decide | exact Nat.le_refl _)) (by rfl) T.g_law_ordered T.d_law_ordered.kp (b_law_ordered T) .nil pass0 (pa_cons (pv 11) pa_nil)) pa_nil)) pa_nil))))) (pss_one (ps_ret pe_bl)) pss_nil))))
      (pss_cons (ps_asg (pe_tup (pa_cons (pe_callTy (call_tupleK (K := K) rfl) (by rfl) T.n_tuple PyProof.Rows.boot_tuple (pa_cons (pe_lc (by rfl) sc_law.nd (pi_listK (K := K) rfl (pv 2)) (blkOk_by (own := [("p", 3)]) (N := N_law) (sc := defScope s_law) (by decide +kernel)) (fun _ _ _ _ _ => (pg_name (i := 3) sc_law.nd rfl (by first | exact Or.inl rfl | exact Or.inr rfl))) (fun _ _ _ _ _ => pts_nil) (fun _ _ _ _ _ => (pe_call G_dual_of_point (hr.mono (by first | decide | exact Nat.le_refl _)) (by rfl) T.g_dual_of_point T.d_dual_of_point.kp (b_dual_of_point T) .nil pass0 (pa_cons (pv 3) pa_nil)))) pa_nil)) (pa_cons (pe_op op_rep (pe_lst (pa_cons pe_int pa_nil)) (pe_op op_add (pe_callB (call_lenK (K := K) rfl) (by rfl) T.n_len PySem.boot_len (pa_cons (pv 2) pa_nil)) pe_int)) pa_nil))) (pg_tupK (K := K) rfl rfl (pgs_cons (pg_name (i := 4) sc_law.nd rfl (by first | exact Or.inl rfl | exact Or.inr rfl)) (pgs_cons (pg_name (i := 8) sc_law.nd rfl (by first | exact Or.inl rfl | exact Or.inr rfl)) pgs_nil))))
      (pss_cons (ps_for PassesOwn.never rfl (pi_range1 (by rfl) T.n_range (pa_cons (pe_callB (call_lenK (K := K) rfl) (by rfl) T.n_len PySem.boot_len (pa_cons (pv 2) pa_nil)) pa_nil)) (pg_name (i := 6) sc_law.nd rfl (by first | exact Or.inl rfl | exact Or.inr rfl)) (pss_one (ps_for PassesOwn.never rfl (pi_range1 (by rfl) T.n_range (pa_cons (pv 6) pa_nil)) (pg_name (i := 10) sc_law.nd rfl (by first | exact Or.inl rfl | exact Or.inr rfl)) (pss_cons (ps_asg (pe_ifExp (pt_cmpR op_lt (pe_call G_law_order (hr.mono (by first | decide | exact Nat.le_refl _)) (by rfl) T.g_law_order T.d_law_order.kp (b_law_order T) .nil pass0 (pa_cons (pe_ix (ix_seqK (K := K) rfl) (pv 2) (pv 6) (fun _ _ => rfl)) (pa_cons (pe_ix (ix_seqK (K := K) rfl) (pv 2) (pv 10) (fun _ _ => rfl)) pa_nil))) pe_int (nomark _)) (pe_tup (pa_cons (pe_ix (ix_seqK (K := K) rfl) (pv 2) (pv 6) (fun _ _ => rfl)) (pa_cons (pe_ix (ix_seqK (K := K) rfl) (pv 2) (pv 10) (fun _ _ => rfl)) pa_nil))) (pe_tup (pa_cons (pe_ix (ix_seqK (K := K) rfl) (pv 2) (pv 10) (fun _ _ => rfl)) (pa_cons (pe_ix (ix_seqK (K := K) rfl) (pv 2) (pv 6) (fun _ _ => rfl)) pa_nil)))) (pg_tupK (K := K) rfl rfl (pgs_cons (pg_name (i := 12) sc_law.nd rfl (by first | exact Or.inl rfl | exact Or.inr rfl)) (pgs_cons (pg_name (i := 13) sc_law.nd rfl (by first | exact Or.inl rfl | exact Or.inr rfl)) pgs_nil))))
      (pss_cons (ps_set (i := 14) sc_law.nd rfl (by first | exact Or.inl rfl | exact Or.inr rfl) (pe_callB (call_lenK (K := K) rfl) (by rfl) T.n_len PySem.boot_len (pa_cons (pe_lc (by rfl) sc_law.nd (pi_listK (K := K) rfl (pv 2)) (blkOk_by (own := [("p", 3)]) (N := N_law) (sc := defScope s_law) (by decide +kernel)) (fun _ _ _ _ _ => (pg_name (i := 3) sc_law.nd rfl (by first | exact Or.inl rfl | exact Or.inr rfl))) (fun _ _ _ _ _ => pts_one (pt_cmpR op_gt (pe_call G_law_turn (hr.mono (by first | decide | exact Nat.le_refl _)) (by rfl) T.g_law_turn T.d_law_turn.kp (b_law_turn T) .nil pass0 (pa_cons (pv 12) (pa_cons (pv 13) (pa_cons (pv 3) pa_nil)))) pe_int (nomark _))) (fun _ _ _ _ _ => (pv 3))) pa_nil)))
      (pss_one (ps_asg (pe_op op_add (pe_ix (ix_seqK (K := K) rfl) (pv 8) (pv 14) (fun _ _ => rfl)) pe_int) (pg_sub (pv 8) (pv 14) set_list))))))))
      (pss_one (ps_ret (pe_cmpR (op_eqDK (K := K) rfl hr.units) (pe_lc (by rfl) sc_law.nd (pi_range1 (by rfl) T.n_range (pa_cons (pe_op op_add (pe_callB (call_lenK (K := K) rfl) (by rfl) T.n_len PySem.boot_len (pa_cons (pv 2) pa_nil)) pe_int) pa_nil)) (blkOk_by (own := [("k", 7)]) (N := N_law) (sc := defScope s_law) (by decide +kernel)) (fun _ _ _ _ _ => (pg_name (i := 7) sc_law.nd rfl (by first | exact Or.inl rfl | exact Or.inr rfl))) (fun _ _ _ _ _ => pts_nil) (fun _ _ _ _ _ => (pe_callB (call_lenK (K := K) rfl) (by rfl) T.n_len PySem.boot_len (pa_cons (pe_call G_level_corners (hr.mono (by first | decide | exact Nat.le_refl _)) (by rfl) T.g_level_corners T.d_level_corners.kp (b_level_corners T) .nil pass0 (pa_cons (pv 4) (pa_cons (pv 7) pa_nil))) pa_nil)))) (pv 8) (nomark _)))))))))))))), ?rd⟩)
  case rd =>
    intro vs H Q E h
    refine law_go (by decide) (by decide) (by decide) ?_ h
    intro C
    refine ws_seq (ws_asg (we_lst (wa_nil ⟨Nat.zero_le _, ?_⟩)))
    refine ws_seq (ws_for (wi_tup ?_))
    repeat walk_at "we"
    refine ⟨(2, 6), rfl, ⟨by decide, by decide, by decide⟩, ?_⟩
    rintro _ ⟨ps, rfl, hG, g1, g6⟩
    refine ⟨_, rfl, fun i e => ∃ pts x3 x15, (PtOk pts ∧ pts.length ≤ i ∧ (0 < i → pts ≠ []) ∧ ∀ p ∈ pts, p ∈ ps) ∧ e = [none, some .row, some (.dat (.list (pts.map pt))), x3, none, none, none, none, none, none, none, none, none, none, none, x15, none], ⟨[], none, none, ⟨⟨.nil, fun p h => (nomatch h), fun p q r h => (nomatch h)⟩, Nat.le_refl _, fun h => absurd h (Nat.lt_irrefl _), fun p h => (nomatch h)⟩, rfl⟩, ?_, ?_⟩
    · rintro i d e hi ⟨pts, x3, x15, ⟨hP, hl, hne, hsub⟩, rfl⟩
      obtain ⟨p, hpi, rfl⟩ := map_atR hi
      have hpm := List.mem_of_getElem? hpi
      have hil := (List.getElem?_eq_some_iff.mp hpi).1
      refine wg_name ?_
      show WS K C _ [none, some .row, some (.dat (.list (pts.map pt))), some (.dat (pt p)), none, none, none, none, none, none, none, none, none, none, none, x15, none] _
      repeat walk_at "we"
      refine we_map (by walk_at "og") firstD (wi_list ?_)
      repeat walk_at "we"
      refine ⟨by rw [List.length_map]; omega, ?_, ?_⟩
      · rintro j d hj
        obtain ⟨q, hq, rfl⟩ := map_atR hj
        refine wg_name ?_
        show WE K C _ [none, some .row, some (.dat (.list (pts.map pt))), some (.dat (pt p)), none, none, none, none, none, none, none, none, none, none, none, some (.dat (pt q)), none] _
        repeat walk_at "we"
        rfl
      have key : (pts.map pt).map firstD = (pts.map fun p => p.1).map PyData.int := by
        rw [List.map_map, List.map_map]
        rfl
      rw [key]
      refine rd_notInD rfl (shaped_ints _) ?_
      rw [any_int]
      refine ⟨_, rfl, fun h => ?_, fun h => ?_⟩
      · have hno : p.1 ∉ pts.map fun p => p.1 := by simpa using h
        repeat walk_at "we"
        refine rd_catL (by rw [List.length_map]; show _ + 1 ≤ _; omega) ?_
        have hpn : p ∉ pts := fun z => hno (List.mem_map.mpr ⟨p, z, rfl⟩)
        refine ⟨pts ++ [p], _, _, ⟨⟨?_, ?_, ?_⟩, by rw [List.length_append, List.length_singleton]; omega, fun _ => by simp, ?_⟩, by rw [List.map_append]; rfl⟩
        · rw [List.map_append]
          refine List.nodup_append.mpr ⟨hP.1, by simp, ?_⟩
          intro a ha b hb e
          rw [List.map_singleton, List.mem_singleton] at hb
          exact hno (by rw [← hb, ← e]; exact ha)
        · intro q hq
          rcases List.mem_append.mp hq with hq | hq
          · exact hP.2.1 q hq
          · rw [List.mem_singleton.mp hq]; exact hG.2.2 p hpm
        · intro a b c ha hb hc
          have g : ∀ x, x ∈ pts ++ [p] → x ∈ ps := fun x hx => by
            rcases List.mem_append.mp hx with hx | hx
            · exact hsub x hx
            · rw [List.mem_singleton.mp hx]; exact hpm
          exact hG.2.1.mem (g a ha) (g b hb) (g c hc)
        · intro x hx
          rcases List.mem_append.mp hx with hx | hx
          · exact hsub x hx
          · rw [List.mem_singleton.mp hx]; exact hpm
      · have hin : p.1 ∈ pts.map fun p => p.1 := by simpa using h
        repeat walk_at "we"
        refine rd_catL (by rw [List.length_map]; show _ + 0 ≤ _; omega) ?_
        rw [List.append_nil]
        refine ⟨pts, _, _, ⟨hP, by omega, fun _ e => ?_, hsub⟩, rfl⟩
        rw [e] at hin
        cases hin
    rintro e ⟨pts, x3, x15, ⟨hP, hl, hne, hsub⟩, rfl⟩
    rw [List.length_map] at hl hne
    have hne := hne (by omega)
    have hp1 : 1 ≤ pts.length := List.length_pos_iff.mpr hne
    have hp6 : pts.length ≤ 6 := by
      have : (ps.length : Int) ≤ 6 := g6
      omega
    clear hsub hl g1 g6 hG hne
    have hL := hP.ls hp1 (by omega)
    show WS K C _ [none, some .row, some (.dat (.list (pts.map pt))), x3, none, none, none, none, none, none, none, none, none, none, none, x15, none] _
    refine ws_seq (ws_asgO (wo_filter (by walk_at "og") lineD (fun _ => true) (wi_list ?_)))
    repeat walk_at "we"
    refine ⟨by rw [List.length_map]; omega, ?_, ?_⟩
    · rintro j d hj
      obtain ⟨p, hpj, rfl⟩ := map_atR hj
      have hpp := hP.2.1 p (List.mem_of_getElem? hpj)
      refine wg_name ?_
      show WT K C _ [none, some .row, some (.dat (.list (pts.map pt))), some (.dat (pt p)), none, none, none, none, none, none, none, none, none, none, none, x15, none] _
      refine wt_yes ⟨rfl, fun _ => ?_⟩
      repeat walk_at "we"
      refine ⟨(_, _), rfl, ⟨by show (1 : Int) ≠ 0; decide, (by decide : Bd 64 1).mono (by decide)⟩, ?_⟩
      rintro _ rfl
      repeat walk_at "we"
      refine ⟨(_, _), rfl, ⟨by show (1 : Int) ≠ 0; decide, (by decide : Bd 64 1).mono (by decide)⟩, ?_⟩
      rintro _ rfl
      repeat walk_at "we"
      rfl
    have key : List.map lineD (List.filter (fun _ => true) (pts.map pt)) = (pts.map dpL).map Ln := by
      rw [List.filter_eq_self.mpr (fun _ _ => rfl), List.map_map, List.map_map]
      refine List.map_congr_left fun p hp => line_dp (hP.2.1 p hp)
    rw [key]
    show WS K C _ [none, some .row, some (.dat (.list (pts.map pt))), x3, some (.own ((pts.map dpL).map Ln)), none, none, none, none, none, none, none, none, none, none, x15, none] _
    refine ws_mid (fun e => ∃ ls x3 x9 x15, LsOk ls ∧ e = [none, some .row, some (.dat (.list (pts.map pt))), x3, some (.own (ls.map Ln)), none, none, none, none, x9, none, none, none, none, none, x15, none]) ?ext ?_
    case ext =>
      refine ws_if (WT.imp (Ψ := fun t => t = true → 2 ≤ pts.length) ?test ?_)
      case test =>
        repeat walk_at "we"
        refine ⟨⟨by decide, by decide⟩, ?_⟩
        rintro _ ⟨v, rfl, v0, v1⟩
        repeat walk_at "we"
        refine rd_eqD rfl rfl ?_
        refine ⟨_, rfl, fun _ => ?_, fun _ z => (nomatch z)⟩
        repeat walk_at "we"
        rw [List.length_map, List.length_map]
        intro z
        have z := of_decide_eq_true z
        omega
      intro t ht
      refine ⟨fun z => ?_, fun z => ws_next ⟨pts.map dpL, x3, none, x15, hL, rfl⟩⟩
      have h2 := ht z
      have g0 := hP.2.1 pts[0] (List.getElem_mem _)
      have g1 := hP.2.1 pts[1] (List.getElem_mem _)
      have at0 : (pts.map dpL)[0]? = some (dpL pts[0]) := by rw [List.getElem?_map, List.getElem?_eq_getElem (by omega)]; rfl
      have at1 : (pts.map dpL)[1]? = some (dpL pts[1]) := by rw [List.getElem?_map, List.getElem?_eq_getElem (by omega)]; rfl
      have hne := slope_ne hL.2.1 (by decide : (0 : Nat) ≠ 1) at0 at1
      obtain ⟨b0, b1⟩ := dp_bd g0
      obtain ⟨b2, b3⟩ := dp_bd g1
      repeat walk_at "we"
      refine ⟨0, Ln (dpL pts[0]), rfl, atI_nat (j := 0) (by rw [List.getElem?_map, at0]; rfl), ?_⟩
      repeat walk_at "we"
      refine ⟨1, Ln (dpL pts[1]), rfl, atI_nat (j := 1) (by rw [List.getElem?_map, at1]; rfl), ?_⟩
      repeat walk_at "we"
      refine ⟨(dpL pts[0], dpL pts[1]), rfl, ⟨hne, ⟨b0.mono (by decide), b1.mono (by decide)⟩, ⟨b2.mono (by decide), b3.mono (by decide)⟩⟩, ?_⟩
      rintro _ rfl
      repeat walk_at "we"
      refine ⟨⟨by decide, by decide⟩, ?_⟩
      rintro _ ⟨v, rfl, v0, v1⟩
      have hv : Bd 3 v := show v.natAbs < 2 ^ 3 by omega
      have two : Bd 2 (2 : Int) := by decide
      have hM : QB 24 (Rat.divInt (2 * v + 1) 2) := QB.of (by decide) (show (2 * v + 1).natAbs < 2 ^ 24 by omega) (by decide)
      have hLm := LsOk.more hP h2 hp6 hv
      obtain ⟨c1, c2⟩ := crn_bd hne (b0.mono (by decide)) (b1.mono (by decide)) (b2.mono (by decide)) (b3.mono (by decide))
      have cn := crn_nm (dpL pts[0]) (dpL pts[1])
      generalize crn (dpL pts[0]) (dpL pts[1]) = c at c1 c2 cn hLm ⊢
      repeat walk_at "we"
      refine ⟨(2 * v + 1, 2), rfl, ⟨by show (2 : Int) ≠ 0; decide, two.mono (by decide)⟩, ?_⟩
      rintro _ rfl
      simp only
      generalize Rat.divInt (2 * v + 1) 2 = M at hM hLm ⊢
      repeat walk_at "we"
      refine ⟨_, _, rfl, ?_⟩
      show WS K C _ [none, some .row, some (.dat (.list (pts.map pt))), some (.dat (pt c)), some (.own ((pts.map dpL).map Ln)), none, none, none, none, some (.dat (rt M)), none, none, none, none, none, x15, none] _
      refine ws_append (i := 4) rfl ?_
      repeat walk_at "we"
      refine ex_tmsC hM c1 cn.1 ?_
      repeat walk_at "we"
      refine ex_plsC ((hM.neg.mul (qx_bd cn.1 c1)).mono (by decide)) c1 cn.1 ?_
      repeat walk_at "we"
      refine ⟨by rw [List.length_map, List.length_map]; omega, ?_⟩
      refine ⟨_, some (.dat (pt c)), some (.dat (rt M)), x15, hLm, ?_⟩
      rw [List.map_append]
      rfl
    rintro e ⟨ls, x3, x9, x15, hL, rfl⟩
    refine ws_freeze (i := 4) (ds := ls.map Ln) rfl ?_
    show WS K C _ [none, some .row, some (.dat (.list (pts.map pt))), x3, some (.dat (.list (ls.map Ln))), none, none, none, none, x9, none, none, none, none, none, x15, none] _
    refine ws_seq (ws_asg (we_lst (wa_nil ⟨Nat.zero_le _, ?_⟩)))
    have l7 := hL.1.2
    have l1 := hL.1.1
    refine ws_seq (ws_for (wi_rng1 ?_))
    repeat walk_at "we"
    refine cd_len (.inl rfl) ?_
    repeat walk_at "we"
    rw [List.length_map]
    refine ⟨by omega, by omega, fun i e => ∃ cs x3 x6 x10, CorI ls i 0 cs ∧ e = [none, some .row, some (.dat (.list (pts.map pt))), x3, some (.dat (.list (ls.map Ln))), some (.dat (.list (cs.map pt))), x6, none, none, x9, x10, none, none, none, none, x15, none], ⟨[], x3, none, none, ⟨.nil, Nat.le_refl _, fun p => ⟨fun h => (nomatch h), fun ⟨a, b, l, m, h, _⟩ => absurd h (by omega)⟩⟩, rfl⟩, ?_, ?_⟩
    · rintro i d e hi ⟨cs, x3, x6, x10, hC, rfl⟩
      obtain ⟨hil, rfl⟩ := rngD_inv hi
      rw [Int.toNat_natCast] at hil
      rw [Int.zero_add]
      refine wg_name ?_
      show WS K C _ [none, some .row, some (.dat (.list (pts.map pt))), x3, some (.dat (.list (ls.map Ln))), some (.dat (.list (cs.map pt))), some (.dat (.int (i : Int))), none, none, x9, x10, none, none, none, none, x15, none] _
      refine ws_for (wi_rng1 ?_)
      repeat walk_at "we"
      refine ⟨by omega, by omega, fun j e => ∃ cs x3 x10, CorI ls i j cs ∧ e = [none, some .row, some (.dat (.list (pts.map pt))), x3, some (.dat (.list (ls.map Ln))), some (.dat (.list (cs.map pt))), some (.dat (.int (i : Int))), none, none, x9, x10, none, none, none, none, x15, none], ⟨cs, x3, x10, hC, rfl⟩, ?_, ?_⟩
      · rintro j d e hj ⟨cs, x3, x10, hC, rfl⟩
        obtain ⟨hjl, rfl⟩ := rngD_inv hj
        rw [Int.toNat_natCast] at hjl
        rw [Int.zero_add]
        have gi : ls[i]? = some ls[i] := List.getElem?_eq_getElem hil
        have gj : ls[j]? = some ls[j] := List.getElem?_eq_getElem (by omega)
        have hne := slope_ne hL.2.1 (Nat.ne_of_gt hjl) gi gj
        have hst := hC.step gi gj
        have hcl := hC.2.1
        refine wg_name ?_
        show WS K C _ [none, some .row, some (.dat (.list (pts.map pt))), x3, some (.dat (.list (ls.map Ln))), some (.dat (.list (cs.map pt))), some (.dat (.int (i : Int))), none, none, x9, some (.dat (.int (j : Int))), none, none, none, none, x15, none] _
        repeat walk_at "we"
        refine rd_ixS (.inr rfl) (d := Ln ls[i]) (atI_nat (by rw [List.getElem?_map, gi]; rfl)) ?_
        repeat walk_at "we"
        refine rd_ixS (.inr rfl) (d := Ln ls[j]) (atI_nat (by rw [List.getElem?_map, gj]; rfl)) ?_
        repeat walk_at "we"
        refine ⟨(ls[i], ls[j]), rfl, ⟨hne, hL.2.2 _ (List.getElem_mem _), hL.2.2 _ (List.getElem_mem _)⟩, ?_⟩
        rintro _ rfl
        simp only
        generalize crn ls[i] ls[j] = c at hst ⊢
        repeat walk_at "we"
        refine rd_notInD (shaped_pt c) (shaped_ptG cs) ?_
        rw [any_ptG]
        refine ⟨_, rfl, fun h => ?_, fun h => ?_⟩
        · have hno : c ∉ cs := by simpa using h
          rw [if_pos hno] at hst
          repeat walk_at "we"
          refine rd_catL (by rw [List.length_map]; show _ + 1 ≤ _; omega) ?_
          exact ⟨cs ++ [c], _, _, hst, by rw [List.map_append]; rfl⟩
        · have hin : c ∈ cs := by simpa using h
          rw [if_neg (fun z => z hin)] at hst
          repeat walk_at "we"
          refine rd_catL (by rw [List.length_map]; show _ + 0 ≤ _; omega) ?_
          rw [List.append_nil]
          exact ⟨cs, _, _, hst, rfl⟩
      · rintro e ⟨cs, x3, x10, hC, rfl⟩
        rw [rngD_len, Int.toNat_natCast] at hC
        exact ⟨cs, _, _, _, hC.next (by omega), rfl⟩
    rintro e ⟨cs, x3, x6, x10, hC, rfl⟩
    rw [rngD_len, Int.toNat_natCast] at hC
    have hcs := hC.all hL
    have hcl := hC.2.1
    have hcn := hC.1
    clear hC
    refine ws_seq (ws_for (wi_rng1 ?_))
    repeat walk_at "we"
    refine cd_len (.inl rfl) ?_
    repeat walk_at "we"
    rw [List.length_map]
    refine ⟨by omega, by omega, fun i e => ∃ x3 x6 x7 x10 x11 x16, e = [none, some .row, some (.dat (.list (pts.map pt))), x3, some (.dat (.list (ls.map Ln))), some (.dat (.list (cs.map pt))), x6, x7, none, x9, x10, x11, none, none, none, x15, x16], ⟨x3, x6, none, x10, none, none, rfl⟩, ?_, ?_⟩
    · rintro k d e hi ⟨x3, x6, x7, x10, x11, x16, rfl⟩
      obtain ⟨hkl, rfl⟩ := rngD_inv hi
      rw [Int.zero_add]
      have hk7 : k ≤ 20 := by omega
      refine wg_name ?_
      show WS K C _ [none, some .row, some (.dat (.list (pts.map pt))), x3, some (.dat (.list (ls.map Ln))), some (.dat (.list (cs.map pt))), x6, some (.dat (.int (k : Int))), none, x9, x10, x11, none, none, none, x15, x16] _
      refine ws_seq (ws_asg (we_filter (by walk_at "og") (fun d => d) (levB ls k) (wi_list ?_)))
      repeat walk_at "we"
      refine ⟨by rw [List.length_map]; omega, ?_, ?_⟩
      · rintro j d hj
        obtain ⟨p, hpj, rfl⟩ := map_atR hj
        obtain ⟨nm, bp⟩ := hL.cor ((hcs p).mp (List.mem_of_getElem? hpj))
        refine wg_name ?_
        show WT K C _ [none, some .row, some (.dat (.list (pts.map pt))), some (.dat (pt p)), some (.dat (.list (ls.map Ln))), some (.dat (.list (cs.map pt))), x6, some (.dat (.int (k : Int))), none, x9, x10, x11, none, none, none, x15, x16] _
        repeat walk_at "we"
        refine we_filter (by walk_at "og") (fun d => d) (abvB p) (wi_list ?_)
        repeat walk_at "we"
        refine ⟨by rw [List.length_map]; omega, ?_, ?_⟩
        · rintro j d hj
          obtain ⟨l, hlj, rfl⟩ := map_atR hj
          obtain ⟨q1, q2⟩ := hL.2.2 l (List.mem_of_getElem? hlj)
          refine wg_name ?_
          show WT K C _ [none, some .row, some (.dat (.list (pts.map pt))), some (.dat (pt p)), some (.dat (.list (ls.map Ln))), some (.dat (.list (cs.map pt))), x6, some (.dat (.int (k : Int))), none, x9, x10, x11, none, none, none, x15, some (.dat (Ln l))] _
          repeat walk_at "we"
          refine ⟨(l, p), rfl, ⟨q1.mono (by decide), q2.mono (by decide), bp.mono (by decide), nm.1⟩, ?_⟩
          rintro _ rfl
          repeat walk_at "we"
          refine ⟨(abv_num nm.1).symm, fun _ => ?_⟩
          repeat walk_at "we"
          rfl
        refine wa_nil (cd_len (.inl rfl) ?_)
        rw [abv_len nm.1]
        repeat walk_at "we"
        refine rd_eqD rfl rfl ?_
        rw [eqv_int]
        refine ⟨_, rfl, ?_, fun _ => ?_⟩
        · show decide _ = decide (lev ls p = k)
          rw [Bool.eq_iff_iff, decide_eq_true_eq, decide_eq_true_eq]
          omega
        · repeat walk_at "we"
          rfl
      have key : ((List.filter (levB ls k) (cs.map pt)).map fun d => d) = ((cs.filter fun p => decide (lev ls p = k)).map pt) := by
        rw [List.map_id', List.filter_map]
        rfl
      rw [key]
      have hfl := List.length_filter_le (fun p => decide (lev ls p = k)) cs
      have hfm : ∀ p, p ∈ cs.filter (fun p => decide (lev ls p = k)) ↔ CorP ls p ∧ lev ls p = k := fun p => by rw [List.mem_filter, hcs, decide_eq_true_eq]
      have hfn : (cs.filter fun p => decide (lev ls p = k)).Nodup := hcn.filter _
      generalize (cs.filter fun p => decide (lev ls p = k)) = due at hfl hfm hfn ⊢
      show WS K C _ [none, some .row, some (.dat (.list (pts.map pt))), x3, some (.dat (.list (ls.map Ln))), some (.dat (.list (cs.map pt))), x6, some (.dat (.int (k : Int))), none, x9, x10, some (.dat (.list (due.map pt))), none, none, none, x15, x16] _
      repeat walk_at "we"
      refine cd_tuple (.inl rfl) ?_
      repeat walk_at "we"
      refine ⟨(ls, k), rfl, ⟨hL, hk7⟩, ?_⟩
      rintro _ ⟨qs, hq, rfl⟩
      repeat walk_at "we"
      refine ⟨⟨by omega, hfn, fun p hp => ?_⟩, ?_⟩
      · obtain ⟨nm, bp⟩ := hL.cor ((hfm p).mp hp).1
        exact ⟨nm, bp.mono (by decide)⟩
      rintro _ ⟨rs, rfl, hs, hperm⟩
      have hqr : qs = rs := sorted_one hq.1 hs fun p => by rw [hq.2, hperm.mem_iff, hfm]
      subst hqr
      have hql : qs.length ≤ 1000 := by rw [hperm.length_eq]; omega
      refine wa_nil (cd_tuple (.inl rfl) ?_)
      repeat walk_at "we"
      refine ⟨shp_ptsL 1 qs hql, ?_⟩
      rintro _ rfl
      repeat walk_at "we"
      refine ⟨(fun z => nomatch z), fun _ => ?_⟩
      refine ws_next ⟨x3, x6, _, x10, _, x16, rfl⟩
    rintro e ⟨x3, x6, x7, x10, x11, x16, rfl⟩
    clear hcs hcl hcn hL l7 l1
    have hL := hP.ls hp1 (by omega)
    show WS K C _ [none, some .row, some (.dat (.list (pts.map pt))), x3, some (.dat (.list (ls.map Ln))), some (.dat (.list (cs.map pt))), x6, x7, none, x9, x10, x11, none, none, none, x15, x16] _
    refine ws_seq (ws_tup2Own rfl (by decide) ?_)
    repeat walk_at "we"
    refine we_map (by walk_at "og") dualD (wi_list ?_)
    repeat walk_at "we"
    refine ⟨by rw [List.length_map]; omega, ?_, ?_⟩
    · rintro j d hj
      obtain ⟨p, hpj, rfl⟩ := map_atR hj
      refine wg_name ?_
      show WE K C _ [none, some .row, some (.dat (.list (pts.map pt))), some (.dat (pt p)), some (.dat (.list (ls.map Ln))), some (.dat (.list (cs.map pt))), x6, x7, none, x9, x10, x11, none, none, none, x15, x16] _
      repeat walk_at "we"
      refine ⟨hP.vp (List.mem_of_getElem? hpj), ?_⟩
      rintro _ rfl
      rfl
    have key2 : (pts.map pt).map dualD = (pts.map dpL).map Ln := by
      rw [List.map_map, List.map_map]
      rfl
    rw [key2]
    refine wa_nil (cd_tuple (.inl rfl) ?_)
    refine wo_rep ?_
    repeat walk_at "we"
    refine cd_len (.inl rfl) ?_
    repeat walk_at "we"
    rw [List.length_map]
    refine ⟨by show pts.length + 1 ≤ 100000; omega, ?_⟩
    show WS K C _ [none, some .row, some (.dat (.list (pts.map pt))), x3, some (.dat (.tuple ((pts.map dpL).map Ln))), some (.dat (.list (cs.map pt))), x6, x7, some (.own (List.replicate (pts.length + 1) (.int 0))), x9, x10, x11, none, none, none, x15, x16] _
    rw [← cntD_nil (pts.map dpL)]
    have lm : (pts.map dpL).length = pts.length := List.length_map ..
    show WS K C _ [none, some .row, some (.dat (.list (pts.map pt))), x3, some (.dat (.tuple ((pts.map dpL).map Ln))), some (.dat (.list (cs.map pt))), x6, x7, some (.own (cntD (pts.map dpL) [] (pts.length + 1))), x9, x10, x11, none, none, none, x15, x16] _
    refine ws_seq (ws_for (wi_rng1 ?_))
    repeat walk_at "we"
    refine cd_len (.inl rfl) ?_
    repeat walk_at "we"
    rw [List.length_map]
    refine ⟨by omega, by omega, fun i e => ∃ qs x3 x6 x10 x12 x13 x14, CorI (pts.map dpL) i 0 qs ∧ e = [none, some .row, some (.dat (.list (pts.map pt))), x3, some (.dat (.tuple ((pts.map dpL).map Ln))), some (.dat (.list (cs.map pt))), x6, x7, some (.own (cntD (pts.map dpL) qs (pts.length + 1))), x9, x10, x11, x12, x13, x14, x15, x16], ⟨[], x3, x6, x10, none, none, none, ⟨.nil, Nat.le_refl _, fun p => ⟨fun h => (nomatch h), fun ⟨a, b, l, m, h, _⟩ => absurd h (by omega)⟩⟩, rfl⟩, ?_, ?_⟩
    · rintro i d e hi ⟨qs, x3, x6, x10, x12, x13, x14, hC, rfl⟩
      obtain ⟨hil, rfl⟩ := rngD_inv hi
      rw [Int.toNat_natCast] at hil
      rw [Int.zero_add]
      refine wg_name ?_
      show WS K C _ [none, some .row, some (.dat (.list (pts.map pt))), x3, some (.dat (.tuple ((pts.map dpL).map Ln))), some (.dat (.list (cs.map pt))), some (.dat (.int (i : Int))), x7, some (.own (cntD (pts.map dpL) qs (pts.length + 1))), x9, x10, x11, x12, x13, x14, x15, x16] _
      refine ws_for (wi_rng1 ?_)
      repeat walk_at "we"
      refine ⟨by omega, by omega, fun j e => ∃ qs x3 x10 x12 x13 x14, CorI (pts.map dpL) i j qs ∧ e = [none, some .row, some (.dat (.list (pts.map pt))), x3, some (.dat (.tuple ((pts.map dpL).map Ln))), some (.dat (.list (cs.map pt))), some (.dat (.int (i : Int))), x7, some (.own (cntD (pts.map dpL) qs (pts.length + 1))), x9, x10, x11, x12, x13, x14, x15, x16], ⟨qs, x3, x10, x12, x13, x14, hC, rfl⟩, ?_, ?_⟩
      · rintro j d e hj ⟨qs, x3, x10, x12, x13, x14, hC, rfl⟩
        obtain ⟨hjl, rfl⟩ := rngD_inv hj
        rw [Int.toNat_natCast] at hjl
        rw [Int.zero_add]
        have gi : pts[i]? = some pts[i] := List.getElem?_eq_getElem hil
        have gj : pts[j]? = some pts[j] := List.getElem?_eq_getElem (by omega)
        have li : (pts.map dpL)[i]? = some (dpL pts[i]) := by rw [List.getElem?_map, gi]; rfl
        have lj : (pts.map dpL)[j]? = some (dpL pts[j]) := by rw [List.getElem?_map, gj]; rfl
        have hne := slope_ne hL.2.1 (Nat.ne_of_gt hjl) li lj
        have hnx := hP.ne (Nat.ne_of_gt hjl) gi gj
        have hnew := cor_new hP hL hC hjl gi gj
        have hst := hC.step li lj
        rw [if_pos hnew] at hst
        have u1 := crn_on (dpL pts[i]) (dpL pts[j])
        have u2 := crn_on2 hne
        have mi := List.getElem_mem hil
        have mj := List.getElem_mem (show j < pts.length by omega)
        have gG := hP.2.1 pts[i] mi
        have gG2 := hP.2.1 pts[j] mj
        have ai : atI (pts.map pt) (i : Int) = some (pt pts[i]) := atI_nat (by rw [List.getElem?_map, gi]; rfl)
        have aj : atI (pts.map pt) (j : Int) = some (pt pts[j]) := atI_nat (by rw [List.getElem?_map, gj]; rfl)
        generalize crn (dpL pts[i]) (dpL pts[j]) = c at hst u1 u2 hnew
        generalize pts[i] = p at *
        generalize pts[j] = q at *
        refine wg_name ?_
        show WS K C _ [none, some .row, some (.dat (.list (pts.map pt))), x3, some (.dat (.tuple ((pts.map dpL).map Ln))), some (.dat (.list (cs.map pt))), some (.dat (.int (i : Int))), x7, some (.own (cntD (pts.map dpL) qs (pts.length + 1))), x9, some (.dat (.int (j : Int))), x11, x12, x13, x14, x15, x16] _
        refine ws_seq (ws_asgG (WE.imp (Ψ := fun v => ∃ a b : P3, v = .tuple [pt a, pt b] ∧ (a ∈ pts ∧ b ∈ pts) ∧ a.1 < b.1 ∧ upQ (dpL a) c = 0 ∧ upQ (dpL b) c = 0) ?ab ?_))
        case ab =>
          repeat walk_at "we"
          refine rd_ixS (.inr rfl) ai ?_
          repeat walk_at "we"
          refine rd_ixS (.inr rfl) aj ?_
          repeat walk_at "we"
          refine ⟨(p, q), rfl, ⟨gG.bd.mono (by decide), gG2.bd.mono (by decide)⟩, ?_⟩
          rintro _ rfl
          have on := ord_neg gG.nm gG2.nm
          have hlx : Lx p q ↔ p.1 < q.1 := by
            unfold Lx
            rw [(g1_q gG).1, (g1_q gG2).1]
            constructor
            · rintro (h | ⟨h, _⟩)
              · exact_mod_cast h
              · exact absurd (by exact_mod_cast h) hnx
            · intro h
              exact .inl (by exact_mod_cast h)
          repeat walk_at "we"
          refine ⟨fun h => ?_, fun h => ?_⟩
          · have h := hlx.mp (on.mp (of_decide_eq_true h))
            repeat walk_at "we"
            refine rd_ixS (.inr rfl) ai ?_
            repeat walk_at "we"
            refine rd_ixS (.inr rfl) aj ?_
            repeat walk_at "we"
            exact ⟨p, q, rfl, ⟨mi, mj⟩, h, u1, u2⟩
          · have h : ¬ (p.1 < q.1) := fun z => of_decide_eq_false h (on.mpr (hlx.mpr z))
            repeat walk_at "we"
            refine rd_ixS (.inr rfl) aj ?_
            repeat walk_at "we"
            refine rd_ixS (.inr rfl) ai ?_
            repeat walk_at "we"
            exact ⟨q, p, rfl, ⟨mj, mi⟩, by omega, u2, u1⟩
        rintro _ ⟨a, b, rfl, ⟨ma, mb⟩, hab, v1, v2⟩
        refine wg_tup (ds := [_, _]) rfl (wgs_cons (wg_name (wgs_cons (wg_name (wgs_nil ?_)))))
        show WS K C _ [none, some .row, some (.dat (.list (pts.map pt))), x3, some (.dat (.tuple ((pts.map dpL).map Ln))), some (.dat (.list (cs.map pt))), some (.dat (.int (i : Int))), x7, some (.own (cntD (pts.map dpL) qs (pts.length + 1))), x9, some (.dat (.int (j : Int))), x11, some (.dat (pt a)), some (.dat (pt b)), x14, x15, x16] _
        refine ws_seq (ws_asg (WE.imp (Ψ := fun v => v = .int ((lev (pts.map dpL) c : Nat) : Int)) ?hi ?_))
        case hi =>
          repeat walk_at "we"
          refine we_filter (by walk_at "og") (fun d => d) (turnB a b) (wi_list ?_)
          repeat walk_at "we"
          refine ⟨by rw [List.length_map]; omega, ?_, ?_⟩
          · rintro m d hm
            obtain ⟨r, hr, rfl⟩ := map_atR hm
            have gr := hP.2.1 r (List.mem_of_getElem? hr)
            refine wg_name ?_
            show WT K C _ [none, some .row, some (.dat (.list (pts.map pt))), some (.dat (pt r)), some (.dat (.tuple ((pts.map dpL).map Ln))), some (.dat (.list (cs.map pt))), some (.dat (.int (i : Int))), x7, some (.own (cntD (pts.map dpL) qs (pts.length + 1))), x9, some (.dat (.int (j : Int))), x11, some (.dat (pt a)), some (.dat (pt b)), x14, x15, x16] _
            repeat walk_at "we"
            refine ⟨(a, b, r), rfl, ⟨⟨(hP.2.1 a ma).bd.mono (by decide), (hP.2.1 b mb).bd.mono (by decide), gr.bd.mono (by decide)⟩, (hP.2.1 a ma).nm.1⟩, ?_⟩
            rintro _ rfl
            repeat walk_at "we"
            refine ⟨rfl, fun _ => ?_⟩
            repeat walk_at "we"
            rfl
          refine wa_nil (cd_len (.inl rfl) ?_)
          rw [turn_len hP ma mb v1 v2 hab]
        rintro _ rfl
        have hll := lev_le (pts.map dpL) c
        rw [lm] at hll
        show WS K C _ [none, some .row, some (.dat (.list (pts.map pt))), x3, some (.dat (.tuple ((pts.map dpL).map Ln))), some (.dat (.list (cs.map pt))), some (.dat (.int (i : Int))), x7, some (.own (cntD (pts.map dpL) qs (pts.length + 1))), x9, some (.dat (.int (j : Int))), x11, some (.dat (pt a)), some (.dat (pt b)), some (.dat (.int ((lev (pts.map dpL) c : Nat) : Int))), x15, x16] _
        refine ws_setOwn (i := 8) rfl ?_
        repeat walk_at "we"
        refine ⟨_, _, rfl, atI_nat (cntD_at (pts.map dpL) qs (show lev (pts.map dpL) c < pts.length + 1 by omega)), ?_⟩
        repeat walk_at "we"
        refine ⟨by rw [cntD_len]; omega, ?_⟩
        rw [cntD_set]
        exact ⟨qs ++ [c], _, _, _, _, _, hst, rfl⟩
      · rintro e ⟨qs, x3, x10, x12, x13, x14, hC, rfl⟩
        rw [rngD_len, Int.toNat_natCast] at hC
        exact ⟨qs, _, _, _, _, _, _, hC.next (by omega), rfl⟩
    rintro e ⟨qs, x3, x6, x10, x12, x13, x14, hC, rfl⟩
    rw [rngD_len, Int.toNat_natCast, ← lm] at hC
    have hqc := hC.all hL
    have hqn := hC.1
    clear hC
    refine ws_freeze (i := 8) (ds := cntD (pts.map dpL) qs (pts.length + 1)) rfl ?_
    show WS K C _ [none, some .row, some (.dat (.list (pts.map pt))), x3, some (.dat (.tuple ((pts.map dpL).map Ln))), some (.dat (.list (cs.map pt))), x6, x7, some (.dat (.list (cntD (pts.map dpL) qs (pts.length + 1)))), x9, x10, x11, x12, x13, x14, x15, x16] _
    repeat walk_at "we"
    refine WE.imp (Ψ := fun v => v = .list (cntD (pts.map dpL) qs (pts.length + 1))) ?all_ ?_
    case all_ =>
      refine we_lc (by walk_at "og") (wi_rng1 ?_)
      repeat walk_at "we"
      refine cd_len (.inl rfl) ?_
      repeat walk_at "we"
      rw [List.length_map]
      refine ⟨by omega, by omega, by rw [rngD_len]; omega, fun i acc => acc = cntD (pts.map dpL) qs i, rfl, ?_, ?_, ?_⟩
      · rintro k dk acc hk rfl
        obtain ⟨hkl, rfl⟩ := rngD_inv hk
        rw [Int.zero_add]
        have hk7 : k ≤ 20 := by omega
        refine wg_name ?_
        show WT K C _ [none, some .row, some (.dat (.list (pts.map pt))), x3, some (.dat (.tuple ((pts.map dpL).map Ln))), some (.dat (.list (cs.map pt))), x6, some (.dat (.int (k : Int))), some (.dat (.list (cntD (pts.map dpL) qs (pts.length + 1)))), x9, x10, x11, x12, x13, x14, x15, x16] _
        repeat walk_at "we"
        refine ⟨fun _ => ?_, fun z => nomatch z⟩
        repeat walk_at "we"
        refine ⟨(pts.map dpL, k), rfl, ⟨hL, hk7⟩, ?_⟩
        rintro _ ⟨rs, hr, rfl⟩
        refine wa_nil (cd_len (.inr rfl) ?_)
        rw [List.length_map, cor_len hr hqn hqc]
        show cntD (pts.map dpL) qs k ++ [_] = cntD (pts.map dpL) qs (k + 1)
        unfold cntD
        rw [List.range_succ, List.map_append, List.map_append]
        rfl
      · rintro k acc rfl
        rw [cntD_len]
        exact Nat.le_refl _
      · rintro acc rfl
        rw [rngD_len]
        rfl
    rintro _ rfl
    repeat walk_at "we"
    refine rd_eqD (shaped_ints _) (shaped_ints _) ?_
    show PyData.bool _ = PyData.bool true
    congr 1
    exact eqv_ints _

end
end Rf
set_option Elab.async false
set_option linter.all false
set_option maxRecDepth 100000
set_option maxHeartbeats 0
namespace Rf
open PySem PySem.Spec PyProof.Rows L2 Evl
/-! ### the head -/
def dfn : List He.DefD := [
  ⟨("is_whole", none), "is_whole", "is_whole", defArgs s_is_whole, defBody s_is_whole, defScope s_is_whole, [], []⟩,
  ⟨("are_numbers", none), "are_numbers", "are_numbers", defArgs s_are_numbers, defBody s_are_numbers, defScope s_are_numbers, [], []⟩,
  ⟨("sign", none), "sign", "sign", defArgs s_sign, defBody s_sign, defScope s_sign, [], []⟩,
  ⟨("is_ratio", none), "is_ratio", "is_ratio", defArgs s_is_ratio, defBody s_is_ratio, defScope s_is_ratio, [], []⟩,
  ⟨("common_divisor", none), "common_divisor", "common_divisor", defArgs s_common_divisor, defBody s_common_divisor, defScope s_common_divisor, [], []⟩,
  ⟨("ratio", none), "ratio", "ratio", defArgs s_ratio, defBody s_ratio, defScope s_ratio, [], []⟩,
  ⟨("lowest", none), "lowest", "lowest", defArgs s_lowest, defBody s_lowest, defScope s_lowest, [], []⟩,
  ⟨("is_lowest", none), "is_lowest", "is_lowest", defArgs s_is_lowest, defBody s_is_lowest, defScope s_is_lowest, [], []⟩,
  ⟨("is_within", none), "is_within", "is_within", defArgs s_is_within, defBody s_is_within, defScope s_is_within, [], []⟩,
  ⟨("is_point", none), "is_point", "is_point", defArgs s_is_point, defBody s_is_point, defScope s_is_point, [], []⟩,
  ⟨("check_each", none), "check_each", "check_each", defArgs s_check_each, defBody s_check_each, defScope s_check_each, [], []⟩,
  ⟨("on_grid", none), "on_grid", "on_grid", defArgs s_on_grid, defBody s_on_grid, defScope s_on_grid, [], []⟩,
  ⟨("ranking", none), "ranking", "ranking", defArgs s_ranking, defBody s_ranking, defScope s_ranking, [], []⟩,
  ⟨("is_line", none), "is_line", "is_line", defArgs s_is_line, defBody s_is_line, defScope s_is_line, [], []⟩,
  ⟨("check_lines", none), "check_lines", "check_lines", defArgs s_check_lines, defBody s_check_lines, defScope s_check_lines, [], []⟩,
  ⟨("height", none), "height", "height", defArgs s_height, defBody s_height, defScope s_height, [], []⟩,
  ⟨("dual_of_point", none), "dual_of_point", "dual_of_point", defArgs s_dual_of_point, defBody s_dual_of_point, defScope s_dual_of_point, [], []⟩,
  ⟨("common_of_lines", none), "common_of_lines", "common_of_lines", defArgs s_common_of_lines, defBody s_common_of_lines, defScope s_common_of_lines, [], []⟩,
  ⟨("level_corners", none), "level_corners", "level_corners", defArgs s_level_corners, defBody s_level_corners, defScope s_level_corners, [], []⟩,
  ⟨("_law_taken", none), "_law_taken", "_law_taken", defArgs s_law_taken, defBody s_law_taken, defScope s_law_taken, [], []⟩,
  ⟨("_law_pick", none), "_law_pick", "_law_pick", defArgs s_law_pick, defBody s_law_pick, defScope s_law_pick, [], []⟩,
  ⟨("_law_signed", none), "_law_signed", "_law_signed", defArgs s_law_signed, defBody s_law_signed, defScope s_law_signed, [], []⟩,
  ⟨("_law_grid", none), "_law_grid", "_law_grid", defArgs s_law_grid, defBody s_law_grid, defScope s_law_grid, [], []⟩,
  ⟨("_law_sign", none), "_law_sign", "_law_sign", defArgs s_law_sign, defBody s_law_sign, defScope s_law_sign, [], []⟩,
  ⟨("_law_doubled", none), "_law_doubled", "_law_doubled", defArgs s_law_doubled, defBody s_law_doubled, defScope s_law_doubled, [], []⟩,
  ⟨("_law_turn", none), "_law_turn", "_law_turn", defArgs s_law_turn, defBody s_law_turn, defScope s_law_turn, [], []⟩,
  ⟨("_law_general", none), "_law_general", "_law_general", defArgs s_law_general, defBody s_law_general, defScope s_law_general, [], []⟩,
  ⟨("_law_gcd", none), "_law_gcd", "_law_gcd", defArgs s_law_gcd, defBody s_law_gcd, defScope s_law_gcd, [], []⟩,
  ⟨("_law_ratio", none), "_law_ratio", "_law_ratio", defArgs s_law_ratio, defBody s_law_ratio, defScope s_law_ratio, [], []⟩,
  ⟨("_law_times", none), "_law_times", "_law_times", defArgs s_law_times, defBody s_law_times, defScope s_law_times, [], []⟩,
  ⟨("_law_plus", none), "_law_plus", "_law_plus", defArgs s_law_plus, defBody s_law_plus, defScope s_law_plus, [], []⟩,
  ⟨("_law_lowest", none), "_law_lowest", "_law_lowest", defArgs s_law_lowest, defBody s_law_lowest, defScope s_law_lowest, [], []⟩,
  ⟨("_law_corner", none), "_law_corner", "_law_corner", defArgs s_law_corner, defBody s_law_corner, defScope s_law_corner, [], []⟩,
  ⟨("_law_above", none), "_law_above", "_law_above", defArgs s_law_above, defBody s_law_above, defScope s_law_above, [], []⟩,
  ⟨("_law_alike", none), "_law_alike", "_law_alike", defArgs s_law_alike, defBody s_law_alike, defScope s_law_alike, [], []⟩,
  ⟨("_law_order", none), "_law_order", "_law_order", defArgs s_law_order, defBody s_law_order, defScope s_law_order, [], []⟩,
  ⟨("_law_ordered", none), "_law_ordered", "_law_ordered", defArgs s_law_ordered, defBody s_law_ordered, defScope s_law_ordered, [], []⟩,
  ⟨("law", none), "law", "law", defArgs s_law, defBody s_law, defScope s_law, [], []⟩]
def fac : List He.Fa := [.glo "is_whole", .glo "are_numbers", .glo "sign", .glo "is_ratio", .glo "common_divisor", .glo "ratio", .glo "lowest", .glo "is_lowest", .glo "is_within", .glo "is_point", .glo "check_each", .glo "on_grid", .glo "ranking", .glo "is_line", .glo "check_lines", .glo "height", .glo "dual_of_point", .glo "common_of_lines", .glo "level_corners", .glo "_law_taken", .glo "_law_pick", .glo "_law_signed", .glo "_law_grid", .glo "_law_sign", .glo "_law_doubled", .glo "_law_turn", .glo "_law_general", .glo "_law_gcd", .glo "_law_ratio", .glo "_law_times", .glo "_law_plus", .glo "_law_lowest", .glo "_law_corner", .glo "_law_above", .glo "_law_alike", .glo "_law_order", .glo "_law_ordered", .glo "law", .free "isinstance", .free "bool", .free "int", .free "len", .free "tuple", .free "max", .free "abs", .free "sorted", .free "enumerate", .free "list", .free "range", .free "str", .int "LIMIT" 1000000000000, .int "MOST_LINES" 20]
def bls : List (Str × Value) := [("gcd", .builtin "math.gcd"), ("lcm", .builtin "math.lcm"), ("combinations", .type "itertools.combinations")]
theorem says_of {K : PySem.W.Frag} {h : Heap} (_ : K.In h) (e : SaysE bls fac dfn K) : SaysE bls fac dfn K := e
theorem tx {K : PySem.W.Frag} {h : Heap} {mg : Str → Option Value} (X : K.In h) (G : h.Ns mainGlobals mg) (c : SaysE bls fac dfn K) : Tx K mg where
  n_isinstance := He.free_ok X G (c.d.fact 38 (f := .free "isinstance") rfl)
  n_bool := He.free_ok X G (c.d.fact 39 (f := .free "bool") rfl)
  n_int := He.free_ok X G (c.d.fact 40 (f := .free "int") rfl)
  n_len := He.free_ok X G (c.d.fact 41 (f := .free "len") rfl)
  n_tuple := He.free_ok X G (c.d.fact 42 (f := .free "tuple") rfl)
  n_max := He.free_ok X G (c.d.fact 43 (f := .free "max") rfl)
  n_abs := He.free_ok X G (c.d.fact 44 (f := .free "abs") rfl)
  n_sorted := He.free_ok X G (c.d.fact 45 (f := .free "sorted") rfl)
  n_enumerate := He.free_ok X G (c.d.fact 46 (f := .free "enumerate") rfl)
  n_list := He.free_ok X G (c.d.fact 47 (f := .free "list") rfl)
  n_range := He.free_ok X G (c.d.fact 48 (f := .free "range") rfl)
  n_str := He.free_ok X G (c.d.fact 49 (f := .free "str") rfl)
  c_LIMIT := He.int_ok X G (c.d.fact 50 (f := .int "LIMIT" 1000000000000) rfl)
  c_MOST_LINES := He.int_ok X G (c.d.fact 51 (f := .int "MOST_LINES" 20) rfl)
  m_gcd := by
    exact PySem.W.mg_of X G (c.blt 0 (p := ("gcd", .builtin "math.gcd")) rfl)
  m_lcm := by
    exact PySem.W.mg_of X G (c.blt 1 (p := ("lcm", .builtin "math.lcm")) rfl)
  m_combinations := by
    exact PySem.W.mg_of X G (c.blt 2 (p := ("combinations", .type "itertools.combinations")) rfl)
  g_is_whole := He.glo_ok X G (c.d.fact 0 (f := .glo "is_whole") rfl)
  d_is_whole := funD_fdK (c.d.def_ 0 rfl)
  g_are_numbers := He.glo_ok X G (c.d.fact 1 (f := .glo "are_numbers") rfl)
  d_are_numbers := funD_fdK (c.d.def_ 1 rfl)
  g_sign := He.glo_ok X G (c.d.fact 2 (f := .glo "sign") rfl)
  d_sign := funD_fdK (c.d.def_ 2 rfl)
  g_is_ratio := He.glo_ok X G (c.d.fact 3 (f := .glo "is_ratio") rfl)
  d_is_ratio := funD_fdK (c.d.def_ 3 rfl)
  g_common_divisor := He.glo_ok X G (c.d.fact 4 (f := .glo "common_divisor") rfl)
  d_common_divisor := funD_fdK (c.d.def_ 4 rfl)
  g_ratio := He.glo_ok X G (c.d.fact 5 (f := .glo "ratio") rfl)
  d_ratio := funD_fdK (c.d.def_ 5 rfl)
  g_lowest := He.glo_ok X G (c.d.fact 6 (f := .glo "lowest") rfl)
  d_lowest := funD_fdK (c.d.def_ 6 rfl)
  g_is_lowest := He.glo_ok X G (c.d.fact 7 (f := .glo "is_lowest") rfl)
  d_is_lowest := funD_fdK (c.d.def_ 7 rfl)
  g_is_within := He.glo_ok X G (c.d.fact 8 (f := .glo "is_within") rfl)
  d_is_within := funD_fdK (c.d.def_ 8 rfl)
  g_is_point := He.glo_ok X G (c.d.fact 9 (f := .glo "is_point") rfl)
  d_is_point := funD_fdK (c.d.def_ 9 rfl)
  g_check_each := He.glo_ok X G (c.d.fact 10 (f := .glo "check_each") rfl)
  d_check_each := funD_fdK (c.d.def_ 10 rfl)
  g_on_grid := He.glo_ok X G (c.d.fact 11 (f := .glo "on_grid") rfl)
  d_on_grid := funD_fdK (c.d.def_ 11 rfl)
  g_ranking := He.glo_ok X G (c.d.fact 12 (f := .glo "ranking") rfl)
  d_ranking := funD_fdK (c.d.def_ 12 rfl)
  g_is_line := He.glo_ok X G (c.d.fact 13 (f := .glo "is_line") rfl)
  d_is_line := funD_fdK (c.d.def_ 13 rfl)
  g_check_lines := He.glo_ok X G (c.d.fact 14 (f := .glo "check_lines") rfl)
  d_check_lines := funD_fdK (c.d.def_ 14 rfl)
  g_height := He.glo_ok X G (c.d.fact 15 (f := .glo "height") rfl)
  d_height := funD_fdK (c.d.def_ 15 rfl)
  g_dual_of_point := He.glo_ok X G (c.d.fact 16 (f := .glo "dual_of_point") rfl)
  d_dual_of_point := funD_fdK (c.d.def_ 16 rfl)
  g_common_of_lines := He.glo_ok X G (c.d.fact 17 (f := .glo "common_of_lines") rfl)
  d_common_of_lines := funD_fdK (c.d.def_ 17 rfl)
  g_level_corners := He.glo_ok X G (c.d.fact 18 (f := .glo "level_corners") rfl)
  d_level_corners := funD_fdK (c.d.def_ 18 rfl)
  g_law_taken := He.glo_ok X G (c.d.fact 19 (f := .glo "_law_taken") rfl)
  d_law_taken := funD_fdK (c.d.def_ 19 rfl)
  g_law_pick := He.glo_ok X G (c.d.fact 20 (f := .glo "_law_pick") rfl)
  d_law_pick := funD_fdK (c.d.def_ 20 rfl)
  g_law_signed := He.glo_ok X G (c.d.fact 21 (f := .glo "_law_signed") rfl)
  d_law_signed := funD_fdK (c.d.def_ 21 rfl)
  g_law_grid := He.glo_ok X G (c.d.fact 22 (f := .glo "_law_grid") rfl)
  d_law_grid := funD_fdK (c.d.def_ 22 rfl)
  g_law_sign := He.glo_ok X G (c.d.fact 23 (f := .glo "_law_sign") rfl)
  d_law_sign := funD_fdK (c.d.def_ 23 rfl)
  g_law_doubled := He.glo_ok X G (c.d.fact 24 (f := .glo "_law_doubled") rfl)
  d_law_doubled := funD_fdK (c.d.def_ 24 rfl)
  g_law_turn := He.glo_ok X G (c.d.fact 25 (f := .glo "_law_turn") rfl)
  d_law_turn := funD_fdK (c.d.def_ 25 rfl)
  g_law_general := He.glo_ok X G (c.d.fact 26 (f := .glo "_law_general") rfl)
  d_law_general := funD_fdK (c.d.def_ 26 rfl)
  g_law_gcd := He.glo_ok X G (c.d.fact 27 (f := .glo "_law_gcd") rfl)
  d_law_gcd := funD_fdK (c.d.def_ 27 rfl)
  g_law_ratio := He.glo_ok X G (c.d.fact 28 (f := .glo "_law_ratio") rfl)
  d_law_ratio := funD_fdK (c.d.def_ 28 rfl)
  g_law_times := He.glo_ok X G (c.d.fact 29 (f := .glo "_law_times") rfl)
  d_law_times := funD_fdK (c.d.def_ 29 rfl)
  g_law_plus := He.glo_ok X G (c.d.fact 30 (f := .glo "_law_plus") rfl)
  d_law_plus := funD_fdK (c.d.def_ 30 rfl)
  g_law_lowest := He.glo_ok X G (c.d.fact 31 (f := .glo "_law_lowest") rfl)
  d_law_lowest := funD_fdK (c.d.def_ 31 rfl)
  g_law_corner := He.glo_ok X G (c.d.fact 32 (f := .glo "_law_corner") rfl)
  d_law_corner := funD_fdK (c.d.def_ 32 rfl)
  g_law_above := He.glo_ok X G (c.d.fact 33 (f := .glo "_law_above") rfl)
  d_law_above := funD_fdK (c.d.def_ 33 rfl)
  g_law_alike := He.glo_ok X G (c.d.fact 34 (f := .glo "_law_alike") rfl)
  d_law_alike := funD_fdK (c.d.def_ 34 rfl)
  g_law_order := He.glo_ok X G (c.d.fact 35 (f := .glo "_law_order") rfl)
  d_law_order := funD_fdK (c.d.def_ 35 rfl)
  g_law_ordered := He.glo_ok X G (c.d.fact 36 (f := .glo "_law_ordered") rfl)
  d_law_ordered := funD_fdK (c.d.def_ 36 rfl)
  g_law := He.glo_ok X G (c.d.fact 37 (f := .glo "law") rfl)
  d_law := funD_fdK (c.d.def_ 37 rfl)
theorem fin {P : Program} {w : World} {K : PySem.W.Frag} {h : Heap} {mg : Str → Option Value} {fa : Addr} (X : K.In h) (G : h.Ns mainGlobals mg) (hmg : mg "law" = some (.ref fa)) (c : obsE bls fac dfn K = valE dfn) :
    ∃ fd : FuncData, (∀ (s : Shared) (v : Value), BindsTo s fd ⟨[v], []⟩ [("script", v)]) ∧ ∀ base : Heap, K.In base → base.Ns mainGlobals mg → FnOk P w K mg base CX0 9 fa fd ["script"] (spLaw K) := by
  have T := tx X G c
  have e := hmg.symm.trans T.g_law
  cases e
  have b := FunD.bindsA (ps := ["script"]) T.d_law fun _ _ _ _ _ _ us hl => match us, hl with | [_], _ => rfl
  exact ⟨fdK K "law", fun s v => b s [v] rfl, fun base _ _ => ok_law T⟩
end Rf
open PySem PySem.W PySem.Calls PyProof.Rows
theorem PySem.Challenge.cw_meshcore_k22_whole_levels_and_edges_holds : PySem.Challenge.rw_meshcore_k22_whole_levels_and_edges.Holds := by
  w_on; o_law; k_head; (case hw => w_witness2)
  k_fill
  refine L2.walk_ofE (l := PySem.Challenge.rw_meshcore_k22_whole_levels_and_edges) (k := 9) (x := "script") (CX := L2.CX0) rfl (by decide) (by rfl) ⟨rfl, by decide, by decide⟩ ?F (fun _ _ _ _ z => z)
  intro w mg fa h Y G hmg
  have KX := PySem.W.kIn_of Y
  obtain ⟨fd, hb, hF⟩ := Rf.fin (P := (PySem.Challenge.rw_meshcore_k22_whole_levels_and_edges).prog) (w := w) KX G hmg (by kernel_rfl)
  exact ⟨_, fd, Rf.spLaw _, KX, hb, fun H a ns hl _ hS => ⟨a, ns, rfl, hS, fun _ => rfl⟩, hF⟩
