import PyProof.Rows.All
import Wide.All
import OpenK.AllK
import Wide.FinOn
import HandS.Base
import HandS.Call
import HandS.Comp
import HandS.Deep
import HandS.Dict
import HandS.Ends
import HandS.IsInst
import HandS.Iter
import HandS.List
import HandS.RaiseMore
import HandS.RevRange
import HandS.Style
import HandS.Text
import HandS.TupAny
import HandS.Wide
import HandS.Words
import PyProof.ReprRoads
import PySem.Challenge.RW_bookpack_k02_ids_links_and_tokens
set_option Elab.async false
set_option linter.all false
set_option maxRecDepth 100000
set_option maxHeartbeats 4000000
/-! Data as plain values, and readings by what is wanted of them. -/
namespace DI
open PySem L2

inductive D where
  | non | bl (b : Bool) | int (i : Int) | str (x : Str) | lst (xs : List D) | tup (xs : List D) | drw | dic0
instance : Inhabited D := ⟨.non⟩

mutual
inductive Rp (K : PySem.W.Frag) (dr : Option Addr) (G : Hp) : V → D → Prop
  | non : Rp K dr G .non .non
  | bl (b : Bool) : Rp K dr G (.bl b) (.bl b)
  | int (i : Int) : Rp K dr G (.int i) (.int i)
  | str (x : Str) : Rp K dr G (.str x) (.str x)
  | lst {a : Addr} {xs : List V} {ds : List D} : G a = some (.lst xs) → RpA K dr G xs ds → Rp K dr G (.ref a) (.lst ds)
  | tup {a : Addr} {xs : List V} {ds : List D} : SqT K G a xs → RpA K dr G xs ds → Rp K dr G (.ref a) (.tup ds)
  | drw {a : Addr} : dr = some a → Rp K dr G (.ref a) .drw
  | dic0 {a : Addr} : G a = some (.dK []) → Rp K dr G (.ref a) .dic0
inductive RpA (K : PySem.W.Frag) (dr : Option Addr) (G : Hp) : List V → List D → Prop
  | nil : RpA K dr G [] []
  | cons {v : V} {vs : List V} {d : D} {ds : List D} : Rp K dr G v d → RpA K dr G vs ds → RpA K dr G (v :: vs) (d :: ds)
end

theorem Same.tup {K : PySem.W.Frag} {H H' : Hp} {a : Addr} {xs : List V} (e : Same H H') (h : SqT K H a xs) : SqT K H' a xs := by
  rcases h with (h | ⟨o, h⟩) | h
  · exact .inl (.inl (e _ _ h))
  · exact .inl (.inr ⟨o, e _ _ h⟩)
  · exact .inr h

section
variable {K : PySem.W.Frag} {dr : Option Addr} {G G' : Hp}
mutual
theorem Rp.mono (e : Same G G') {v : V} {d : D} : Rp K dr G v d → Rp K dr G' v d
  | .non => .non
  | .bl b => .bl b
  | .int i => .int i
  | .str x => .str x
  | .lst h hs => .lst (e _ _ h) (RpA.mono e hs)
  | .tup h hs => .tup (Same.tup e h) (RpA.mono e hs)
  | .drw h => .drw h
  | .dic0 h => .dic0 (e _ _ h)
theorem RpA.mono (e : Same G G') {vs : List V} {ds : List D} : RpA K dr G vs ds → RpA K dr G' vs ds
  | .nil => .nil
  | .cons h hs => .cons (Rp.mono e h) (RpA.mono e hs)
end
theorem RpA.length : ∀ {vs : List V} {ds : List D}, RpA K dr G vs ds → vs.length = ds.length
  | _, _, .nil => rfl
  | _, _, .cons _ t => by rw [List.length_cons, List.length_cons, RpA.length t]
theorem RpA.append : ∀ {vs ws : List V} {ds es : List D}, RpA K dr G vs ds → RpA K dr G ws es → RpA K dr G (vs ++ ws) (ds ++ es)
  | _, _, _, _, .nil, s => s
  | _, _, _, _, .cons r t, s => .cons r (RpA.append t s)
theorem RpA.get : ∀ {vs : List V} {ds : List D} {i : Nat} {d : D}, RpA K dr G vs ds → ds[i]? = some d → ∃ v, vs[i]? = some v ∧ Rp K dr G v d
  | _, _, _, _, .nil, e => by simp at e
  | _, _, 0, _, .cons r _, e => by simp at e; subst e; exact ⟨_, rfl, r⟩
  | _, _, i + 1, d, .cons _ t, e => by
    obtain ⟨u, h1, h2⟩ := RpA.get (i := i) (d := d) t (by simpa using e)
    exact ⟨u, by simpa using h1, h2⟩
theorem RpA.getV : ∀ {vs : List V} {ds : List D} {i : Nat} {v : V}, RpA K dr G vs ds → vs[i]? = some v → ∃ d, ds[i]? = some d ∧ Rp K dr G v d
  | _, _, _, _, .nil, e => by simp at e
  | _, _, 0, _, .cons r _, e => by simp at e; subst e; exact ⟨_, rfl, r⟩
  | _, _, i + 1, v, .cons _ t, e => by
    obtain ⟨u, h1, h2⟩ := RpA.getV (i := i) (v := v) t (by simpa using e)
    exact ⟨u, by simpa using h1, h2⟩
theorem RpA.take : ∀ {vs : List V} {ds : List D} (n : Nat), RpA K dr G vs ds → RpA K dr G (vs.take n) (ds.take n)
  | _, _, 0, _ => by simp; exact .nil
  | _, _, _ + 1, .nil => .nil
  | _, _, n + 1, .cons r t => .cons r (RpA.take n t)
theorem RpA.drop : ∀ {vs : List V} {ds : List D} (n : Nat), RpA K dr G vs ds → RpA K dr G (vs.drop n) (ds.drop n)
  | _, _, 0, r => r
  | _, _, _ + 1, .nil => .nil
  | _, _, n + 1, .cons _ t => RpA.drop n t
theorem RpA.dropLast {vs : List V} {ds : List D} (h : RpA K dr G vs ds) : RpA K dr G vs.dropLast ds.dropLast := by
  rw [List.dropLast_eq_take, List.dropLast_eq_take, h.length]
  exact h.take _
theorem RpA.set {v : V} {d : D} (r : Rp K dr G v d) : ∀ {vs : List V} {ds : List D} (i : Nat), RpA K dr G vs ds → RpA K dr G (vs.set i v) (ds.set i d)
  | _, _, _, .nil => .nil
  | _, _, 0, .cons _ t => .cons r t
  | _, _, i + 1, .cons q t => .cons q (RpA.set r i t)
theorem RpA.reverse : ∀ {vs : List V} {ds : List D}, RpA K dr G vs ds → RpA K dr G vs.reverse ds.reverse
  | _, _, .nil => .nil
  | _, _, .cons r t => by
    rw [List.reverse_cons, List.reverse_cons]
    exact (RpA.reverse t).append (.cons r .nil)
theorem RpA.strs : ∀ (xs : List Str), RpA K dr G (xs.map V.str) (xs.map D.str)
  | [] => .nil
  | x :: xs => .cons (.str x) (RpA.strs xs)
theorem RpA.ints : ∀ (xs : List Int), RpA K dr G (xs.map V.int) (xs.map D.int)
  | [] => .nil
  | x :: xs => .cons (.int x) (RpA.ints xs)
end

/-! ### the draws -/
structure DrwOk (ns : List Int) (at_ left used : Int) (n : Nat) : Prop where
  ne : 0 < ns.length
  le : ns.length ≤ 64
  a0 : 0 ≤ at_
  an : at_ ≤ n
  u0 : 0 ≤ used
  un : used ≤ n
def drwK (L : Addr) (at_ left used : Int) : List (Key × V) := [(Sum.inr "cells", .ref L), (Sum.inr "at", .int at_), (Sum.inr "left", .int left), (Sum.inr "used", .int used)]
structure DrwAt (G H : Hp) (a : Addr) (n : Nat) : Prop where
  free : G a = none
  ex : ∃ (L : Addr) (ns : List Int) (at_ left used : Int), H a = some (.dK (drwK L at_ left used)) ∧ G L = some (.lst (ns.map V.int)) ∧ DrwOk ns at_ left used n
def Drw (G H : Hp) (dr : Option Addr) (n : Nat) : Prop := ∀ a, dr = some a → DrwAt G H a n

/-! ### the state -/
inductive Sl where
  | emp | val (d : D) | own (ds : List D) | bor (ds : List D)
structure S where
  env : List Sl
  n : Nat
def Sub (G H : Hp) : Prop := ∀ a o, G a = some o → H a = some o
/-- all but the draws' dict stands -/
def Bse (dr : Option Addr) (H H' : Hp) : Prop := ∀ a o, dr ≠ some a → H a = some o → H' a = some o
/-- what is new was free -/
def New (H0 G0 G : Hp) : Prop := ∀ a, G0 a = none → H0 a ≠ none → G a = none

def SlR (K : PySem.W.Frag) (dr : Option Addr) (H0 H G : Hp) (v : Option (Option V)) : Sl → Prop
  | .emp => True
  | .val d => ∃ u, v = some (some u) ∧ Rp K dr G u d
  | .own ds => ∃ p xs, v = some (some (.ref p)) ∧ H p = some (.lst xs) ∧ G p = none ∧ dr ≠ some p ∧ H0 p = none ∧ RpA K dr G xs ds
  | .bor ds => ∃ p xs, v = some (some (.ref p)) ∧ H p = some (.lst xs) ∧ H0 p ≠ none ∧ RpA K dr G xs ds
structure Rs (K : PySem.W.Frag) (dr : Option Addr) (H0 G0 : Hp) (σ : St) (H G : Hp) (s : S) : Prop where
  sub : Sub G H
  base : Bse dr H0 H
  new : New H0 G0 G
  len : s.env.length = σ.length
  slot : ∀ (i : Nat) (x : Sl), s.env[i]? = some x → SlR K dr H0 H G σ[i]? x
  inj : ∀ (i j : Nat) (p : Addr) (ds es : List D), i ≠ j → s.env[i]? = some (.own ds) → s.env[j]? = some (.own es) → σ[i]? = some (some (.ref p)) → σ[j]? ≠ some (some (.ref p))
  drw : Drw G H dr s.n
section
variable {K : PySem.W.Frag} {dr : Option Addr} {H0 G0 : Hp} {σ : St} {H G H' G' : Hp} {s : S}
theorem Drw.ne (h : Drw G H dr n) {p : Addr} (hp : H p = none) : dr ≠ some p := fun e => by
  obtain ⟨L, ns, a, l, u, e1, _⟩ := (h p e).ex
  rw [hp] at e1
  cases e1
theorem Sub.none (h : Sub G H) {p : Addr} (hp : H p = none) : G p = none := by
  cases e : G p with
  | none => rfl
  | some o =>
    rw [h p o e] at hp
    cases hp
theorem Same.upd {p : Addr} {o : HO} (h : H p = none) : Same H (upd H p o) := fun a u e => by
  rw [upd_ne (ne_of_none e h)]
  exact e
/-- a new object of both heaps -/
theorem Rs.alloc {p : Addr} {o : HO} (R : Rs K dr H0 G0 σ H G s) (hp : H p = none) : Rs K dr H0 G0 σ (upd H p o) (upd G p o) s := by
  have gp : G p = none := R.sub.none hp
  have dn : dr ≠ some p := R.drw.ne hp
  have kG : Same G (upd G p o) := Same.upd gp
  refine ⟨fun a u e => ?_, fun a u hd e => ?_, fun a h1 h2 => ?_, R.len, fun i x hx => ?_, R.inj, fun a ha => ?_⟩
  · by_cases h : a = p
    · subst h
      rw [upd_same] at e ⊢
      exact e
    · rw [upd_ne h] at e ⊢
      exact R.sub a u e
  · rw [upd_ne (ne_of_none (R.base a u hd e) hp)]
    exact R.base a u hd e
  · by_cases h : a = p
    · subst h
      cases e : H0 a with
      | none => exact absurd e h2
      | some u =>
        have z := R.base a u dn e
        rw [hp] at z
        cases z
    · rw [upd_ne h]
      exact R.new a h1 h2
  · have q := R.slot i x hx
    cases x with
    | emp => trivial
    | val d =>
      obtain ⟨u, e, r⟩ := q
      exact ⟨u, e, r.mono kG⟩
    | own ds =>
      obtain ⟨q1, xs, e, h1, h2, h3, h4, r⟩ := q
      have ne : q1 ≠ p := ne_of_none h1 hp
      exact ⟨q1, xs, e, by rw [upd_ne ne]; exact h1, by rw [upd_ne ne]; exact h2, h3, h4, r.mono kG⟩
    | bor ds =>
      obtain ⟨q1, xs, e, h1, h2, r⟩ := q
      exact ⟨q1, xs, e, by rw [upd_ne (ne_of_none h1 hp)]; exact h1, h2, r.mono kG⟩
  · obtain ⟨f, L, ns, x, l, u, e1, e2, k⟩ := R.drw a ha
    have ne : a ≠ p := fun z => dn (by rw [ha, z])
    exact ⟨by rw [upd_ne ne]; exact f, L, ns, x, l, u, by rw [upd_ne ne]; exact e1, kG L _ e2, k⟩
/-- a slot stored -/
theorem Rs.set {i : Nat} {v : V} {d : D} (R : Rs K dr H0 G0 σ H G s) (hi : i < σ.length) (r : Rp K dr G v d) : Rs K dr H0 G0 (σ.set i (some v)) H G { s with env := s.env.set i (.val d) } := by
  refine ⟨R.sub, R.base, R.new, by simp [R.len], fun j x hx => ?_, fun j k p ds es hjk e1 e2 e3 => ?_, R.drw⟩
  · by_cases h : i = j
    · subst h
      rw [List.getElem?_set_self (by rw [R.len]; exact hi)] at hx
      cases hx
      exact ⟨v, by rw [List.getElem?_set_self hi], r⟩
    · rw [List.getElem?_set_ne h] at hx ⊢
      exact R.slot j x hx
  · have nj : i ≠ j := fun z => by
      subst z
      rw [List.getElem?_set_self (by rw [R.len]; exact hi)] at e1
      cases e1
    have nk : i ≠ k := fun z => by
      subst z
      rw [List.getElem?_set_self (by rw [R.len]; exact hi)] at e2
      cases e2
    rw [List.getElem?_set_ne nj] at e1 e3
    rw [List.getElem?_set_ne nk] at e2 ⊢
    exact R.inj j k p ds es hjk e1 e2 e3
/-- a new list comes to be a slot's own: ahead of its tracking in G -/
theorem Rs.setOwn {i : Nat} {p : Addr} {xs : List V} {ds : List D} (R : Rs K dr H0 G0 σ H G s) (hi : i < σ.length) (hp : H p = none) (r : RpA K dr G xs ds) :
    Rs K dr H0 G0 (σ.set i (some (.ref p))) (L2.upd H p (.lst xs)) G { s with env := s.env.set i (.own ds) } := by
  have gp : G p = none := R.sub.none hp
  have dn : dr ≠ some p := R.drw.ne hp
  have h0p : H0 p = none := by
    cases e : H0 p with
    | none => rfl
    | some u =>
      have z := R.base p u dn e
      rw [hp] at z
      cases z
  have fr : ∀ j es, i ≠ j → s.env[j]? = some (.own es) → σ[j]? ≠ some (some (.ref p)) := fun j es hj e z => by
    obtain ⟨q, ys, e1, h1, _⟩ := R.slot j _ e
    rw [z] at e1
    cases e1
    rw [hp] at h1
    cases h1
  refine ⟨fun a u e => ?_, fun a u hd e => ?_, R.new, by simp [R.len], fun j x hx => ?_, fun j k q es fs hjk e1 e2 e3 => ?_, fun a ha => ?_⟩
  · rw [upd_ne (ne_of_none (R.sub a u e) hp)]
    exact R.sub a u e
  · rw [upd_ne (ne_of_none (R.base a u hd e) hp)]
    exact R.base a u hd e
  · by_cases h : i = j
    · subst h
      rw [List.getElem?_set_self (by rw [R.len]; exact hi)] at hx
      cases hx
      exact ⟨p, xs, by rw [List.getElem?_set_self hi], upd_same, gp, dn, h0p, r⟩
    · rw [List.getElem?_set_ne h] at hx ⊢
      have q := R.slot j x hx
      cases x with
      | emp => trivial
      | val d => exact q
      | own es =>
        obtain ⟨q1, ys, e, h1, h2, h3, h4, r⟩ := q
        exact ⟨q1, ys, e, by rw [upd_ne (ne_of_none h1 hp)]; exact h1, h2, h3, h4, r⟩
      | bor es =>
        obtain ⟨q1, ys, e, h1, h2, r⟩ := q
        exact ⟨q1, ys, e, by rw [upd_ne (ne_of_none h1 hp)]; exact h1, h2, r⟩
  · by_cases h : i = j
    · subst h
      rw [List.getElem?_set_self hi] at e3
      cases e3
      rw [List.getElem?_set_ne hjk] at e2 ⊢
      exact fr k _ hjk e2
    · rw [List.getElem?_set_ne h] at e1 e3
      by_cases h' : i = k
      · subst h'
        rw [List.getElem?_set_self hi]
        intro z
        cases z
        exact fr j _ h e1 e3
      · rw [List.getElem?_set_ne h'] at e2 ⊢
        exact R.inj j k q es fs hjk e1 e2 e3
  · obtain ⟨f, L, ns, x, l, u, e1, e2, k⟩ := R.drw a ha
    exact ⟨f, L, ns, x, l, u, by rw [upd_ne (ne_of_none e1 hp)]; exact e1, e2, k⟩
/-- a slot's own list is written -/
theorem Rs.write {i : Nat} {p : Addr} {ys : List V} {ds es : List D} (R : Rs K dr H0 G0 σ H G s) (hx : s.env[i]? = some (.own ds)) (hv : σ[i]? = some (some (.ref p))) (r : RpA K dr G ys es) :
    Rs K dr H0 G0 σ (L2.upd H p (.lst ys)) G { s with env := s.env.set i (.own es) } := by
  obtain ⟨p', xs, e1, h1, h2, h3, h4, r0⟩ := R.slot i _ hx
  rw [hv] at e1
  cases e1
  have hi : i < σ.length := by
    have := (List.getElem?_eq_some_iff.mp hx).1
    rw [R.len] at this
    exact this
  have hie : i < s.env.length := by rw [R.len]; exact hi
  refine ⟨fun a u e => ?_, fun a u hd e => ?_, R.new, by simp [R.len], fun j x hx' => ?_, fun j k q es' fs hjk e1 e2 e3 => ?_, fun a ha => ?_⟩
  · have ne : a ≠ p := fun z => by
      subst z
      rw [h2] at e
      cases e
    rw [upd_ne ne]
    exact R.sub a u e
  · have ne : a ≠ p := fun z => by
      subst z
      rw [h4] at e
      cases e
    rw [upd_ne ne]
    exact R.base a u hd e
  · by_cases h : i = j
    · subst h
      rw [List.getElem?_set_self hie] at hx'
      cases hx'
      exact ⟨p, ys, hv, upd_same, h2, h3, h4, r⟩
    · rw [List.getElem?_set_ne h] at hx'
      have q := R.slot j x hx'
      cases x with
      | emp => trivial
      | val d => exact q
      | own fs =>
        obtain ⟨q1, zs, e, g1, g2, g3, g4, r'⟩ := q
        have ne : q1 ≠ p := fun z => by
          subst z
          exact R.inj i j q1 ds fs h hx hx' hv e
        exact ⟨q1, zs, e, by rw [upd_ne ne]; exact g1, g2, g3, g4, r'⟩
      | bor fs =>
        obtain ⟨q1, zs, e, g1, g2, r'⟩ := q
        have ne : q1 ≠ p := fun z => g2 (by rw [z]; exact h4)
        exact ⟨q1, zs, e, by rw [upd_ne ne]; exact g1, g2, r'⟩
  · have back : ∀ {k : Nat} {fs : List D}, (s.env.set i (.own es))[k]? = some (.own fs) → ∃ gs, s.env[k]? = some (.own gs) := fun {k fs} e => by
      by_cases h : i = k
      · subst h
        exact ⟨ds, hx⟩
      · rw [List.getElem?_set_ne h] at e
        exact ⟨fs, e⟩
    obtain ⟨g1, e1'⟩ := back e1
    obtain ⟨g2, e2'⟩ := back e2
    exact R.inj j k q g1 g2 hjk e1' e2' e3
  · obtain ⟨f, L, ns, x, l, u, e1, e2, k⟩ := R.drw a ha
    have ne : a ≠ p := fun z => h3 (by rw [ha, z])
    exact ⟨f, L, ns, x, l, u, by rw [upd_ne ne]; exact e1, e2, k⟩
/-- a slot's own list becomes plain data -/
theorem Rs.freeze {i : Nat} {ds : List D} (R : Rs K dr H0 G0 σ H G s) (hx : s.env[i]? = some (.own ds)) :
    ∃ (p : Addr) (xs : List V), σ[i]? = some (some (.ref p)) ∧ H p = some (.lst xs) ∧ G p = none ∧ RpA K dr G xs ds ∧ Rs K dr H0 G0 σ H (L2.upd G p (.lst xs)) { s with env := s.env.set i (.val (.lst ds)) } := by
  obtain ⟨p, xs, e1, h1, h2, h3, h4, r⟩ := R.slot i _ hx
  have kG : Same G (L2.upd G p (.lst xs)) := Same.upd h2
  have hi : i < s.env.length := (List.getElem?_eq_some_iff.mp hx).1
  refine ⟨p, xs, e1, h1, h2, r, fun a u e => ?_, R.base, fun a z1 z2 => ?_, by simp [R.len], fun j x hx' => ?_, fun j k q es fs hjk e1' e2 e3 => ?_, fun a ha => ?_⟩
  · by_cases h : a = p
    · subst h
      rw [upd_same] at e
      cases e
      exact h1
    · rw [upd_ne h] at e
      exact R.sub a u e
  · have ne : a ≠ p := fun z => z2 (by rw [z]; exact h4)
    rw [upd_ne ne]
    exact R.new a z1 z2
  · by_cases h : i = j
    · subst h
      rw [List.getElem?_set_self hi] at hx'
      cases hx'
      exact ⟨.ref p, e1, .lst upd_same (r.mono kG)⟩
    · rw [List.getElem?_set_ne h] at hx'
      have q := R.slot j x hx'
      cases x with
      | emp => trivial
      | val d =>
        obtain ⟨u, e, r'⟩ := q
        exact ⟨u, e, r'.mono kG⟩
      | own fs =>
        obtain ⟨q1, zs, e, g1, g2, g3, g4, r'⟩ := q
        have ne : q1 ≠ p := fun z => by
          subst z
          exact R.inj i j q1 ds fs h hx hx' e1 e
        exact ⟨q1, zs, e, g1, by rw [upd_ne ne]; exact g2, g3, g4, r'.mono kG⟩
      | bor fs =>
        obtain ⟨q1, zs, e, g1, g2, r'⟩ := q
        exact ⟨q1, zs, e, g1, g2, r'.mono kG⟩
  · have back : ∀ {k : Nat} {fs : List D}, (s.env.set i (.val (.lst ds)))[k]? = some (.own fs) → s.env[k]? = some (.own fs) := fun {k fs} e => by
      by_cases h : i = k
      · subst h
        rw [List.getElem?_set_self hi] at e
        cases e
      · rw [List.getElem?_set_ne h] at e
        exact e
    exact R.inj j k q es fs hjk (back e1') (back e2) e3
  · obtain ⟨f, L, ns, x, l, u, z1, z2, k⟩ := R.drw a ha
    have ne : a ≠ p := fun z => h3 (by rw [ha, z])
    exact ⟨by rw [upd_ne ne]; exact f, L, ns, x, l, u, z1, kG L _ z2, k⟩
end

/-! ### readings by data -/
structure W where
  f : S → (D → S → Prop) → Prop
  mono : ∀ s P P', (∀ d s', P d s' → P' d s') → f s P → f s P'
structure WT where
  f : S → (Bool → S → Prop) → Prop
  mono : ∀ s P P', (∀ d s', P d s' → P' d s') → f s P → f s P'
structure WA where
  f : S → (List D → S → Prop) → Prop
  mono : ∀ s P P', (∀ d s', P d s' → P' d s') → f s P → f s P'
/-- where a proof stands: K, the draws, the heaps at the entry -/
structure Pl where
  K : PySem.W.Frag
  dr : Option Addr
  H0 : Hp
  G0 : Hp
abbrev Pl.Rs (p : Pl) (σ : St) (H G : Hp) (s : S) : Prop := DI.Rs p.K p.dr p.H0 p.G0 σ H G s
abbrev Pl.Rp (p : Pl) (G : Hp) (v : V) (d : D) : Prop := DI.Rp p.K p.dr G v d
abbrev Pl.RpA (p : Pl) (G : Hp) (v : List V) (d : List D) : Prop := DI.RpA p.K p.dr G v d
def lift (p : Pl) (w : W) : TE := fun σ H Q => ∃ G s, p.Rs σ H G s ∧ w.f s fun d s' => ∀ v H' G', Same G G' → p.Rs σ H' G' s' → p.Rp G' v d → Q v H'
def liftT (p : Pl) (w : WT) : TT := fun σ H Q => ∃ G s, p.Rs σ H G s ∧ w.f s fun b s' => ∀ H' G', Same G G' → p.Rs σ H' G' s' → Q b H'
def liftA (p : Pl) (w : WA) : TA := fun σ H Q => ∃ G s, p.Rs σ H G s ∧ w.f s fun ds s' => ∀ vs H' G', Same G G' → p.Rs σ H' G' s' → p.RpA G' vs ds → Q vs H'
theorem PE.imp {X : Cx} {e : Expr} {t t' : TE} (h : PE X e t) (i : ∀ σ H Q, t' σ H Q → t σ H Q) : PE X e t' := ⟨fun pins s σ H Q I q => h.run pins s σ H Q I (i σ H Q q)⟩
theorem PT.imp {X : Cx} {e : Expr} {t t' : TT} (h : PT X e t) (i : ∀ σ H Q, t' σ H Q → t σ H Q) : PT X e t' := ⟨fun pins s σ H Q I q => h.run pins s σ H Q I (i σ H Q q)⟩
theorem PA.imp {X : Cx} {e : List Expr} {t t' : TA} (h : PA X e t) (i : ∀ σ H Q, t' σ H Q → t σ H Q) : PA X e t' := ⟨fun pos pins s σ H Q I q => h.run pos pins s σ H Q I (i σ H Q q)⟩
theorem PS.imp {X : Cx} {e : Stmt} {t t' : TS} (h : PS X e t) (i : ∀ D σ H, t' D σ H → t D σ H) : PS X e t' := ⟨fun pins s σ H Q I q => h.run pins s σ H Q I (i Q σ H q)⟩
theorem PSs.imp {X : Cx} {e : List Stmt} {t t' : TS} (h : PSs X e t) (i : ∀ D σ H, t' D σ H → t D σ H) : PSs X e t' := ⟨fun pins s σ H Q I q => h.run pins s σ H Q I (i Q σ H q)⟩
end DI
/-! Expressions by data. -/
namespace DI
open PySem L2
def get {α : Type} (o : Option α) (P : α → Prop) : Prop := match o with
  | some d => P d
  | none => False
theorem get_some {α : Type} {P : α → Prop} {d : α} : get (some d) P = P d := rfl
theorem get_none {α : Type} {P : α → Prop} : get (none : Option α) P = False := rfl
theorem get_mono {α : Type} {o : Option α} {P P' : α → Prop} (h : ∀ d, P d → P' d) (q : get o P) : get o P' := by
  cases o with
  | none => exact q
  | some d => exact h d q
theorem get_of {α : Type} {o : Option α} {P : α → Prop} (q : get o P) : ∃ d, o = some d ∧ P d := by
  cases o with
  | none => exact q.elim
  | some d => exact ⟨d, rfl, q⟩

/-- what a slot holds, to be read -/
def vget (env : List Sl) (i : Nat) : Option D := match env[i]? with
  | some (.val d) => some d
  | some (.own ds) => some (.lst ds)
  | some (.bor ds) => some (.lst ds)
  | _ => none
/-- a value read without being kept -/
def RpB (p : Pl) (H G : Hp) (v : V) : D → Prop
  | .lst ds => ∃ a xs, v = .ref a ∧ H a = some (.lst xs) ∧ p.RpA G xs ds
  | d => p.Rp G v d
section
variable {p : Pl} {σ : St} {H G H' G' : Hp} {s : S} {v : V} {d : D}
theorem RpB.of (hs : Sub G H) (r : p.Rp G v d) : RpB p H G v d := by
  cases r with
  | lst h a => exact ⟨_, _, rfl, hs _ _ h, a⟩
  | non => exact .non
  | bl b => exact .bl b
  | int i => exact .int i
  | str x => exact .str x
  | tup h a => exact .tup h a
  | drw h => exact .drw h
  | dic0 h => exact .dic0 h
theorem vget_rb {i : Nat} (R : p.Rs σ H G s) (h : vget s.env i = some d) : ∃ v, σ[i]? = some (some v) ∧ RpB p H G v d := by
  unfold vget at h
  cases e : s.env[i]? with
  | none =>
    rw [e] at h
    cases h
  | some x =>
    have q := R.slot i x e
    rw [e] at h
    cases x with
    | emp => cases h
    | val d' =>
      cases h
      obtain ⟨u, e1, r⟩ := q
      exact ⟨u, e1, .of R.sub r⟩
    | own ds =>
      cases h
      obtain ⟨a, xs, e1, h1, _, _, _, r⟩ := q
      exact ⟨_, e1, a, xs, rfl, h1, r⟩
    | bor ds =>
      cases h
      obtain ⟨a, xs, e1, h1, _, r⟩ := q
      exact ⟨_, e1, a, xs, rfl, h1, r⟩
end

/-! ### constants and names -/
def wC (d : D) : W := ⟨fun s P => P d s, fun _ _ _ h q => h _ _ q⟩
def wVar (i : Nat) : W := ⟨fun s P => match s.env[i]? with
  | some (.val d) => P d s
  | some (.own ds) => P (.lst ds) { s with env := s.env.set i (.val (.lst ds)) }
  | _ => False, fun s P P' h q => by
    cases e : s.env[i]? with
    | none => simp only [e] at q
    | some x => cases x <;> simp only [e] at q ⊢ <;> exact h _ _ q⟩
/-- a value that stands for itself: any G bears it -/
def Cst (p : Pl) (v : V) (d : D) : Prop := ∀ G, p.Rp G v d
section
variable {X : Cx} {p : Pl} {e a b : Expr} {es : List Expr} {pos : Pos} {w wa wb : W} {t : TE}
theorem pd_c {v : V} {d : D} (h : PE X e (tC v)) (r : Cst p v d) : PE X e (lift p (wC d)) :=
  PE.imp h fun σ H Q ⟨G, s, R, k⟩ => k v H G (Same.refl G) R (r G)
theorem pd_int {i j} : PE X (.Constant (.int i) j pos) (lift p (wC (.int i))) := pd_c pe_int fun _ => .int i
theorem pd_bl {i j} : PE X (.Constant (.bool i) j pos) (lift p (wC (.bl i))) := pd_c pe_bl fun _ => .bl i
theorem pd_non {j} : PE X (.Constant .none j pos) (lift p (wC .non)) := pd_c pe_non fun _ => .non
theorem pd_str {x j} : PE X (.Constant (.str x) j pos) (lift p (wC (.str x))) := pd_c pe_str fun _ => .str x
theorem pd_glob {x : Str} {v : V} {u : Value} {d : D} (hg : Gl X x) (hm : X.mg x = some u) (r : RelV v u) (c : Cst p v d) (hd : (x == ("__debug__" : Str)) = false := by decide) : PE X (.Name x pos) (lift p (wC d)) := pd_c (pe_glob hg hm r hd) c
theorem pd_var (i : Nat) (h : PE X e (tVar i)) : PE X e (lift p (wVar i)) := PE.imp h fun σ H Q ⟨G, s, R, k⟩ => by
  have k' : (match s.env[i]? with
    | some (.val d) => (fun d s' => ∀ v H' G', Same G G' → p.Rs σ H' G' s' → p.Rp G' v d → Q v H') d s
    | some (.own ds) => (fun d s' => ∀ v H' G', Same G G' → p.Rs σ H' G' s' → p.Rp G' v d → Q v H') (.lst ds) { s with env := s.env.set i (.val (.lst ds)) }
    | _ => False) := k
  cases e : s.env[i]? with
  | none =>
    rw [e] at k'
    exact k'.elim
  | some x =>
    rw [e] at k'
    cases x with
    | emp => exact k'.elim
    | bor ds => exact k'.elim
    | val d =>
      obtain ⟨u, e1, r⟩ := R.slot i _ e
      exact ⟨u, e1, k' u H G (Same.refl G) R r⟩
    | own ds =>
      obtain ⟨q, xs, e1, h1, h2, r, R'⟩ := R.freeze e
      have kG : Same G (L2.upd G q (.lst xs)) := Same.upd h2
      exact ⟨_, e1, k' _ H _ kG R' (.lst upd_same (r.mono kG))⟩

/-! ### operators -/
/-- an operation by values does what g says on data -/
def OpD (p : Pl) (r : R2) (c : D → D → Prop) (g : D → D → Option D) : Prop :=
  ∀ (G H : Hp) (x y : V) (d1 d2 d : D) (Q : VK), Sub G H → RpB p H G x d1 → RpB p H G y d2 → c d1 d2 → g d1 d2 = some d → (∀ v, p.Rp G v d → Q v H) → (∀ a o, H a = none → p.Rp (upd G a o) (.ref a) d → Q (.ref a) (upd H a o)) → r x y H Q
theorem OpD.or {r r' : R2} {c c' : D → D → Prop} {g g' : D → D → Option D} {c2 : D → D → Prop} {g2 : D → D → Option D} (h : OpD p r c g) (h' : OpD p r' c' g')
    (i : ∀ d1 d2 d, c2 d1 d2 → g2 d1 d2 = some d → (c d1 d2 ∧ g d1 d2 = some d) ∨ (c' d1 d2 ∧ g' d1 d2 = some d)) : OpD p (fun x y H Q => r x y H Q ∨ r' x y H Q) c2 g2 := by
  intro G H x y d1 d2 d Q hs r1 r2 hc hg k1 k2
  rcases i d1 d2 d hc hg with ⟨a, b⟩ | ⟨a, b⟩
  · exact .inl (h G H x y d1 d2 d Q hs r1 r2 a b k1 k2)
  · exact .inr (h' G H x y d1 d2 d Q hs r1 r2 a b k1 k2)
def wBin (c : D → D → Prop) (g : D → D → Option D) (wa wb : W) : W := ⟨fun s P => wa.f s fun d1 s1 => wb.f s1 fun d2 s2 => c d1 d2 ∧ get (g d1 d2) fun d => P d s2,
  fun s P P' h q => wa.mono _ _ _ (fun d1 s1 q1 => wb.mono _ _ _ (fun d2 s2 ⟨q2, q3⟩ => ⟨q2, get_mono (fun d => h d s2) q3⟩) q1) q⟩
/-- the first operand a name -/
def wBinV (c : D → D → Prop) (g : D → D → Option D) (i : Nat) (wb : W) : W := ⟨fun s P => get (vget s.env i) fun _ => wb.f s fun d2 s2 => get (vget s2.env i) fun d1 => c d1 d2 ∧ get (g d1 d2) fun d => P d s2,
  fun s P P' h q => get_mono (fun _ q => wb.mono _ _ _ (fun d2 s2 q1 => get_mono (fun d1 ⟨q2, q3⟩ => ⟨q2, get_mono (fun d => h d s2) q3⟩) q1) q) q⟩
/-- the second operand a name -/
def wBinR (c : D → D → Prop) (g : D → D → Option D) (wa : W) (i : Nat) : W := ⟨fun s P => wa.f s fun d1 s1 => get (vget s1.env i) fun d2 => c d1 d2 ∧ get (g d1 d2) fun d => P d s1,
  fun s P P' h q => wa.mono _ _ _ (fun d2 s2 q1 => get_mono (fun d1 ⟨q2, q3⟩ => ⟨q2, get_mono (fun d => h d s2) q3⟩) q1) q⟩
theorem op_lift {r : R2} {c : D → D → Prop} {g : D → D → Option D} (hd : OpD p r c g) (σ : St) (H : Hp) (Q : VK) (h : lift p (wBin c g wa wb) σ H Q) : tOp r (lift p wa) (lift p wb) σ H Q := by
  obtain ⟨G, s, R, k⟩ := h
  refine ⟨G, s, R, wa.mono _ _ _ (fun d1 s1 k1 x H1 G1 e1 R1 r1 => ⟨G1, s1, R1, wb.mono _ _ _ (fun d2 s2 k2 y H2 G2 e2 R2 r2 => ?_) k1⟩) k⟩
  obtain ⟨kc, kg⟩ := k2
  obtain ⟨d, eg, kd⟩ := get_of kg
  exact hd G2 H2 x y d1 d2 d Q R2.sub (.of R2.sub (r1.mono e2)) (.of R2.sub r2) kc eg (fun v rv => kd v H2 G2 (e1.trans e2) R2 rv) fun a o ha ra => kd _ _ _ ((e1.trans e2).trans (Same.upd (R2.sub.none ha))) (R2.alloc ha) ra
theorem opV_lift {r : R2} {c : D → D → Prop} {g : D → D → Option D} {i : Nat} (hd : OpD p r c g) (σ : St) (H : Hp) (Q : VK) (h : lift p (wBinV c g i wb) σ H Q) : tOp r (tVar i) (lift p wb) σ H Q := by
  obtain ⟨G, s, R, k⟩ := h
  obtain ⟨d0, e0, k⟩ := get_of k
  obtain ⟨x, hx, _⟩ := vget_rb R e0
  refine ⟨x, hx, G, s, R, wb.mono _ _ _ (fun d2 s2 k2 y H2 G2 e2 R2 r2 => ?_) k⟩
  obtain ⟨d1, ed, k3⟩ := get_of k2
  obtain ⟨x', ex, rx⟩ := vget_rb R2 ed
  rw [hx] at ex
  cases ex
  obtain ⟨kc, kg⟩ := k3
  obtain ⟨d, eg, kd⟩ := get_of kg
  exact hd G2 H2 x y d1 d2 d Q R2.sub rx (.of R2.sub r2) kc eg (fun v rv => kd v H2 G2 e2 R2 rv) fun a o ha ra => kd _ _ _ (e2.trans (Same.upd (R2.sub.none ha))) (R2.alloc ha) ra
theorem opR_lift {r : R2} {c : D → D → Prop} {g : D → D → Option D} {i : Nat} (hd : OpD p r c g) (σ : St) (H : Hp) (Q : VK) (h : lift p (wBinR c g wa i) σ H Q) : tOp r (lift p wa) (tVar i) σ H Q := by
  obtain ⟨G, s, R, k⟩ := h
  refine ⟨G, s, R, wa.mono _ _ _ (fun d1 s1 k1 x H1 G1 e1 R1 r1 => ?_) k⟩
  obtain ⟨d2, ed, kc, kg⟩ := get_of k1
  obtain ⟨y, ey, ry⟩ := vget_rb R1 ed
  obtain ⟨d, eg, kd⟩ := get_of kg
  exact ⟨y, ey, hd G1 H1 x y d1 d2 d Q R1.sub (.of R1.sub r1) ry kc eg (fun v rv => kd v H1 G1 e1 R1 rv) fun a o ha ra => kd _ _ _ (e1.trans (Same.upd (R1.sub.none ha))) (R1.alloc ha) ra⟩

/-! the rules -/
theorem rb_int {i : Int} {x : V} {G H : Hp} (r : RpB p H G x (.int i)) : x = .int i := by
  have r' : p.Rp G x (.int i) := r
  cases r'
  rfl
theorem rb_bl {i : Bool} {x : V} {G H : Hp} (r : RpB p H G x (.bl i)) : x = .bl i := by
  have r' : p.Rp G x (.bl i) := r
  cases r'
  rfl
theorem rb_str {i : Str} {x : V} {G H : Hp} (r : RpB p H G x (.str i)) : x = .str i := by
  have r' : p.Rp G x (.str i) := r
  cases r'
  rfl
theorem rb_tup {ds : List D} {x : V} {G H : Hp} (hs : Sub G H) (r : RpB p H G x (.tup ds)) : ∃ a xs, x = .ref a ∧ SqT p.K G a xs ∧ SqT p.K H a xs ∧ p.RpA G xs ds := by
  have r' : p.Rp G x (.tup ds) := r
  cases r' with
  | tup h k => exact ⟨_, _, rfl, h, Same.tup hs h, k⟩
theorem rb_non {x : V} {G H : Hp} (r : RpB p H G x .non) : x = .non := by
  have r' : p.Rp G x .non := r
  cases r'
  rfl
/-- two ints -/
def gI (f : Int → Int → D) : D → D → Option D
  | .int i, .int j => some (f i j)
  | _, _ => none
theorem gI_of {f : Int → Int → D} {a b d : D} (h : gI f a b = some d) : ∃ i j, a = .int i ∧ b = .int j ∧ d = f i j := by
  cases a <;> cases b <;> simp only [gI] at h <;> cases h
  exact ⟨_, _, rfl, rfl, rfl⟩
def cT : D → D → Prop := fun _ _ => True
def cI (C : Int → Int → Prop) : D → D → Prop
  | .int i, .int j => C i j
  | _, _ => False
theorem od_I {C : Int → Int → Prop} {f : Int → Int → Int} : OpD p (rI C fun i j => .int (f i j)) (cI C) (gI fun i j => .int (f i j)) := by
  intro G H x y d1 d2 d Q hs r1 r2 hc hg k1 k2
  obtain ⟨i, j, rfl, rfl, rfl⟩ := gI_of hg
  cases rb_int r1
  cases rb_int r2
  exact ⟨i, j, rfl, rfl, hc, k1 _ (.int _)⟩
theorem od_I0 {f : Int → Int → Int} : OpD p (rI0 fun i j => .int (f i j)) cT (gI fun i j => .int (f i j)) := by
  intro G H x y d1 d2 d Q hs r1 r2 hc hg k1 k2
  obtain ⟨i, j, rfl, rfl, rfl⟩ := gI_of hg
  cases rb_int r1
  cases rb_int r2
  exact ⟨i, j, rfl, rfl, k1 _ (.int _)⟩
theorem od_B0 {f : Int → Int → Bool} : OpD p (rI0 fun i j => .bl (f i j)) cT (gI fun i j => .bl (f i j)) := by
  intro G H x y d1 d2 d Q hs r1 r2 hc hg k1 k2
  obtain ⟨i, j, rfl, rfl, rfl⟩ := gI_of hg
  cases rb_int r1
  cases rb_int r2
  exact ⟨i, j, rfl, rfl, k1 _ (.bl _)⟩
/-- + -/
def gAdd : D → D → Option D
  | .int i, .int j => some (.int (i + j))
  | .str x, .str y => some (.str (x ++ y))
  | .tup x, .tup y => some (.tup (x ++ y))
  | .lst x, .lst y => some (.lst (x ++ y))
  | _, _ => none
def cAdd : D → D → Prop
  | .str x, .str y => x.length + y.length ≤ sizeLine
  | .tup x, .tup y => x.length + y.length ≤ sizeLine
  | .lst x, .lst y => x.length + y.length ≤ sizeLine
  | _, _ => True
def rAddA (K : PySem.W.Frag) : R2 := fun x y H Q => rI0 (fun i j => .int (i + j)) x y H Q ∨ ((∃ i j, x = .str i ∧ y = .str j ∧ i.length + j.length ≤ sizeLine ∧ Q (.str (i ++ j)) H) ∨ (rCatA K x y H Q ∨ rCat x y H Q))
theorem op_addA : OpR X (binaryOp .Add) (rAddA X.K) := op_add.or (op_add_str.or (op_catA.or op_cat))
theorem od_add (hK : p.K = X.K) : OpD p (rAddA X.K) cAdd gAdd := by
  intro G H x y d1 d2 d Q hs r1 r2 hc hg k1 k2
  cases d1 <;> cases d2 <;> simp only [gAdd] at hg <;> cases hg
  · cases rb_int r1
    cases rb_int r2
    exact .inl ⟨_, _, rfl, rfl, k1 _ (.int _)⟩
  · cases rb_str r1
    cases rb_str r2
    exact .inr (.inl ⟨_, _, rfl, rfl, hc, k1 _ (.str _)⟩)
  · obtain ⟨a, xs, rfl, e1, h1⟩ := r1
    obtain ⟨b, ys, rfl, e2, h2⟩ := r2
    exact .inr (.inr (.inr ⟨a, b, xs, ys, rfl, rfl, e1, e2, by rw [h1.length, h2.length]; exact hc, fun l hl => k2 l _ hl (.lst upd_same ((h1.append h2).mono (Same.upd (hs.none hl))))⟩))
  · obtain ⟨a, xs, rfl, t1, e1, h1⟩ := rb_tup hs r1
    obtain ⟨b, ys, rfl, t2, e2, h2⟩ := rb_tup hs r2
    rw [hK] at e1 e2
    have l1 := h1.length
    have l2 := h2.length
    refine .inr (.inr (.inl ⟨a, b, xs, ys, rfl, rfl, e1, e2, by rw [l1, l2]; exact hc, fun z => ?_, fun z z2 => ?_, fun z1 z2 l hl => k2 l _ hl (.tup (.inl (.inl upd_same)) ((h1.append h2).mono (Same.upd (hs.none hl))))⟩))
    · subst z
      cases h1
      exact k1 _ (.tup t2 h2)
    · subst z2
      cases h2
      exact k1 _ (.tup t1 (by rw [List.append_nil]; exact h1))
def gMul : D → D → Option D
  | .int i, .int j => some (.int (i * j))
  | _, _ => none
abbrev gSub : D → D → Option D := gI fun i j => .int (i - j)
abbrev gMod : D → D → Option D := gI fun i j => .int (i % j)
abbrev gDiv : D → D → Option D := gI fun i j => .int (i / j)
abbrev cMod : D → D → Prop := cI fun _ j => 0 < j
abbrev cDiv : D → D → Prop := cI CDiv
section
variable (ha : PE X a (lift p wa)) (hb : PE X b (lift p wb))
include ha hb
theorem pd_add (hK : p.K = X.K := by rfl) : PE X (.BinOp a .Add b pos) (lift p (wBin cAdd gAdd wa wb)) := PE.imp (pe_op op_addA ha hb) (op_lift (od_add hK))
theorem pd_sub : PE X (.BinOp a .Sub b pos) (lift p (wBin cT gSub wa wb)) := PE.imp (pe_op op_sub ha hb) (op_lift od_I0)
theorem pd_mod : PE X (.BinOp a .Mod b pos) (lift p (wBin cMod gMod wa wb)) := PE.imp (pe_op op_mod ha hb) (op_lift od_I)
theorem pd_div : PE X (.BinOp a .FloorDiv b pos) (lift p (wBin cDiv gDiv wa wb)) := PE.imp (pe_op op_fdiv ha hb) (op_lift od_I)
end
theorem pd_addV (i : Nat) (ha : PE X a (tVar i)) (hb : PE X b (lift p wb)) (hK : p.K = X.K := by rfl) : PE X (.BinOp a .Add b pos) (lift p (wBinV cAdd gAdd i wb)) := PE.imp (pe_op op_addA ha hb) (opV_lift (od_add hK))
theorem pd_neg (ha : PE X a (lift p wa)) : PE X (.UnaryOp .USub a pos) (lift p ⟨fun s P => wa.f s fun d s1 => get (match d with | .int i => some i | _ => none) fun i => P (.int (-i)) s1, fun s P P' h q => wa.mono _ _ _ (fun d s1 q => get_mono (fun i => h _ s1) q) q⟩) :=
  PE.imp (pe_un un_neg ha) fun σ H Q ⟨G, s, R, k⟩ => ⟨G, s, R, wa.mono _ _ _ (fun d s1 k1 x H1 G1 e1 R1 r1 => by
    obtain ⟨i, e, k2⟩ := get_of k1
    cases d <;> cases e
    cases r1
    exact ⟨i, rfl, k2 _ H1 G1 e1 R1 (.int _)⟩) k⟩

/-! ### equality of data -/
mutual
def toPy : D → PyData
  | .non => .none
  | .bl b => .bool b
  | .int i => .int i
  | .str x => .str x
  | .lst xs => .list (toPyA xs)
  | .tup xs => .tuple (toPyA xs)
  | .drw => .none
  | .dic0 => .dict []
def toPyA : List D → List PyData
  | [] => []
  | x :: xs => toPy x :: toPyA xs
end
mutual
def plain : D → Bool
  | .drw => false
  | .dic0 => false
  | .lst xs => plainA xs
  | .tup xs => plainA xs
  | _ => true
def plainA : List D → Bool
  | [] => true
  | x :: xs => plain x && plainA xs
end
def shp (d : D) : Prop := plain d = true ∧ SeqAt.shaped (toPy d) = true
mutual
theorem Rp.dp {K : PySem.W.Frag} {dr : Option Addr} {G : Hp} : ∀ {v : V} {d : D}, Rp K dr G v d → plain d = true → Dp K G v (toPy d)
  | _, _, .non, _ => by simp only [toPy]; exact .non
  | _, _, .bl b, _ => by simp only [toPy]; exact .bl b
  | _, _, .int i, _ => by simp only [toPy]; exact .int i
  | _, _, .str x, _ => by simp only [toPy]; exact .str x
  | _, _, .lst h hs, q => by
    simp only [toPy]
    exact .lst (SqL.of h) (RpA.dp hs (by simpa only [plain] using q))
  | _, _, .tup h hs, q => by
    simp only [toPy]
    exact .tup h (RpA.dp hs (by simpa only [plain] using q))
  | _, _, .drw h, q => by simp [plain] at q
  | _, _, .dic0 h, q => by simp [plain] at q
theorem RpA.dp {K : PySem.W.Frag} {dr : Option Addr} {G : Hp} : ∀ {vs : List V} {ds : List D}, RpA K dr G vs ds → plainA ds = true → DpAll K G vs (toPyA ds)
  | _, _, .nil, _ => by simp only [toPyA]; exact .nil
  | _, _, .cons r t, q => by
    simp only [plainA, Bool.and_eq_true] at q
    simp only [toPyA]
    exact .cons (Rp.dp r q.1) (RpA.dp t q.2)
end
theorem rb_dp {H G : Hp} {v : V} {d : D} (hs : Sub G H) (r : RpB p H G v d) (q : plain d = true) : Dp p.K H v (toPy d) := by
  cases d with
  | lst ds =>
    obtain ⟨a, xs, rfl, h, k⟩ := r
    simp only [toPy]
    exact .lst (SqL.of h) (RpA.dp (k.mono hs) (by simpa only [plain] using q))
  | _ => exact Rp.dp (Rp.mono hs r) q
def scalD : D → D → Bool
  | .non, .non => true | .non, .int _ => true | .int _, .non => true | .non, .bl _ => true | .bl _, .non => true | .non, .str _ => true | .str _, .non => true
  | .int _, .int _ => true | .bl _, .bl _ => true | .str _, .str _ => true
  | .int _, .str _ => true | .str _, .int _ => true | .bl _, .str _ => true | .str _, .bl _ => true
  | _, _ => false
def eqD (a b : D) : Bool := PyData.eqv (toPy a) (toPy b)
def cEq (a b : D) : Prop := scalD a b = true ∨ (shp a ∧ shp b)
def gEq (a b : D) : Option D := some (.bl (eqD a b))
def gNe (a b : D) : Option D := some (.bl (!eqD a b))
def rEqA (K : PySem.W.Frag) : R2 := fun x y H Q => rEq x y H Q ∨ rEqD K x y H Q
def rNeA (K : PySem.W.Frag) : R2 := fun x y H Q => rNe x y H Q ∨ rNeD K x y H Q
theorem op_eqA (hu : X.A.units + 64 < cLine) : OpR X (compareOp .Eq) (rEqA X.K) := op_eq.or (op_eqD hu)
theorem op_neA (hu : X.A.units + 64 < cLine) : OpR X (compareOp .NotEq) (rNeA X.K) := op_ne.or (op_neD hu)
theorem scal_of {H G : Hp} {x y : V} {d1 d2 : D} (r1 : RpB p H G x d1) (r2 : RpB p H G y d2) (h : scalD d1 d2 = true) : scal x y = true ∧ decide (x = y) = eqD d1 d2 := by
  cases d1 <;> cases d2 <;> simp only [scalD, Bool.false_eq_true] at h <;>
    first
    | (cases rb_non r1; cases rb_non r2; exact ⟨rfl, by simp [eqD, toPy, PyData.eqv]⟩)
    | (cases rb_non r1; cases rb_int r2; exact ⟨rfl, by simp [eqD, toPy, PyData.eqv]⟩)
    | (cases rb_non r1; cases rb_bl r2; exact ⟨rfl, by simp [eqD, toPy, PyData.eqv]⟩)
    | (cases rb_non r1; cases rb_str r2; exact ⟨rfl, by simp [eqD, toPy, PyData.eqv]⟩)
    | (cases rb_int r1; cases rb_non r2; exact ⟨rfl, by simp [eqD, toPy, PyData.eqv]⟩)
    | (cases rb_bl r1; cases rb_non r2; exact ⟨rfl, by simp [eqD, toPy, PyData.eqv]⟩)
    | (cases rb_str r1; cases rb_non r2; exact ⟨rfl, by simp [eqD, toPy, PyData.eqv]⟩)
    | (cases rb_int r1; cases rb_int r2; exact ⟨rfl, by rw [dec_int]; simp [eqD, toPy, PyData.eqv]⟩)
    | (cases rb_bl r1; cases rb_bl r2; exact ⟨rfl, by rw [dec_bl]; simp [eqD, toPy, PyData.eqv]⟩)
    | (cases rb_str r1; cases rb_str r2; exact ⟨rfl, by rw [dec_str]; simp [eqD, toPy, PyData.eqv]⟩)
    | (cases rb_int r1; cases rb_str r2; exact ⟨rfl, by simp [eqD, toPy, PyData.eqv]⟩)
    | (cases rb_str r1; cases rb_int r2; exact ⟨rfl, by simp [eqD, toPy, PyData.eqv]⟩)
    | (cases rb_bl r1; cases rb_str r2; exact ⟨rfl, by simp [eqD, toPy, PyData.eqv]⟩)
    | (cases rb_str r1; cases rb_bl r2; exact ⟨rfl, by simp [eqD, toPy, PyData.eqv]⟩)
theorem od_eq (hK : p.K = X.K) : OpD p (rEqA X.K) cEq gEq := by
  intro G H x y d1 d2 d Q hs r1 r2 hc hg k1 k2
  cases hg
  rcases hc with hc | ⟨⟨p1, s1⟩, ⟨p2, s2⟩⟩
  · obtain ⟨e1, e2⟩ := scal_of r1 r2 hc
    exact .inl ⟨e1, by rw [e2]; exact k1 _ (.bl _)⟩
  · exact .inr ⟨_, _, hK ▸ rb_dp hs r1 p1, hK ▸ rb_dp hs r2 p2, s1, s2, k1 _ (.bl _)⟩
theorem od_ne (hK : p.K = X.K) : OpD p (rNeA X.K) cEq gNe := by
  intro G H x y d1 d2 d Q hs r1 r2 hc hg k1 k2
  cases hg
  rcases hc with hc | ⟨⟨p1, s1⟩, ⟨p2, s2⟩⟩
  · obtain ⟨e1, e2⟩ := scal_of r1 r2 hc
    exact .inl ⟨e1, by rw [e2]; exact k1 _ (.bl _)⟩
  · exact .inr ⟨_, _, hK ▸ rb_dp hs r1 p1, hK ▸ rb_dp hs r2 p2, s1, s2, k1 _ (.bl _)⟩

/-! ### comparisons -/
def strLt (x y : Str) : Bool := decide (x.cps.toList < y.cps.toList)
def gLt : D → D → Option D
  | .int i, .int j => some (.bl (decide (i < j)))
  | .str x, .str y => some (.bl (strLt x y))
  | _, _ => none
def gLe : D → D → Option D
  | .int i, .int j => some (.bl (decide (i ≤ j)))
  | .str x, .str y => some (.bl (!strLt y x))
  | _, _ => none
def gGt : D → D → Option D
  | .int i, .int j => some (.bl (decide (j < i)))
  | .str x, .str y => some (.bl (strLt y x))
  | _, _ => none
def gGe : D → D → Option D
  | .int i, .int j => some (.bl (decide (j ≤ i)))
  | .str x, .str y => some (.bl (!strLt x y))
  | _, _ => none
def rS (f : Str → Str → Bool) : R2 := fun x y H Q => ∃ i j, x = .str i ∧ y = .str j ∧ Q (.bl (f i j)) H
theorem opS {op : CmpOp} {f : Str → Str → Bool} (rule : ∀ (x y : Str) (t u : Tok) (s : Shared) (Q : Value → Shared → Prop) (E : Value → Shared → Prop), Q (.bool (f x y)) s → wpAny (model X.prog X.w) X.A (compareOp op (.str x t) (.str y u)) Q E s) : OpR X (compareOp op) (rS f) := by
  intro pins s σ H x y v u Q I rx ry h
  obtain ⟨i, j, rfl, rfl, q⟩ := h
  obtain ⟨t, rfl⟩ := rx
  obtain ⟨t', rfl⟩ := ry
  exact rule i j t t' s _ _ ⟨.bl _, H, I, rfl, q⟩
theorem od_IS {f : Int → Int → Bool} {h : Str → Str → Bool} {g : D → D → Option D} (e : ∀ a b d, g a b = some d → (∃ i j, a = .int i ∧ b = .int j ∧ d = .bl (f i j)) ∨ (∃ i j, a = .str i ∧ b = .str j ∧ d = .bl (h i j))) :
    OpD p (fun x y H Q => rI0 (fun i j => .bl (f i j)) x y H Q ∨ rS h x y H Q) cT g := by
  intro G H x y d1 d2 d Q hs r1 r2 hc hg k1 k2
  rcases e _ _ _ hg with ⟨i, j, rfl, rfl, rfl⟩ | ⟨i, j, rfl, rfl, rfl⟩
  · cases rb_int r1
    cases rb_int r2
    exact .inl ⟨i, j, rfl, rfl, k1 _ (.bl _)⟩
  · cases rb_str r1
    cases rb_str r2
    exact .inr ⟨i, j, rfl, rfl, k1 _ (.bl _)⟩
/-- a comparison's rule: by values and by data -/
structure CmpR (X : Cx) (p : Pl) (op : CmpOp) (c : D → D → Prop) (g : D → D → Option D) : Prop where
  ex : ∃ r, OpR X (compareOp op) r ∧ OpD p r c g
theorem cm_lt : CmpR X p .Lt cT gLt := ⟨_, op_lt.or (opS fun _ _ _ _ _ _ _ q => PyProof.Rows.lt_str q), od_IS fun a b d h => by
  cases a <;> cases b <;> simp only [gLt] at h <;> cases h
  · exact .inl ⟨_, _, rfl, rfl, rfl⟩
  · exact .inr ⟨_, _, rfl, rfl, rfl⟩⟩
theorem cm_le : CmpR X p .LtE cT gLe := ⟨_, op_le.or (opS (f := fun x y => !strLt y x) fun _ _ _ _ _ _ _ q => PySem.P.le_str q), od_IS fun a b d h => by
  cases a <;> cases b <;> simp only [gLe] at h <;> cases h
  · exact .inl ⟨_, _, rfl, rfl, rfl⟩
  · exact .inr ⟨_, _, rfl, rfl, rfl⟩⟩
theorem cm_gt : CmpR X p .Gt cT gGt := ⟨_, op_gt.or (opS (f := fun x y => strLt y x) fun _ _ _ _ _ _ _ q => PySem.P.gt_str q), od_IS fun a b d h => by
  cases a <;> cases b <;> simp only [gGt] at h <;> cases h
  · exact .inl ⟨_, _, rfl, rfl, rfl⟩
  · exact .inr ⟨_, _, rfl, rfl, rfl⟩⟩
theorem cm_ge : CmpR X p .GtE cT gGe := ⟨_, op_ge.or (opS (f := fun x y => !strLt x y) fun _ _ _ _ _ _ _ q => PySem.P.ge_str q), od_IS fun a b d h => by
  cases a <;> cases b <;> simp only [gGe] at h <;> cases h
  · exact .inl ⟨_, _, rfl, rfl, rfl⟩
  · exact .inr ⟨_, _, rfl, rfl, rfl⟩⟩
theorem cm_eq {k : Nat} (hr : Room k X.A) (hK : p.K = X.K := by rfl) : CmpR X p .Eq cEq gEq := ⟨_, op_eqA hr.units, od_eq hK⟩
theorem cm_ne {k : Nat} (hr : Room k X.A) (hK : p.K = X.K := by rfl) : CmpR X p .NotEq cEq gNe := ⟨_, op_neA hr.units, od_ne hK⟩
/-- is None -/
def isNon : D → Bool
  | .non => true
  | _ => false
def gIsN : D → D → Option D
  | a, .non => some (.bl (isNon a))
  | _, _ => none
def gNotN : D → D → Option D
  | a, .non => some (.bl (!isNon a))
  | _, _ => none
theorem rb_isNon {H G : Hp} {x : V} {d : D} (r : RpB p H G x d) : decide (x = .non) = isNon d := by
  cases d with
  | lst ds =>
    obtain ⟨a, xs, rfl, _⟩ := r
    rfl
  | non => cases rb_non r; rfl
  | bl b => cases rb_bl r; rfl
  | int b => cases rb_int r; rfl
  | str b => cases rb_str r; rfl
  | tup ds =>
    have r' : p.Rp G x (.tup ds) := r
    cases r'
    rfl
  | drw =>
    have r' : p.Rp G x .drw := r
    cases r'
    rfl
  | dic0 =>
    have r' : p.Rp G x .dic0 := r
    cases r'
    rfl
theorem cm_isN : CmpR X p .Is cT gIsN := ⟨_, op_isN, fun G H x y d1 d2 d Q hs r1 r2 hc hg k1 k2 => by
  cases d2 <;> simp only [gIsN] at hg <;> cases hg
  cases rb_non r2
  exact ⟨rfl, by rw [rb_isNon r1]; exact k1 _ (.bl _)⟩⟩
theorem cm_notN : CmpR X p .IsNot cT gNotN := ⟨_, op_notN, fun G H x y d1 d2 d Q hs r1 r2 hc hg k1 k2 => by
  cases d2 <;> simp only [gNotN] at hg <;> cases hg
  cases rb_non r2
  exact ⟨rfl, by rw [rb_isNon r1]; exact k1 _ (.bl _)⟩⟩
/-- in: flat items, or a text in a text -/
def flatD : D → Bool
  | .non => true
  | .bl _ => true
  | .int _ => true
  | .str _ => true
  | _ => false
def inD (x : D) (xs : List D) : Bool := xs.any fun y => eqD y x
def inStr (x y : Str) : Bool := !(Builtin.Str.occurrences y x 0 y.length 1).isEmpty
def cIn : D → D → Prop
  | x, .tup ys => flatD x = true ∧ ys.all flatD = true
  | x, .lst ys => flatD x = true ∧ ys.all flatD = true
  | _, _ => True
def gIn : D → D → Option D
  | x, .tup ys => some (.bl (inD x ys))
  | x, .lst ys => some (.bl (inD x ys))
  | .str x, .str y => some (.bl (inStr x y))
  | _, _ => none
def gNin : D → D → Option D
  | x, .tup ys => some (.bl (!inD x ys))
  | x, .lst ys => some (.bl (!inD x ys))
  | .str x, .str y => some (.bl (!inStr x y))
  | _, _ => none
theorem flat_of {G H : Hp} {x : V} {d : D} (r : RpB p H G x d) (h : flatD d = true) : flatV x = true := by
  cases d <;> simp only [flatD, Bool.false_eq_true] at h
  · cases rb_non r; rfl
  · cases rb_bl r; rfl
  · cases rb_int r; rfl
  · cases rb_str r; rfl
theorem rp_rb {G : Hp} {x : V} {d : D} (r : p.Rp G x d) : RpB p G G x d := .of (fun _ _ h => h) r
theorem eqV_of {G H G' H' : Hp} {x y : V} {a b : D} (r1 : RpB p H G x a) (r2 : RpB p H' G' y b) (h1 : flatD a = true) (h2 : flatD b = true) : eqV x y = eqD a b := by
  cases a <;> simp only [flatD, Bool.false_eq_true] at h1 <;> cases b <;> simp only [flatD, Bool.false_eq_true] at h2 <;>
    first
    | (cases rb_non r1; cases rb_non r2; simp [eqD, toPy, PyData.eqv, eqV]; done)
    | (cases rb_non r1; cases rb_int r2; simp [eqD, toPy, PyData.eqv, eqV]; done)
    | (cases rb_non r1; cases rb_bl r2; simp [eqD, toPy, PyData.eqv, eqV]; done)
    | (cases rb_non r1; cases rb_str r2; simp [eqD, toPy, PyData.eqv, eqV]; done)
    | (cases rb_int r1; cases rb_non r2; simp [eqD, toPy, PyData.eqv, eqV]; done)
    | (cases rb_bl r1; cases rb_non r2; simp [eqD, toPy, PyData.eqv, eqV]; done)
    | (cases rb_str r1; cases rb_non r2; simp [eqD, toPy, PyData.eqv, eqV]; done)
    | (cases rb_int r1; cases rb_int r2; simp [eqD, toPy, PyData.eqv, eqV]; done)
    | (cases rb_int r1; cases rb_bl r2; simp [eqD, toPy, PyData.eqv, eqV]; done)
    | (cases rb_bl r1; cases rb_int r2; simp [eqD, toPy, PyData.eqv, eqV]; done)
    | (cases rb_bl r1; cases rb_bl r2; simp [eqD, toPy, PyData.eqv, eqV]; done)
    | (cases rb_str r1; cases rb_str r2; simp [eqD, toPy, PyData.eqv, eqV]; done)
    | (cases rb_int r1; cases rb_str r2; simp [eqD, toPy, PyData.eqv, eqV]; done)
    | (cases rb_str r1; cases rb_int r2; simp [eqD, toPy, PyData.eqv, eqV]; done)
    | (cases rb_bl r1; cases rb_str r2; simp [eqD, toPy, PyData.eqv, eqV]; done)
    | (cases rb_str r1; cases rb_bl r2; simp [eqD, toPy, PyData.eqv, eqV]; done)
theorem flats_of {G H : Hp} {x : V} {a : D} (r1 : RpB p H G x a) (h1 : flatD a = true) : ∀ {xs : List V} {ds : List D}, p.RpA G xs ds → ds.all flatD = true → xs.all flatV = true ∧ inV x xs = inD a ds
  | _, _, .nil, _ => ⟨rfl, rfl⟩
  | _, _, .cons r t, h => by
    rw [List.all_cons, Bool.and_eq_true] at h
    obtain ⟨q1, q2⟩ := flats_of r1 h1 t h.2
    refine ⟨by rw [List.all_cons, flat_of (rp_rb r) h.1, q1] <;> rfl, ?_⟩
    unfold inV inD at q2 ⊢
    rw [List.any_cons, List.any_cons, q2, eqV_of (rp_rb r) r1 h.1 h1]
theorem cm_in (hK : p.K = X.K := by rfl) : CmpR X p .In cIn gIn := ⟨_, op_in_seq.or op_in_str, fun G H x y d1 d2 d Q hs r1 r2 hc hg k1 k2 => by
  have seq : ∀ (ds : List D) (a : Addr) (xs : List V), y = .ref a → (SqL p.K H a xs ∨ SqT p.K H a xs) → p.RpA G xs ds → (flatD d1 = true ∧ ds.all flatD = true) → d = .bl (inD d1 ds) → rIn X.K false x y H Q := fun ds a xs e h k ⟨f1, f2⟩ ed => by
    obtain ⟨q1, q2⟩ := flats_of r1 f1 k f2
    exact ⟨a, xs, e, hK ▸ h, flat_of r1 f1, q1, by rw [q2]; subst ed; exact k1 _ (.bl _)⟩
  cases d2 with
  | tup ds =>
    obtain ⟨a, xs, e, _, h, k⟩ := rb_tup hs r2
    exact .inl (seq ds a xs e (.inr h) k hc (by cases hg; rfl))
  | lst ds =>
    obtain ⟨a, xs, e, h, k⟩ := r2
    exact .inl (seq ds a xs e (.inl (SqL.of h)) k hc (by cases hg; rfl))
  | str b =>
    cases d1 <;> simp only [gIn] at hg <;> cases hg
    cases rb_str r1
    cases rb_str r2
    exact .inr ⟨_, _, rfl, rfl, k1 _ (.bl _)⟩
  | _ => cases d1 <;> simp only [gIn] at hg <;> cases hg⟩
theorem cm_nin (hK : p.K = X.K := by rfl) : CmpR X p .NotIn cIn gNin := ⟨_, op_notIn_seq.or op_notin_str, fun G H x y d1 d2 d Q hs r1 r2 hc hg k1 k2 => by
  have seq : ∀ (ds : List D) (a : Addr) (xs : List V), y = .ref a → (SqL p.K H a xs ∨ SqT p.K H a xs) → p.RpA G xs ds → (flatD d1 = true ∧ ds.all flatD = true) → d = .bl (!inD d1 ds) → rIn X.K true x y H Q := fun ds a xs e h k ⟨f1, f2⟩ ed => by
    obtain ⟨q1, q2⟩ := flats_of r1 f1 k f2
    exact ⟨a, xs, e, hK ▸ h, flat_of r1 f1, q1, by rw [q2]; subst ed; exact k1 _ (.bl _)⟩
  cases d2 with
  | tup ds =>
    obtain ⟨a, xs, e, _, h, k⟩ := rb_tup hs r2
    exact .inl (seq ds a xs e (.inr h) k hc (by cases hg; rfl))
  | lst ds =>
    obtain ⟨a, xs, e, h, k⟩ := r2
    exact .inl (seq ds a xs e (.inl (SqL.of h)) k hc (by cases hg; rfl))
  | str b =>
    cases d1 <;> simp only [gNin] at hg <;> cases hg
    cases rb_str r1
    cases rb_str r2
    exact .inr ⟨_, _, rfl, rfl, k1 _ (.bl _)⟩
  | _ => cases d1 <;> simp only [gNin] at hg <;> cases hg⟩
section
variable {op op2 : CmpOp} {c c2 : D → D → Prop} {g g2 : D → D → Option D} {i : Nat}
theorem pd_cmp (R : CmpR X p op c g) (ha : PE X a (lift p wa)) (hb : PE X b (lift p wb)) (hm : behindInMarks op b = false := by first | exact nomark _ | with_unfolding_all rfl) : PE X (.Compare a [op] [b] pos) (lift p (wBin c g wa wb)) := by
  obtain ⟨r, h1, h2⟩ := R.ex
  exact PE.imp (pe_cmpR h1 ha hb hm) (op_lift h2)
theorem pd_cmpV (R : CmpR X p op c g) (ha : PE X a (tVar i)) (hb : PE X b (lift p wb)) (hm : behindInMarks op b = false := by first | exact nomark _ | with_unfolding_all rfl) : PE X (.Compare a [op] [b] pos) (lift p (wBinV c g i wb)) := by
  obtain ⟨r, h1, h2⟩ := R.ex
  exact PE.imp (pe_cmpR h1 ha hb hm) (opV_lift h2)
theorem pd_cmpR (R : CmpR X p op c g) (ha : PE X a (lift p wa)) (hb : PE X b (tVar i)) (hm : behindInMarks op b = false := by first | exact nomark _ | with_unfolding_all rfl) : PE X (.Compare a [op] [b] pos) (lift p (wBinR c g wa i)) := by
  obtain ⟨r, h1, h2⟩ := R.ex
  exact PE.imp (pe_cmpR h1 ha hb hm) (opR_lift h2)
end

/-! ### tests -/
def wT (w : W) : WT := ⟨fun s P => w.f s fun d s1 => get (match d with | .bl b => some b | _ => none) fun b => P b s1, fun s P P' h q => w.mono _ _ _ (fun d s1 q => get_mono (fun b => h b s1) q) q⟩
theorem bl_of {d : D} {P : Bool → Prop} (h : get (match d with | .bl b => some b | _ => none) P) : ∃ b, d = .bl b ∧ P b := by
  obtain ⟨b, e, q⟩ := get_of h
  cases d <;> cases e
  exact ⟨_, rfl, q⟩
theorem test_lift {t : TE} (i : ∀ σ H Q, lift p w σ H Q → t σ H Q) (σ : St) (H : Hp) (Q : Bool → Hp → Prop) (h : liftT p (wT w) σ H Q) : tTest t σ H Q := by
  obtain ⟨G, s, R, k⟩ := h
  refine i σ H _ ⟨G, s, R, w.mono _ _ _ (fun d s1 k1 v H1 G1 e1 R1 r1 => ?_) k⟩
  obtain ⟨b, rfl, k2⟩ := bl_of k1
  cases r1
  exact ⟨b, rfl, k2 H1 G1 e1 R1⟩
section
variable {op op2 : CmpOp} {c c2 : D → D → Prop} {g g2 : D → D → Option D} {i : Nat}
theorem td_cmp (R : CmpR X p op c g) (ha : PE X a (lift p wa)) (hb : PE X b (lift p wb)) (hm : behindInMarks op b = false := by first | exact nomark _ | with_unfolding_all rfl) : PT X (.Compare a [op] [b] pos) (liftT p (wT (wBin c g wa wb))) := by
  obtain ⟨r, h1, h2⟩ := R.ex
  exact PT.imp (pt_cmpR h1 ha hb hm) (test_lift (op_lift h2))
theorem td_cmpV (R : CmpR X p op c g) (ha : PE X a (tVar i)) (hb : PE X b (lift p wb)) (hm : behindInMarks op b = false := by first | exact nomark _ | with_unfolding_all rfl) : PT X (.Compare a [op] [b] pos) (liftT p (wT (wBinV c g i wb))) := by
  obtain ⟨r, h1, h2⟩ := R.ex
  exact PT.imp (pt_cmpR h1 ha hb hm) (test_lift (opV_lift h2))
theorem td_cmpR (R : CmpR X p op c g) (ha : PE X a (lift p wa)) (hb : PE X b (tVar i)) (hm : behindInMarks op b = false := by first | exact nomark _ | with_unfolding_all rfl) : PT X (.Compare a [op] [b] pos) (liftT p (wT (wBinR c g wa i))) := by
  obtain ⟨r, h1, h2⟩ := R.ex
  exact PT.imp (pt_cmpR h1 ha hb hm) (test_lift (opR_lift h2))
/-- a <= b <= c -/
def wChain (c c' : D → D → Prop) (g g' : D → D → Option D) (wa wb wc : W) : W := ⟨fun s P => wa.f s fun d1 s1 => wb.f s1 fun d2 s2 => c d1 d2 ∧ get (g d1 d2) fun z => get (match z with | .bl b => some b | _ => none) fun k =>
    if k = true then wc.f s2 fun d3 s3 => c' d2 d3 ∧ get (g' d2 d3) fun d => P d s3 else P (.bl false) s2,
  fun s P P' h q => wa.mono _ _ _ (fun d1 s1 q => wb.mono _ _ _ (fun d2 s2 q => ⟨q.1, get_mono (fun z q => get_mono (fun k q => by
    cases k with
    | true => exact wc.mono _ _ _ (fun d3 s3 q => ⟨q.1, get_mono (fun d => h d s3) q.2⟩) q
    | false => exact h _ _ q) q) q.2⟩) q) q⟩
theorem chain_lift {wc : W} {r r' : R2} (h1 : OpD p r c g) (h2 : OpD p r' c2 g2) (σ : St) (H : Hp) (Q : VK) (h : lift p (wChain c c2 g g2 wa wb wc) σ H Q) : tChain r r' (lift p wa) (lift p wb) (lift p wc) σ H Q := by
  obtain ⟨G, s, R, k⟩ := h
  refine ⟨G, s, R, wa.mono _ _ _ (fun d1 s1 k1 x H1 G1 e1 R1 r1 => ⟨G1, s1, R1, wb.mono _ _ _ (fun d2 s2 k2 y H2 G2 e2 R2 r2 => ?_) k1⟩) k⟩
  obtain ⟨kc, kg⟩ := k2
  obtain ⟨z, ez, kz⟩ := get_of kg
  obtain ⟨b, rfl, kb⟩ := bl_of kz
  refine h1 G2 H2 x y d1 d2 _ _ R2.sub (.of R2.sub (r1.mono e2)) (.of R2.sub r2) kc ez (fun v rv => ?_) fun a o ha ra => by cases ra
  cases rv
  refine ⟨b, rfl, ?_⟩
  cases b with
  | false => exact kb _ H2 G2 (e1.trans e2) R2 (.bl _)
  | true =>
    refine ⟨G2, s2, R2, wc.mono _ _ _ (fun d3 s3 k3 u H3 G3 e3 R3 r3 => ?_) kb⟩
    obtain ⟨kc3, kg3⟩ := k3
    obtain ⟨d, ed, kd⟩ := get_of kg3
    exact h2 G3 H3 y u d2 d3 d Q R3.sub (.of R3.sub (r2.mono e3)) (.of R3.sub r3) kc3 ed (fun v rv => kd v H3 G3 ((e1.trans e2).trans e3) R3 rv) fun a o ha ra => kd _ _ _ (((e1.trans e2).trans e3).trans (Same.upd (R3.sub.none ha))) (R3.alloc ha) ra
theorem pd_chain {wc : W} {cc : Expr} (R : CmpR X p op c g) (R2 : CmpR X p op2 c2 g2) (ha : PE X a (lift p wa)) (hb : PE X b (lift p wb)) (hc : PE X cc (lift p wc)) (hm : lastMarks [op, op2] [b, cc] = false := by with_unfolding_all rfl) :
    PE X (.Compare a [op, op2] [b, cc] pos) (lift p (wChain c c2 g g2 wa wb wc)) := by
  obtain ⟨r, h1, h2⟩ := R.ex
  obtain ⟨r', h3, h4⟩ := R2.ex
  exact PE.imp (pe_chain h1 h3 ha hb hc hm) (chain_lift h2 h4)
theorem td_chain {wc : W} {cc : Expr} (R : CmpR X p op c g) (R2 : CmpR X p op2 c2 g2) (ha : PE X a (lift p wa)) (hb : PE X b (lift p wb)) (hc : PE X cc (lift p wc)) (hm : lastMarks [op, op2] [b, cc] = false := by with_unfolding_all rfl) :
    PT X (.Compare a [op, op2] [b, cc] pos) (liftT p (wT (wChain c c2 g g2 wa wb wc))) := by
  obtain ⟨r, h1, h2⟩ := R.ex
  obtain ⟨r', h3, h4⟩ := R2.ex
  exact PT.imp (pt_chain h1 h3 ha hb hc hm) (test_lift (chain_lift h2 h4))
end
/-- truth of any data -/
def truD : D → Option Bool
  | .non => some false
  | .bl b => some b
  | .int i => some (i != 0)
  | .str x => some ((x.length : Int) != 0)
  | .lst xs => some (!xs.isEmpty)
  | .tup xs => some (!xs.isEmpty)
  | .dic0 => some false
  | .drw => none
def cTru : D → Prop
  | .str x => x.length ≤ sizeLine
  | _ => True
def wTru (w : W) : WT := ⟨fun s P => w.f s fun d s1 => cTru d ∧ get (truD d) fun b => P b s1, fun s P P' h q => w.mono _ _ _ (fun d s1 q => ⟨q.1, get_mono (fun b => h b s1) q.2⟩) q⟩
def wTruV (i : Nat) : WT := ⟨fun s P => get (vget s.env i) fun d => cTru d ∧ get (truD d) fun b => P b s, fun s P P' h q => get_mono (fun d q => ⟨q.1, get_mono (fun b => h b s) q.2⟩) q⟩
theorem RpA.isEmpty {K : PySem.W.Frag} {dr : Option Addr} {G : Hp} {xs : List V} {ds : List D} (h : RpA K dr G xs ds) : xs.isEmpty = ds.isEmpty := by
  cases h <;> rfl
theorem tru_of {G H : Hp} {x : V} {d : D} {b : Bool} (hs : Sub G H) (r : RpB p H G x d) (c : cTru d) (h : truD d = some b) : TruV p.K x H b := by
  cases d <;> simp only [truD] at h <;> cases h
  · cases rb_non r; rfl
  · cases rb_bl r; rfl
  · cases rb_int r; rfl
  · cases rb_str r; exact ⟨c, rfl⟩
  · obtain ⟨a, xs, rfl, h, k⟩ := r
    exact .inl ⟨xs, SqL.of h, by rw [k.isEmpty]⟩
  · obtain ⟨a, xs, rfl, _, h, k⟩ := rb_tup hs r
    exact .inr (.inl ⟨xs, h, by rw [k.isEmpty]⟩)
  · have r' : p.Rp G x .dic0 := r
    cases r' with
    | dic0 h => exact .inr (.inr ⟨_, hs _ _ h, rfl⟩)
theorem td_tru (ha : PE X a (lift p w)) (hK : p.K = X.K := by rfl) (he : ∀ whole, isTrue a X.env whole = (do let v ← whole; standAt a.pos; holding [v] (truthy v)) := by intro _; rfl) : PT X a (liftT p (wTru w)) :=
  PT.imp (pt_truth ha he) fun σ H Q ⟨G, s, R, k⟩ => ⟨G, s, R, w.mono _ _ _ (fun d s1 k1 x H1 G1 e1 R1 r1 => by
    obtain ⟨kc, kg⟩ := k1
    obtain ⟨b, eb, kb⟩ := get_of kg
    exact ⟨b, hK ▸ tru_of R1.sub (.of R1.sub r1) kc eb, kb H1 G1 e1 R1⟩) k⟩
theorem td_truV (i : Nat) (ha : PE X a (tVar i)) (hK : p.K = X.K := by rfl) (he : ∀ whole, isTrue a X.env whole = (do let v ← whole; standAt a.pos; holding [v] (truthy v)) := by intro _; rfl) : PT X a (liftT p (wTruV i)) :=
  PT.imp (pt_truth ha he) fun σ H Q ⟨G, s, R, k⟩ => by
    obtain ⟨d, ed, kc, kg⟩ := get_of k
    obtain ⟨b, eb, kb⟩ := get_of kg
    obtain ⟨x, ex, rx⟩ := vget_rb R ed
    exact ⟨x, ex, b, hK ▸ tru_of R.sub rx kc eb, kb H G (Same.refl G) R⟩
/-- an expression that gives a truth -/
theorem td_val (ha : PE X a (lift p w)) (he : ∀ whole, isTrue a X.env whole = (do let v ← whole; standAt a.pos; holding [v] (truthy v)) := by intro _; rfl) : PT X a (liftT p (wT w)) :=
  PT.imp (pt_val ha he) (test_lift fun _ _ _ q => q)
variable {t1 t2 : WT} {rest : List Expr}
def tAndD (t u : WT) : WT := ⟨fun s P => t.f s fun b s1 => if b = true then u.f s1 P else P false s1, fun s P P' h q => t.mono _ _ _ (fun b s1 q => by
  cases b with
  | true => exact u.mono _ _ _ h q
  | false => exact h _ _ q) q⟩
def tOrD (t u : WT) : WT := ⟨fun s P => t.f s fun b s1 => if b = true then P true s1 else u.f s1 P, fun s P P' h q => t.mono _ _ _ (fun b s1 q => by
  cases b with
  | false => exact u.mono _ _ _ h q
  | true => exact h _ _ q) q⟩
def tNotD (t : WT) : WT := ⟨fun s P => t.f s fun b s1 => P (!b) s1, fun s P P' h q => t.mono _ _ _ (fun b s1 q => h _ _ q) q⟩
theorem PW.imp {t t' : TT} (h : PW X e t) (i : ∀ σ H Q, t' σ H Q → t σ H Q) : PW X e t' := ⟨fun wh pins s σ H Q I q => h.run wh pins s σ H Q I (i σ H Q q)⟩
theorem wd_and1 (ha : PT X a (liftT p t1)) : PW X (.BoolOp .And [a] pos) (liftT p t1) := pw_and1 ha
theorem wd_or1 (ha : PT X a (liftT p t1)) : PW X (.BoolOp .Or [a] pos) (liftT p t1) := pw_or1 ha
theorem wd_and (ha : PT X a (liftT p t1)) (hb : PW X (.BoolOp .And (b :: rest) pos) (liftT p t2)) : PW X (.BoolOp .And (a :: b :: rest) pos) (liftT p (tAndD t1 t2)) :=
  PW.imp (pw_and ha hb) fun σ H Q ⟨G, s, R, k⟩ => ⟨G, s, R, t1.mono _ _ _ (fun b s1 k1 H1 G1 e1 R1 => by
    cases b with
    | true => exact ⟨G1, s1, R1, t2.mono _ _ _ (fun b2 s2 k2 H2 G2 e2 R2 => k2 H2 G2 (e1.trans e2) R2) k1⟩
    | false => exact k1 H1 G1 e1 R1) k⟩
theorem wd_or (ha : PT X a (liftT p t1)) (hb : PW X (.BoolOp .Or (b :: rest) pos) (liftT p t2)) : PW X (.BoolOp .Or (a :: b :: rest) pos) (liftT p (tOrD t1 t2)) :=
  PW.imp (pw_or ha hb) fun σ H Q ⟨G, s, R, k⟩ => ⟨G, s, R, t1.mono _ _ _ (fun b s1 k1 H1 G1 e1 R1 => by
    cases b with
    | false => exact ⟨G1, s1, R1, t2.mono _ _ _ (fun b2 s2 k2 H2 G2 e2 R2 => k2 H2 G2 (e1.trans e2) R2) k1⟩
    | true => exact k1 H1 G1 e1 R1) k⟩
theorem td_not (ha : PT X a (liftT p t1)) : PT X (.UnaryOp .Not a pos) (liftT p (tNotD t1)) :=
  PT.imp (pt_not ha) fun σ H Q ⟨G, s, R, k⟩ => ⟨G, s, R, k⟩
/-- and, or, not as values, of truths -/
def wAndV (wa wb : W) : W := ⟨fun s P => wa.f s fun d s1 => get (match d with | .bl b => some b | _ => none) fun b => if b = true then wb.f s1 P else P (.bl false) s1, fun s P P' h q => wa.mono _ _ _ (fun d s1 q => get_mono (fun b q => by
  cases b with
  | true => exact wb.mono _ _ _ h q
  | false => exact h _ _ q) q) q⟩
def wOrV (wa wb : W) : W := ⟨fun s P => wa.f s fun d s1 => get (match d with | .bl b => some b | _ => none) fun b => if b = true then P (.bl true) s1 else wb.f s1 P, fun s P P' h q => wa.mono _ _ _ (fun d s1 q => get_mono (fun b q => by
  cases b with
  | false => exact wb.mono _ _ _ h q
  | true => exact h _ _ q) q) q⟩
def wNotV (wa : W) : W := ⟨fun s P => wa.f s fun d s1 => get (match d with | .bl b => some b | _ => none) fun b => P (.bl (!b)) s1, fun s P P' h q => wa.mono _ _ _ (fun d s1 q => get_mono (fun b q => h _ _ q) q) q⟩
theorem pd_one {op} (h : PE X a (lift p w)) : PE X (.BoolOp op [a] pos) (lift p w) := pe_one h
theorem pd_and (ha : PE X a (lift p wa)) (hb : PE X (.BoolOp .And (b :: rest) pos) (lift p wb)) : PE X (.BoolOp .And (a :: b :: rest) pos) (lift p (wAndV wa wb)) :=
  PE.imp (pe_and ha hb) fun σ H Q ⟨G, s, R, k⟩ => ⟨G, s, R, wa.mono _ _ _ (fun d s1 k1 x H1 G1 e1 R1 r1 => by
    obtain ⟨b, rfl, k2⟩ := bl_of k1
    cases r1
    refine ⟨b, rfl, ?_⟩
    cases b with
    | true => exact ⟨G1, s1, R1, wb.mono _ _ _ (fun d2 s2 k2 v H2 G2 e2 R2 => k2 v H2 G2 (e1.trans e2) R2) k2⟩
    | false => exact k2 _ H1 G1 e1 R1 (.bl _)) k⟩
theorem pd_or (ha : PE X a (lift p wa)) (hb : PE X (.BoolOp .Or (b :: rest) pos) (lift p wb)) : PE X (.BoolOp .Or (a :: b :: rest) pos) (lift p (wOrV wa wb)) :=
  PE.imp (pe_or ha hb) fun σ H Q ⟨G, s, R, k⟩ => ⟨G, s, R, wa.mono _ _ _ (fun d s1 k1 x H1 G1 e1 R1 r1 => by
    obtain ⟨b, rfl, k2⟩ := bl_of k1
    cases r1
    refine ⟨b, rfl, ?_⟩
    cases b with
    | false => exact ⟨G1, s1, R1, wb.mono _ _ _ (fun d2 s2 k2 v H2 G2 e2 R2 => k2 v H2 G2 (e1.trans e2) R2) k2⟩
    | true => exact k2 _ H1 G1 e1 R1 (.bl _)) k⟩
theorem pd_not (ha : PE X a (lift p wa)) : PE X (.UnaryOp .Not a pos) (lift p (wNotV wa)) :=
  PE.imp (pe_not ha) fun σ H Q ⟨G, s, R, k⟩ => ⟨G, s, R, wa.mono _ _ _ (fun d s1 k1 x H1 G1 e1 R1 r1 => by
    obtain ⟨b, rfl, k2⟩ := bl_of k1
    cases r1
    exact ⟨b, rfl, k2 _ H1 G1 e1 R1 (.bl _)⟩) k⟩
def wIf (t : WT) (wa wb : W) : W := ⟨fun s P => t.f s fun b s1 => if b = true then wa.f s1 P else wb.f s1 P, fun s P P' h q => t.mono _ _ _ (fun b s1 q => by
  cases b with
  | true => exact wa.mono _ _ _ h q
  | false => exact wb.mono _ _ _ h q) q⟩
theorem pd_ifExp {c : Expr} (hc : PT X c (liftT p t1)) (ha : PE X a (lift p wa)) (hb : PE X b (lift p wb)) : PE X (.IfExp c a b pos) (lift p (wIf t1 wa wb)) :=
  PE.imp (pe_ifExp hc ha hb) fun σ H Q ⟨G, s, R, k⟩ => ⟨G, s, R, t1.mono _ _ _ (fun b s1 k1 H1 G1 e1 R1 => by
    cases b with
    | true => exact ⟨G1, s1, R1, wa.mono _ _ _ (fun d2 s2 k2 v H2 G2 e2 R2 => k2 v H2 G2 (e1.trans e2) R2) k1⟩
    | false => exact ⟨G1, s1, R1, wb.mono _ _ _ (fun d2 s2 k2 v H2 G2 e2 R2 => k2 v H2 G2 (e1.trans e2) R2) k1⟩) k⟩
end
end DI
/-! Subscripts, displays, arguments, calls. -/
namespace DI
open PySem L2
section
variable {X : Cx} {p : Pl} {e a b : Expr} {es : List Expr} {pos : Pos} {w wa wb : W}

/-! ### subscripts -/
def gIx : D → D → Option D
  | .lst ds, .int i => atI ds i
  | .tup ds, .int i => atI ds i
  | .str z, .int i => (atI z.cps.toList i).map fun c => .str ⟨#[c]⟩
  | _, _ => none
def cIx : D → D → Prop
  | .str z, _ => z.length ≤ sizeLine
  | _, _ => True
theorem RpA.atI {K : PySem.W.Frag} {dr : Option Addr} {G : Hp} {xs : List V} {ds : List D} {i : Int} {d : D} (h : RpA K dr G xs ds) (e : L2.atI ds i = some d) : ∃ v, L2.atI xs i = some v ∧ Rp K dr G v d := by
  unfold L2.atI at e ⊢
  rw [h.length]
  cases q : ixN ds.length i with
  | none => rw [q] at e; cases e
  | some j =>
    rw [q] at e
    exact h.get (i := j) (d := d) e
theorem od_ix (hK : p.K = X.K) : OpD p (rIx X.K) cIx gIx := by
  intro G H x y d1 d2 d Q hs r1 r2 hc hg k1 k2
  cases d1 <;> cases d2 <;> simp only [gIx] at hg <;> try cases hg
  · cases rb_str r1
    cases rb_int r2
    rename_i z i
    cases q : atI z.cps.toList i with
    | none => rw [q] at hg; cases hg
    | some c =>
      rw [q] at hg
      cases hg
      exact .inr (.inr ⟨_, _, c, rfl, rfl, hc, q, k1 _ (.str _)⟩)
  · obtain ⟨a, xs, rfl, h, k⟩ := r1
    cases rb_int r2
    obtain ⟨v, ev, rv⟩ := k.atI hg
    exact .inl ⟨a, xs, _, v, rfl, rfl, SqL.of h, ev, k1 _ rv⟩
  · obtain ⟨a, xs, rfl, _, h, k⟩ := rb_tup hs r1
    cases rb_int r2
    obtain ⟨v, ev, rv⟩ := k.atI hg
    exact .inr (.inl ⟨a, xs, _, v, rfl, rfl, hK ▸ h, ev, k1 _ rv⟩)
theorem pd_ix (ha : PE X a (lift p wa)) (hb : PE X b (lift p wb)) (hK : p.K = X.K := by rfl) (hs : PlainIx b := by exact fun _ _ => rfl) : PE X (.Subscript a b pos) (lift p (wBin cIx gIx wa wb)) := PE.imp (pe_ix ix_seq ha hb hs) (op_lift (od_ix hK))
theorem pd_ixV (i : Nat) (ha : PE X a (tVar i)) (hb : PE X b (lift p wb)) (hK : p.K = X.K := by rfl) (hs : PlainIx b := by exact fun _ _ => rfl) : PE X (.Subscript a b pos) (lift p (wBinV cIx gIx i wb)) := PE.imp (pe_ix ix_seq ha hb hs) (opV_lift (od_ix hK))

/-! ### slices -/
structure WO where
  f : S → (Option Int → S → Prop) → Prop
  mono : ∀ s P P', (∀ d s', P d s' → P' d s') → f s P → f s P'
def liftO (p : Pl) (w : WO) : TO := fun σ H Q => ∃ G s, p.Rs σ H G s ∧ w.f s fun o s' => ∀ H' G', Same G G' → p.Rs σ H' G' s' → Q o H'
def wNoPart : WO := ⟨fun s P => P none s, fun _ _ _ h q => h _ _ q⟩
def wPart (w : W) : WO := ⟨fun s P => w.f s fun d s1 => get (match d with | .int i => some i | _ => none) fun i => P (some i) s1, fun s P P' h q => w.mono _ _ _ (fun d s1 q => get_mono (fun i q => h _ _ q) q) q⟩
theorem od_none : PO X none (liftO p wNoPart) := ⟨fun pins s σ H Q I ⟨G, st, R, k⟩ => po_none.run pins s σ H Q I (k H G (Same.refl G) R)⟩
theorem od_some (h : PE X e (lift p w)) : PO X (some e) (liftO p (wPart w)) := ⟨fun pins s σ H Q I ⟨G, st, R, k⟩ => (po_some h).run pins s σ H Q I ⟨G, st, R, w.mono _ _ _ (fun d s1 k1 v H1 G1 e1 R1 r1 => by
  obtain ⟨i, ei, k2⟩ := get_of k1
  cases d <;> cases ei
  cases r1
  exact ⟨i, rfl, k2 H1 G1 e1 R1⟩) k⟩⟩
def cutL {α : Type} (xs : List α) (lo hi : Option Int) : List α := (xs.drop (HT.sIx xs.length 0 lo)).take (HT.sIx xs.length xs.length hi - HT.sIx xs.length 0 lo)
def gSl : D → Option Int → Option Int → Option D
  | .lst ds, lo, hi => some (.lst (cutL ds lo hi))
  | .tup ds, lo, hi => some (.tup (cutL ds lo hi))
  | .str z, lo, hi => some (.str (cutS z lo hi))
  | _, _, _ => none
def cSl : D → Prop
  | .str z => z.length ≤ sizeLine
  | _ => True
def wSl (wa : W) (lo hi : WO) : W := ⟨fun s P => wa.f s fun d s1 => lo.f s1 fun l s2 => hi.f s2 fun h s3 => cSl d ∧ get (gSl d l h) fun z => P z s3,
  fun s P P' h q => wa.mono _ _ _ (fun d s1 q => lo.mono _ _ _ (fun l s2 q => hi.mono _ _ _ (fun u s3 q => ⟨q.1, get_mono (fun z => h z s3) q.2⟩) q) q) q⟩
def wSlV (i : Nat) (lo hi : WO) : W := ⟨fun s P => get (vget s.env i) fun _ => lo.f s fun l s2 => hi.f s2 fun h s3 => get (vget s3.env i) fun d => cSl d ∧ get (gSl d l h) fun z => P z s3,
  fun s P P' h q => get_mono (fun _ q => lo.mono _ _ _ (fun l s2 q => hi.mono _ _ _ (fun u s3 q => get_mono (fun d q => ⟨q.1, get_mono (fun z => h z s3) q.2⟩) q) q) q) q⟩
theorem RpA.cut {K : PySem.W.Frag} {dr : Option Addr} {G : Hp} {xs : List V} {ds : List D} (h : RpA K dr G xs ds) (lo hi : Option Int) : RpA K dr G (cutV xs lo hi) (cutL ds lo hi) := by
  unfold cutV cutL
  rw [h.length]
  exact (h.drop _).take _
def rSlX (K : PySem.W.Frag) : V → Option Int → Option Int → Hp → VK → Prop := fun x lo hi H Q => rSlL K x lo hi H Q ∨ (rSlA K x lo hi H Q ∨ rSlS x lo hi H Q)
theorem sl_X : L2.SlR X (rSlX X.K) := sl_list.or (sl_tupA.or sl_str)
theorem slx_of {G H : Hp} {x : V} {d z : D} {l h : Option Int} {Q : VK} (hK : p.K = X.K) (hs : Sub G H) (r : RpB p H G x d) (hc : cSl d) (hg : gSl d l h = some z) (k1 : ∀ v, p.Rp G v z → Q v H)
    (k2 : ∀ a o, H a = none → p.Rp (upd G a o) (.ref a) z → Q (.ref a) (upd H a o)) : rSlX X.K x l h H Q := by
  cases d <;> simp only [gSl] at hg <;> cases hg
  · cases rb_str r
    exact .inr (.inr ⟨_, rfl, hc, k1 _ (.str _)⟩)
  · obtain ⟨a, xs, rfl, h1, k⟩ := r
    exact .inl ⟨a, xs, rfl, SqL.of h1, fun q hq => k2 q _ hq (.lst upd_same ((k.cut l h).mono (Same.upd (hs.none hq))))⟩
  · obtain ⟨a, xs, rfl, h0, h1, k⟩ := rb_tup hs r
    refine .inr (.inl ⟨a, xs, rfl, hK ▸ h1, fun ⟨q1, q2⟩ => ?_, fun _ q hq => k2 q _ hq (.tup (.inl (.inl upd_same)) ((k.cut l h).mono (Same.upd (hs.none hq))))⟩)
    have e : cutL ‹List D› l h = ‹List D› := by
      unfold cutL
      rw [k.length] at q1 q2
      rw [q1, q2]
      simp
    rw [e] at k1
    exact k1 _ (.tup h0 k)
theorem pd_sl {p2 : Pos} {lo hi : Option Expr} {wl wh : WO} (ha : PE X a (lift p wa)) (hl : PO X lo (liftO p wl)) (hh : PO X hi (liftO p wh)) (hK : p.K = X.K := by rfl) : PE X (.Subscript a (.Slice lo hi none p2) pos) (lift p (wSl wa wl wh)) :=
  PE.imp (pe_slice sl_X ha hl hh) fun σ H Q ⟨G, s, R, k⟩ => ⟨G, s, R, wa.mono _ _ _ (fun d s1 k1 x H1 G1 e1 R1 r1 => ⟨G1, s1, R1, wl.mono _ _ _ (fun l s2 k2 H2 G2 e2 R2 => ⟨G2, s2, R2, wh.mono _ _ _ (fun u s3 k3 H3 G3 e3 R3 => by
    obtain ⟨kc, kg⟩ := k3
    obtain ⟨z, ez, kz⟩ := get_of kg
    have e13 := (e1.trans e2).trans e3
    exact slx_of hK R3.sub (.of R3.sub (r1.mono (e2.trans e3))) kc ez (fun v rv => kz v H3 G3 e13 R3 rv) fun q o hq rq => kz _ _ _ (e13.trans (Same.upd (R3.sub.none hq))) (R3.alloc hq) rq) k2⟩) k1⟩) k⟩
theorem pd_slV {p2 : Pos} {lo hi : Option Expr} {wl wh : WO} (i : Nat) (ha : PE X a (tVar i)) (hl : PO X lo (liftO p wl)) (hh : PO X hi (liftO p wh)) (hK : p.K = X.K := by rfl) : PE X (.Subscript a (.Slice lo hi none p2) pos) (lift p (wSlV i wl wh)) :=
  PE.imp (pe_slice sl_X ha hl hh) fun σ H Q ⟨G, s, R, k⟩ => by
    obtain ⟨d0, e0, k⟩ := get_of k
    obtain ⟨x, hx, _⟩ := vget_rb R e0
    refine ⟨x, hx, G, s, R, wl.mono _ _ _ (fun l s2 k2 H2 G2 e2 R2 => ⟨G2, s2, R2, wh.mono _ _ _ (fun u s3 k3 H3 G3 e3 R3 => ?_) k2⟩) k⟩
    obtain ⟨d, ed, kc, kg⟩ := get_of k3
    obtain ⟨x', ex, rx⟩ := vget_rb R3 ed
    rw [hx] at ex
    cases ex
    obtain ⟨z, ez, kz⟩ := get_of kg
    have e13 := e2.trans e3
    exact slx_of hK R3.sub rx kc ez (fun v rv => kz v H3 G3 e13 R3 rv) fun q o hq rq => kz _ _ _ (e13.trans (Same.upd (R3.sub.none hq))) (R3.alloc hq) rq
/-- xs[::-1] of a list -/
def gRev : D → Option D
  | .lst ds => some (.lst ds.reverse)
  | _ => none
def wRev (wa : W) : W := ⟨fun s P => wa.f s fun d s1 => get (gRev d) fun z => P z s1, fun s P P' h q => wa.mono _ _ _ (fun d s1 q => get_mono (fun z => h z s1) q) q⟩
def wRevV (i : Nat) : W := ⟨fun s P => get (vget s.env i) fun d => get (gRev d) fun z => P z s, fun s P P' h q => get_mono (fun d q => get_mono (fun z => h z s) q) q⟩
theorem pd_rev {k : Nat} {p1 p2 p3 : Pos} (ha : PE X a (lift p wa)) : PE X (.Subscript a (.Slice none none (some (.UnaryOp .USub (.Constant (.int 1) k p1) p2)) p3) pos) (lift p (wRev wa)) :=
  PE.imp (pe_revL ha) fun σ H Q ⟨G, s, R, k⟩ => ⟨G, s, R, wa.mono _ _ _ (fun d s1 k1 x H1 G1 e1 R1 r1 => by
    obtain ⟨z, ez, kz⟩ := get_of k1
    cases d <;> cases ez
    cases r1 with
    | lst h k => exact ⟨_, _, rfl, SqL.of (R1.sub _ _ h), fun q hq => kz _ _ _ (e1.trans (Same.upd (R1.sub.none hq))) (R1.alloc hq) (.lst upd_same (k.reverse.mono (Same.upd (R1.sub.none hq))))⟩) k⟩
theorem pd_revV {k : Nat} {p1 p2 p3 : Pos} (i : Nat) (ha : PE X a (tVar i)) : PE X (.Subscript a (.Slice none none (some (.UnaryOp .USub (.Constant (.int 1) k p1) p2)) p3) pos) (lift p (wRevV i)) :=
  PE.imp (pe_revL ha) fun σ H Q ⟨G, s, R, k⟩ => by
    obtain ⟨d, ed, k⟩ := get_of k
    obtain ⟨z, ez, kz⟩ := get_of k
    obtain ⟨x, hx, rx⟩ := vget_rb R ed
    cases d <;> cases ez
    obtain ⟨q, xs, rfl, h, k⟩ := rx
    exact ⟨_, hx, q, xs, rfl, SqL.of h, fun q hq => kz _ _ _ (Same.upd (R.sub.none hq)) (R.alloc hq) (.lst upd_same (k.reverse.mono (Same.upd (R.sub.none hq))))⟩

/-! ### arguments -/
/-- values by their modes: borrowed, or plain data -/
inductive RpM (p : Pl) (H G : Hp) : List Bool → List V → List D → Prop
  | nil : RpM p H G [] [] []
  | val {v : V} {d : D} {ms : List Bool} {vs : List V} {ds : List D} : p.Rp G v d → RpM p H G ms vs ds → RpM p H G (false :: ms) (v :: vs) (d :: ds)
  | bor {v : V} {d : D} {ms : List Bool} {vs : List V} {ds : List D} : RpB p H G v d → RpM p H G ms vs ds → RpM p H G (true :: ms) (v :: vs) (d :: ds)
def liftM (p : Pl) (ms : List Bool) (w : WA) : TA := fun σ H Q => ∃ G s, p.Rs σ H G s ∧ w.f s fun ds s' => ∀ vs H' G', Same G G' → p.Rs σ H' G' s' → RpM p H' G' ms vs ds → Q vs H'
def waNil : WA := ⟨fun s P => P [] s, fun _ _ _ h q => h _ _ q⟩
def waCons (w : W) (t : WA) : WA := ⟨fun s P => w.f s fun d s1 => t.f s1 fun ds s2 => P (d :: ds) s2, fun s P P' h q => w.mono _ _ _ (fun d s1 q => t.mono _ _ _ (fun ds s2 q => h _ _ q) q) q⟩
def waBor (i : Nat) (t : WA) : WA := ⟨fun s P => get (vget s.env i) fun _ => t.f s fun ds s2 => get (vget s2.env i) fun d => P (d :: ds) s2, fun s P P' h q => get_mono (fun _ q => t.mono _ _ _ (fun ds s2 q => get_mono (fun d q => h _ _ q) q) q) q⟩
variable {ms : List Bool} {t : WA}
theorem ad_nil : PA X [] (liftM p [] waNil) := PA.imp pa_nil fun σ H Q ⟨G, s, R, k⟩ => k [] H G (Same.refl G) R .nil
theorem ad_cons (h : PE X e (lift p w)) (ht : PA X es (liftM p ms t)) (hs : starEach (e :: es) X.env = (false, eval e X.env) :: starEach es X.env := by rfl) : PA X (e :: es) (liftM p (false :: ms) (waCons w t)) :=
  PA.imp (pa_cons h ht hs) fun σ H Q ⟨G, s, R, k⟩ => ⟨G, s, R, w.mono _ _ _ (fun d s1 k1 v H1 G1 e1 R1 r1 => ⟨G1, s1, R1, t.mono _ _ _ (fun ds s2 k2 vs H2 G2 e2 R2 r2 => k2 _ H2 G2 (e1.trans e2) R2 (.val (r1.mono e2) r2)) k1⟩) k⟩
theorem ad_bor (i : Nat) (h : PE X e (tVar i)) (ht : PA X es (liftM p ms t)) (hs : starEach (e :: es) X.env = (false, eval e X.env) :: starEach es X.env := by rfl) : PA X (e :: es) (liftM p (true :: ms) (waBor i t)) :=
  PA.imp (pa_cons h ht hs) fun σ H Q ⟨G, s, R, k⟩ => by
    obtain ⟨d0, e0, k⟩ := get_of k
    obtain ⟨x, hx, _⟩ := vget_rb R e0
    refine ⟨x, hx, G, s, R, t.mono _ _ _ (fun ds s2 k2 vs H2 G2 e2 R2 r2 => ?_) k⟩
    obtain ⟨d, ed, kd⟩ := get_of k2
    obtain ⟨x', ex, rx⟩ := vget_rb R2 ed
    rw [hx] at ex
    cases ex
    exact kd _ H2 G2 e2 R2 (.bor rx r2)
/-- all plain -/
theorem RpM.all {H G : Hp} : ∀ {ms : List Bool} {vs : List V} {ds : List D}, RpM p H G ms vs ds → (∀ m ∈ ms, m = false) → p.RpA G vs ds
  | _, _, _, .nil, _ => .nil
  | _, _, _, .val r t, h => .cons r (RpM.all t fun m hm => h m (List.mem_cons_of_mem _ hm))
  | _, _, _, .bor r t, h => nomatch h true List.mem_cons_self
theorem RpM.length {H G : Hp} : ∀ {ms : List Bool} {vs : List V} {ds : List D}, RpM p H G ms vs ds → vs.length = ms.length ∧ ds.length = ms.length
  | _, _, _, .nil => ⟨rfl, rfl⟩
  | _, _, _, .val r t => ⟨by rw [List.length_cons, List.length_cons, (RpM.length t).1], by rw [List.length_cons, List.length_cons, (RpM.length t).2]⟩
  | _, _, _, .bor r t => ⟨by rw [List.length_cons, List.length_cons, (RpM.length t).1], by rw [List.length_cons, List.length_cons, (RpM.length t).2]⟩
theorem allF_replicate {n : Nat} : ∀ m ∈ List.replicate n false, m = false := fun m h => (List.mem_replicate.mp h).2

/-! ### displays -/
def wTup (t : WA) : W := ⟨fun s P => t.f s fun ds s1 => ds.length ≤ sizeLine ∧ P (.tup ds) s1, fun s P P' h q => t.mono _ _ _ (fun ds s1 q => ⟨q.1, h _ _ q.2⟩) q⟩
def wLst (t : WA) : W := ⟨fun s P => t.f s fun ds s1 => ds.length ≤ sizeLine ∧ P (.lst ds) s1, fun s P P' h q => t.mono _ _ _ (fun ds s1 q => ⟨q.1, h _ _ q.2⟩) q⟩
theorem pd_tup {x1} (h : PA X es (liftM p ms t)) (hm : ∀ m ∈ ms, m = false := by decide) : PE X (.Tuple es x1 pos) (lift p (wTup t)) :=
  PE.imp (pe_tup h) fun σ H Q ⟨G, s, R, k⟩ => ⟨G, s, R, t.mono _ _ _ (fun ds s1 k1 vs H1 G1 e1 R1 r1 => by
    have ra := r1.all hm
    exact ⟨by rw [ra.length]; exact k1.1, fun q hq => k1.2 _ _ _ (e1.trans (Same.upd (R1.sub.none hq))) (R1.alloc hq) (.tup (.inl (.inl upd_same)) (ra.mono (Same.upd (R1.sub.none hq))))⟩) k⟩
theorem pd_lst (h : PA X es (liftM p ms t)) (hm : ∀ m ∈ ms, m = false := by decide) : PE X (.List es pos) (lift p (wLst t)) :=
  PE.imp (pe_lst h) fun σ H Q ⟨G, s, R, k⟩ => ⟨G, s, R, t.mono _ _ _ (fun ds s1 k1 vs H1 G1 e1 R1 r1 => by
    have ra := r1.all hm
    exact ⟨by rw [ra.length]; exact k1.1, fun q hq => k1.2 _ _ _ (e1.trans (Same.upd (R1.sub.none hq))) (R1.alloc hq) (.lst upd_same (ra.mono (Same.upd (R1.sub.none hq))))⟩) k⟩

/-! ### calls of built-ins -/
def CallD (p : Pl) (r : List V → Hp → VK → Prop) (ms : List Bool) (c : List D → Prop) (g : List D → Option D) : Prop :=
  ∀ (G H : Hp) (vs : List V) (ds : List D) (d : D) (Q : VK), Sub G H → RpM p H G ms vs ds → c ds → g ds = some d → (∀ v, p.Rp G v d → Q v H) → (∀ a o, H a = none → p.Rp (upd G a o) (.ref a) d → Q (.ref a) (upd H a o)) → r vs H Q
def wFn (c : List D → Prop) (g : List D → Option D) (t : WA) : W := ⟨fun s P => t.f s fun ds s1 => c ds ∧ get (g ds) fun d => P d s1, fun s P P' h q => t.mono _ _ _ (fun ds s1 q => ⟨q.1, get_mono (fun d => h d s1) q.2⟩) q⟩
theorem fn_lift {r : List V → Hp → VK → Prop} {c : List D → Prop} {g : List D → Option D} (hd : CallD p r ms c g) (σ : St) (H : Hp) (Q : VK) (h : lift p (wFn c g t) σ H Q) : tCB r (liftM p ms t) σ H Q := by
  obtain ⟨G, s, R, k⟩ := h
  refine ⟨G, s, R, t.mono _ _ _ (fun ds s1 k1 vs H1 G1 e1 R1 r1 => ?_) k⟩
  obtain ⟨kc, kg⟩ := k1
  obtain ⟨d, ed, kd⟩ := get_of kg
  exact hd G1 H1 vs ds d Q R1.sub r1 kc ed (fun v rv => kd v H1 G1 e1 R1 rv) fun q o hq rq => kd _ _ _ (e1.trans (Same.upd (R1.sub.none hq))) (R1.alloc hq) rq
/-- a built-in: its name, its value, its rule by data -/
structure BtR (X : Cx) (p : Pl) (x : Str) (ms : List Bool) (c : List D → Prop) (g : List D → Option D) : Prop where
  ex : (∃ (id : String) (r : List V → Hp → VK → Prop), bootBuiltins x = some (.builtin id) ∧ CallR X (.builtin id) r ∧ CallD p r ms c g) ∨ (∃ (T : String) (r : List V → Hp → VK → Prop), bootBuiltins x = some (.type T) ∧ CallR X (.type T) r ∧ CallD p r ms c g)
theorem pd_bt {x : Str} {pf : Pos} {c : List D → Prop} {g : List D → Option D} (B : BtR X p x ms c g) (hm : X.mg x = none) (ha : PA X (e :: es) (liftM p ms t)) (hg : Gl X x := by rfl) (hn : x ≠ "__name__" := by decide) (hdb : (x == ("__debug__" : Str)) = false := by decide)
    (hs : starEach (e :: es) X.env = (false, eval e X.env) :: starEach es X.env := by rfl) (hpl : (backTo pos (starEach es X.env)).any (·.1) = false := by rfl) : PE X (.Call (.Name x pf) (e :: es) [] pos) (lift p (wFn c g t)) := by
  rcases B.ex with ⟨id, r, hv, h1, h2⟩ | ⟨T, r, hv, h1, h2⟩
  · exact PE.imp (pe_callB h1 hg hm hv ha hn hdb hs hpl) (fn_lift h2)
  · exact PE.imp (pe_callTy h1 hg hm hv ha hn hdb hs hpl) (fn_lift h2)
def c0 : List D → Prop := fun _ => True
theorem rm1 {H G : Hp} {m : Bool} {vs : List V} {ds : List D} (hs : Sub G H) (h : RpM p H G [m] vs ds) : ∃ v d, vs = [v] ∧ ds = [d] ∧ RpB p H G v d := by
  cases h with
  | val r t => cases t; exact ⟨_, _, rfl, rfl, .of hs r⟩
  | bor r t => cases t; exact ⟨_, _, rfl, rfl, r⟩
/-- len -/
def gLen : List D → Option D
  | [.lst ds] => some (.int ds.length)
  | [.tup ds] => some (.int ds.length)
  | [.str z] => some (.int z.length)
  | [.dic0] => some (.int 0)
  | _ => none
def cLen : List D → Prop
  | [.str z] => z.length ≤ sizeLine
  | [.dic0] => False
  | _ => True
theorem bt_len {m : Bool} (hK : p.K = X.K := by rfl) : BtR X p "len" [m] cLen gLen := ⟨.inl ⟨_, _, PySem.boot_len, call_len_seq.or call_len_str, fun G H vs ds d Q hs r hc hg k1 k2 => by
  obtain ⟨v, d0, rfl, rfl, rb⟩ := rm1 hs r
  cases d0 <;> simp only [gLen] at hg <;> cases hg
  · cases rb_str rb
    exact .inr ⟨_, rfl, hc, k1 _ (.int _)⟩
  · obtain ⟨a, xs, rfl, h, k⟩ := rb
    exact .inl ⟨a, xs, rfl, .inl (SqL.of h), by rw [k.length]; exact k1 _ (.int _)⟩
  · obtain ⟨a, xs, rfl, _, h, k⟩ := rb_tup hs rb
    exact .inl ⟨a, xs, rfl, .inr (hK ▸ h), by rw [k.length]; exact k1 _ (.int _)⟩
  · exact hc.elim⟩⟩
/-- tuple, list of a list or a tuple -/
def gTuple : List D → Option D
  | [.lst ds] => some (.tup ds)
  | [.tup ds] => some (.tup ds)
  | _ => none
def gList : List D → Option D
  | [.lst ds] => some (.lst ds)
  | [.tup ds] => some (.lst ds)
  | _ => none
theorem bt_tuple {m : Bool} (hK : p.K = X.K := by rfl) : BtR X p "tuple" [m] c0 gTuple := ⟨.inr ⟨_, _, by decide +kernel, call_tuple_of, fun G H vs ds d Q hs r hc hg k1 k2 => by
  obtain ⟨v, d0, rfl, rfl, rb⟩ := rm1 hs r
  cases d0 <;> simp only [gTuple] at hg <;> cases hg
  · obtain ⟨a, xs, rfl, h, k⟩ := rb
    exact ⟨a, xs, rfl, .inl ⟨SqL.of h, fun q hq => k2 q _ hq (.tup (.inl (.inl upd_same)) (k.mono (Same.upd (hs.none hq))))⟩⟩
  · obtain ⟨a, xs, rfl, h0, h, k⟩ := rb_tup hs rb
    exact ⟨a, xs, rfl, .inr ⟨hK ▸ h, k1 _ (.tup h0 k)⟩⟩⟩⟩
theorem bt_list {m : Bool} (hK : p.K = X.K := by rfl) : BtR X p "list" [m] c0 gList := ⟨.inr ⟨_, _, by decide +kernel, call_list_of, fun G H vs ds d Q hs r hc hg k1 k2 => by
  obtain ⟨v, d0, rfl, rfl, rb⟩ := rm1 hs r
  cases d0 <;> simp only [gList] at hg <;> cases hg
  · obtain ⟨a, xs, rfl, h, k⟩ := rb
    exact ⟨a, xs, rfl, .inl (SqL.of h), fun q hq => k2 q _ hq (.lst upd_same (k.mono (Same.upd (hs.none hq))))⟩
  · obtain ⟨a, xs, rfl, h0, h, k⟩ := rb_tup hs rb
    exact ⟨a, xs, rfl, .inr (hK ▸ h), fun q hq => k2 q _ hq (.lst upd_same (k.mono (Same.upd (hs.none hq))))⟩⟩⟩
/-- int of an int, a bool; str of an int; ord; all, any of truths -/
def gInt : List D → Option D
  | [.int i] => some (.int i)
  | [.bl b] => some (.int (if b then 1 else 0))
  | _ => none
theorem bt_int : BtR X p "int" [false] c0 gInt := ⟨.inr ⟨_, _, by decide +kernel, call_int1, fun G H vs ds d Q hs r hc hg k1 k2 => by
  obtain ⟨v, d0, rfl, rfl, rb⟩ := rm1 hs r
  cases d0 <;> simp only [gInt] at hg <;> cases hg
  · cases rb_bl rb
    exact .inr ⟨_, rfl, k1 _ (.int _)⟩
  · cases rb_int rb
    exact .inl ⟨_, rfl, k1 _ (.int _)⟩⟩⟩
def gStr : List D → Option D
  | [.int i] => some (.str (toString i))
  | _ => none
def cStr : List D → Prop
  | [.int i] => i.natAbs.log2 < 1920
  | _ => True
theorem bt_str : BtR X p "str" [false] cStr gStr := ⟨.inr ⟨_, _, by decide +kernel, call_str_int, fun G H vs ds d Q hs r hc hg k1 k2 => by
  obtain ⟨v, d0, rfl, rfl, rb⟩ := rm1 hs r
  cases d0 <;> simp only [gStr] at hg <;> cases hg
  cases rb_int rb
  exact ⟨_, rfl, hc, k1 _ (.str _)⟩⟩⟩
def gOrd : List D → Option D
  | [.str x] => some (.int (x.cps.getD 0 0 : Nat))
  | _ => none
def cOrd : List D → Prop
  | [.str x] => x.length = 1
  | _ => True
theorem bt_ord : BtR X p "ord" [false] cOrd gOrd := ⟨.inl ⟨_, _, by decide +kernel, call_ord, fun G H vs ds d Q hs r hc hg k1 k2 => by
  obtain ⟨v, d0, rfl, rfl, rb⟩ := rm1 hs r
  cases d0 <;> simp only [gOrd] at hg <;> cases hg
  cases rb_str rb
  exact ⟨_, rfl, hc, k1 _ (.int _)⟩⟩⟩
def blsOf : List D → Option (List Bool)
  | [] => some []
  | .bl b :: ds => (blsOf ds).map (b :: ·)
  | _ :: _ => none
theorem bls_of {G : Hp} : ∀ {ds : List D} {bs : List Bool} {xs : List V}, blsOf ds = some bs → p.RpA G xs ds → xs = bs.map V.bl
  | [], bs, xs, e, h => by
    cases e
    cases h
    rfl
  | .bl b :: ds, bs, xs, e, h => by
    simp only [blsOf, Option.map_eq_some_iff] at e
    obtain ⟨cs, e1, rfl⟩ := e
    cases h with
    | cons r t =>
      cases r
      rw [bls_of e1 t]
      rfl
  | .non :: _, _, _, e, _ => by cases e
  | .int _ :: _, _, _, e, _ => by cases e
  | .str _ :: _, _, _, e, _ => by cases e
  | .lst _ :: _, _, _, e, _ => by cases e
  | .tup _ :: _, _, _, e, _ => by cases e
  | .drw :: _, _, _, e, _ => by cases e
  | .dic0 :: _, _, _, e, _ => by cases e
def gAll : List D → Option D
  | [.lst ds] => (blsOf ds).map fun bs => .bl (bs.all (fun b => b))
  | _ => none
def gAny : List D → Option D
  | [.lst ds] => (blsOf ds).map fun bs => .bl (bs.any (fun b => b))
  | _ => none
theorem bt_all {m : Bool} (hc : X.calm = true := by rfl) : BtR X p "all" [m] c0 gAll := ⟨.inl ⟨_, _, by decide +kernel, cr_all hc, fun G H vs ds d Q hs r hc hg k1 k2 => by
  obtain ⟨v, d0, rfl, rfl, rb⟩ := rm1 hs r
  cases d0 <;> simp only [gAll] at hg <;> try cases hg
  obtain ⟨a, xs, rfl, h, k⟩ := rb
  obtain ⟨bs, e, rfl⟩ := Option.map_eq_some_iff.mp hg
  exact ⟨a, bs, rfl, SqL.of (by rw [← bls_of e k]; exact h), k1 _ (.bl _)⟩⟩⟩
theorem bt_any {m : Bool} (hc : X.calm = true := by rfl) : BtR X p "any" [m] c0 gAny := ⟨.inl ⟨_, _, by decide +kernel, cr_any hc, fun G H vs ds d Q hs r hc hg k1 k2 => by
  obtain ⟨v, d0, rfl, rfl, rb⟩ := rm1 hs r
  cases d0 <;> simp only [gAny] at hg <;> try cases hg
  obtain ⟨a, xs, rfl, h, k⟩ := rb
  obtain ⟨bs, e, rfl⟩ := Option.map_eq_some_iff.mp hg
  exact ⟨a, bs, rfl, SqL.of (by rw [← bls_of e k]; exact h), k1 _ (.bl _)⟩⟩⟩
/-- isinstance(x, T), T a built-in class -/
def tyD : D → Option String
  | .non => some "NoneType"
  | .bl _ => some "bool"
  | .int _ => some "int"
  | .str _ => some "str"
  | .lst _ => some "list"
  | .tup _ => some "tuple"
  | .dic0 => some "dict"
  | .drw => none
def isT (T t : String) : Bool := t == T || (t == "bool" && T == "int")
def gIsi (T : String) : D → Option D := fun d => (tyD d).map fun t => .bl (isT T t)
theorem tyx_of {G H : Hp} {x : V} {d : D} {t : String} (hs : Sub G H) (r : RpB p H G x d) (h : tyD d = some t) : TyX p.K H x (.type t) := by
  cases d <;> simp only [tyD] at h <;> cases h
  · cases rb_non r; exact .base .non
  · cases rb_bl r; exact .base (.bl _)
  · cases rb_int r; exact .base (.int _)
  · cases rb_str r; exact .base (.str _)
  · obtain ⟨a, xs, rfl, h, k⟩ := r
    exact .base (.lst h)
  · obtain ⟨a, xs, rfl, h0, h, k⟩ := rb_tup hs r
    rcases h with (h | ⟨o, h⟩) | ⟨o, its, n, h, hc, _⟩
    · exact .base (.tup h)
    · exact .fTuple h
    · exact .kTuple h hc
  · have r' : p.Rp G x .dic0 := r
    cases r' with
    | dic0 h => exact .base (.dK (hs _ _ h))
def wIsi (T : String) (w : W) : W := ⟨fun s P => w.f s fun d s1 => get (gIsi T d) fun z => P z s1, fun s P P' h q => w.mono _ _ _ (fun d s1 q => get_mono (fun z => h z s1) q) q⟩
def KitT (K : PySem.W.Frag) (T : String) : Prop := ∀ d t, tyD d = some t → PySem.W.kitOne K (.type t) (.type T) = some (isT T t)
theorem kit_all (K : PySem.W.Frag) {T : String} (h : ∀ t ∈ ["NoneType", "bool", "int", "str", "list", "tuple", "dict"], PySem.W.kitOne K (.type t) (.type T) = some (isT T t)) : KitT K T := fun d t e => h t (by
  cases d <;> simp only [tyD] at e <;> cases e <;> simp)
theorem pd_isi {T : String} {x : Str} {pf pt : Pos} (ha : PE X e (lift p w)) (hv : bootBuiltins x = some (.type T)) (hk : KitT X.K T) (hmi : X.mg "isinstance" = none) (hmx : X.mg x = none) (hK : p.K = X.K := by rfl) (hgi : Gl X "isinstance" := by rfl) (hg : Gl X x := by rfl)
    (hn : x ≠ "__name__" := by decide) (hdb : (x == ("__debug__" : Str)) = false := by decide) (hs : starEach (e :: [.Name x pt]) X.env = (false, eval e X.env) :: starEach [.Name x pt] X.env := by rfl) (hs2 : starEach [.Name x pt] X.env = (false, eval (.Name x pt) X.env) :: starEach [] X.env := by rfl)
    (hpl : (backTo pos (starEach [.Name x pt] X.env)).any (·.1) = false := by rfl) : PE X (.Call (.Name "isinstance" pf) [e, .Name x pt] [] pos) (lift p (wIsi T w)) := by
  have hx : PE X (.Name x pt) (tC (.ty T)) := pe_bltn hg hmx hv rfl hn hdb
  refine PE.imp (pe_callB call_isi hgi hmi (by decide +kernel) (pa_cons ha (pa_cons hx pa_nil hs2) hs) (by decide) (by decide) hs hpl) fun σ H Q ⟨G, s, R, k⟩ => ⟨G, s, R, w.mono _ _ _ (fun d s1 k1 v H1 G1 e1 R1 r1 => ?_) k⟩
  obtain ⟨z, ez, kz⟩ := get_of k1
  obtain ⟨t, et, rfl⟩ := Option.map_eq_some_iff.mp ez
  exact ⟨v, .ty T, .type t, .type T, isT T t, rfl, .ty T, hK ▸ tyx_of R1.sub (.of R1.sub r1) et, hk d t et, kz _ H1 G1 e1 R1 (.bl _)⟩

/-! ### methods of texts -/
def strD : D → Option Str
  | .str z => some z
  | _ => none
theorem strD_of {d : D} {z : Str} (h : strD d = some z) : d = .str z := by
  cases d <;> cases h
  rfl
def wMt (c : Str → D → Prop) (g : Str → D → Option D) (wa wb : W) : W := ⟨fun s P => wa.f s fun d1 s1 => get (strD d1) fun z => wb.f s1 fun d2 s2 => c z d2 ∧ get (g z d2) fun d => P d s2,
  fun s P P' h q => wa.mono _ _ _ (fun d1 s1 q => get_mono (fun z q => wb.mono _ _ _ (fun d2 s2 q => ⟨q.1, get_mono (fun d => h d s2) q.2⟩) q) q) q⟩
/-- o.m(x), o a text -/
structure MtD (X : Cx) (p : Pl) (name : Str) (c : Str → D → Prop) (g : Str → D → Option D) : Prop where
  ex : ∃ (id : String) (r : V → List V → Hp → VK → Prop), Slot "str" name id ∧ typeOf (.builtin id) = pure (.type "method_descriptor") ∧ MtR X id r ∧
    ∀ (G H : Hp) (z : Str) (y : V) (d2 d : D) (Q : VK), Sub G H → RpB p H G y d2 → c z d2 → g z d2 = some d → (∀ v, p.Rp G v d → Q v H) → (∀ a o, H a = none → p.Rp (upd G a o) (.ref a) d → Q (.ref a) (upd H a o)) → r (.str z) [y] H Q
theorem pd_mt {name : Str} {apos : Pos} {c : Str → D → Prop} {g : Str → D → Option D} (M : MtD X p name c g) (ha : PE X a (lift p wa)) (hb : PE X b (lift p wb)) (hs : starEach [b] X.env = [(false, eval b X.env)] := by rfl)
    (hbase : attributeBase a name X.env (eval a X.env) = eval a X.env := by rfl) (hline : (apos.endLine == pos.line) = true := by rfl) : PE X (.Call (.Attribute a name apos) [b] [] pos) (lift p (wMt c g wa wb)) := by
  obtain ⟨id, r, h1, h2, h3, h4⟩ := M.ex
  refine PE.imp (pe_m1 h1 h2 h3 ha hb hs hbase hline) fun σ H Q ⟨G, s, R, k⟩ => ⟨G, s, R, wa.mono _ _ _ (fun d1 s1 k1 x H1 G1 e1 R1 r1 => ?_) k⟩
  obtain ⟨z, ez, k2⟩ := get_of k1
  cases strD_of ez
  cases r1
  refine ⟨⟨z, rfl⟩, G1, s1, R1, wb.mono _ _ _ (fun d2 s2 k3 y H2 G2 e2 R2 r2 => ?_) k2⟩
  obtain ⟨kc, kg⟩ := k3
  obtain ⟨d, ed, kd⟩ := get_of kg
  exact h4 G2 H2 z y d2 d Q R2.sub (.of R2.sub r2) kc ed (fun v rv => kd v H2 G2 (e1.trans e2) R2 rv) fun q o hq rq => kd _ _ _ ((e1.trans e2).trans (Same.upd (R2.sub.none hq))) (R2.alloc hq) rq
def cZ : Str → D → Prop := fun _ _ => True
def gStarts : Str → D → Option D
  | z, .str y => some (.bl (Txt.startswith z y))
  | _, _ => none
theorem mt_st : MtD X p "startswith" cZ gStarts := ⟨_, _, F.slot_str_startswith, F.type_str_startswith, mt_startswith, fun G H z y d2 d Q hs r hc hg k1 k2 => by
  cases d2 <;> cases hg
  cases rb_str r
  exact ⟨_, _, rfl, rfl, k1 _ (.bl _)⟩⟩
def gCount : Str → D → Option D
  | z, .str y => some (.int (Txt.count z y))
  | _, _ => none
theorem mt_ct : MtD X p "count" cZ gCount := ⟨_, _, F.slot_str_count, F.type_str_count, mt_count, fun G H z y d2 d Q hs r hc hg k1 k2 => by
  cases d2 <;> cases hg
  cases rb_str r
  exact ⟨_, _, rfl, rfl, k1 _ (.int _)⟩⟩
def cPart : Str → D → Prop
  | z, .str y => (y.length == 0) = false ∧ z.length ≤ sizeLine
  | _, _ => True
def gPart : Str → D → Option D
  | z, .str y => some (.tup [.str (Txt.partition z y).1, .str (Txt.partition z y).2.1, .str (Txt.partition z y).2.2])
  | _, _ => none
theorem mt_pt : MtD X p "partition" cPart gPart := ⟨_, _, F.slot_str_partition, F.type_str_partition, mt_partition, fun G H z y d2 d Q hs r hc hg k1 k2 => by
  cases d2 <;> cases hg
  cases rb_str r
  exact ⟨_, _, rfl, rfl, hc.1, hc.2, fun q hq => k2 q _ hq (.tup (.inl (.inl upd_same)) (.cons (.str _) (.cons (.str _) (.cons (.str _) .nil))))⟩⟩
def cSplit : Str → D → Prop
  | z, .str y => (y.length == 0) = false ∧ z.length + 2 ≤ sizeLine
  | _, _ => True
def gSplit : Str → D → Option D
  | z, .str y => some (.lst ((Txt.split z y).map D.str))
  | _, _ => none
theorem mt_sp : MtD X p "split" cSplit gSplit := ⟨_, _, F.slot_str_split, F.type_str_split, mt_split, fun G H z y d2 d Q hs r hc hg k1 k2 => by
  cases d2 <;> cases hg
  cases rb_str r
  exact ⟨_, _, rfl, rfl, hc.1, hc.2, fun q hq => k2 q _ hq (.lst upd_same (RpA.strs _))⟩⟩
/-- sep.join(list or tuple of texts) -/
def strsOf : List D → Option (List Str)
  | [] => some []
  | .str b :: ds => (strsOf ds).map (b :: ·)
  | _ :: _ => none
theorem strs_of {G : Hp} : ∀ {ds : List D} {bs : List Str} {xs : List V}, strsOf ds = some bs → p.RpA G xs ds → xs = bs.map V.str
  | [], bs, xs, e, h => by
    cases e
    cases h
    rfl
  | .str b :: ds, bs, xs, e, h => by
    simp only [strsOf, Option.map_eq_some_iff] at e
    obtain ⟨cs, e1, rfl⟩ := e
    cases h with
    | cons r t =>
      cases r
      rw [strs_of e1 t]
      rfl
  | .non :: _, _, _, e, _ => by cases e
  | .int _ :: _, _, _, e, _ => by cases e
  | .bl _ :: _, _, _, e, _ => by cases e
  | .lst _ :: _, _, _, e, _ => by cases e
  | .tup _ :: _, _, _, e, _ => by cases e
  | .drw :: _, _, _, e, _ => by cases e
  | .dic0 :: _, _, _, e, _ => by cases e
def rowD : D → Option (List D)
  | .lst ds => some ds
  | .tup ds => some ds
  | _ => none
def cJoin : Str → D → Prop := fun z d => ∀ ys, (rowD d).bind strsOf = some ys → (ys.map (·.length)).sum + ys.length * z.length ≤ 16777216
def gJoin : Str → D → Option D := fun z d => ((rowD d).bind strsOf).map fun ys => .str (Txt.join z ys)
theorem mt_jn (hK : p.K = X.K := by rfl) : MtD X p "join" cJoin gJoin := ⟨_, _, F.slot_str_join, F.type_str_join, mt_join, fun G H z y d2 d Q hs r hc hg k1 k2 => by
  obtain ⟨ys, e, rfl⟩ := Option.map_eq_some_iff.mp hg
  have hz := hc ys e
  cases d2 with
  | lst ds =>
    obtain ⟨a, xs, rfl, h, k⟩ := r
    exact ⟨z, a, ys, rfl, rfl, .inl (SqL.of (by rw [← strs_of e k]; exact h)), hz, k1 _ (.str _)⟩
  | tup ds =>
    obtain ⟨a, xs, rfl, h0, h, k⟩ := rb_tup hs r
    exact ⟨z, a, ys, rfl, rfl, .inr (by rw [← strs_of e k]; exact hK ▸ h), hz, k1 _ (.str _)⟩
  | _ => cases e⟩

/-! ### calls of own functions -/
structure FT where
  f : List D → Nat → (D → Nat → Prop) → Prop
  mono : ∀ ds n P P', (∀ d m, P d m → P' d m) → f ds n P → f ds n P'
/-- the promise by data -/
def SpD (K : PySem.W.Frag) (dr : Option Addr) (ms : List Bool) (F : FT) : Sp := fun vs H Q _ => ∃ (G : Hp) (ds : List D) (n : Nat), Sub G H ∧ Drw G H dr n ∧ RpM ⟨K, dr, H, G⟩ H G ms vs ds ∧
  F.f ds n fun d m => ∀ v H' G', Same G G' → Bse dr H H' → Sub G' H' → New H G G' → Drw G' H' dr m → Rp K dr G' v d → Q v H'
theorem Rs.call {σ : St} {H G H' G' : Hp} {s : S} {m : Nat} (R : p.Rs σ H G s) (e : Same G G') (b : Bse p.dr H H') (sb : Sub G' H') (nw : New H G G') (d : Drw G' H' p.dr m) : p.Rs σ H' G' { s with n := m } := by
  have there : ∀ {q : Addr} {o : HO}, p.dr ≠ some q → H q = some o → G q = none → G' q = none := fun {q o} hd h g => nw q g (by rw [h]; exact fun z => by cases z)
  refine ⟨sb, fun a o hd h => b a o hd (R.base a o hd h), fun a h1 h2 => ?_, R.len, fun i x hx => ?_, R.inj, d⟩
  · by_cases hd : p.dr = some a
    · exact (d a hd).free
    · cases h0 : p.H0 a with
      | none => exact absurd h0 h2
      | some o => exact there hd (R.base a o hd h0) (R.new a h1 h2)
  · have q := R.slot i x hx
    cases x with
    | emp => trivial
    | val y =>
      obtain ⟨u, e1, r⟩ := q
      exact ⟨u, e1, r.mono e⟩
    | own ds =>
      obtain ⟨q1, xs, e1, h1, h2, h3, h4, r⟩ := q
      exact ⟨q1, xs, e1, b _ _ h3 h1, there h3 h1 h2, h3, h4, r.mono e⟩
    | bor ds =>
      obtain ⟨q1, xs, e1, h1, h2, r⟩ := q
      refine ⟨q1, xs, e1, b _ _ (fun z => ?_) h1, h2, r.mono e⟩
      obtain ⟨_, L, _, _, _, _, h5, _⟩ := R.drw q1 z
      rw [h1] at h5
      cases h5
def wCall (F : FT) (t : WA) : W := ⟨fun s P => t.f s fun ds s1 => F.f ds s1.n fun d m => P d { s1 with n := m }, fun s P P' h q => t.mono _ _ _ (fun ds s1 q => F.mono _ _ _ _ (fun d m q => h _ _ q) q) q⟩
theorem RpM.at_ {p p' : Pl} {H G : Hp} (h1 : p'.K = p.K) (h2 : p'.dr = p.dr) : ∀ {ms : List Bool} {vs : List V} {ds : List D}, RpM p H G ms vs ds → RpM p' H G ms vs ds
  | _, _, _, .nil => .nil
  | _, _, _, .val r t => .val (by unfold Pl.Rp; rw [h1, h2]; exact r) (RpM.at_ h1 h2 t)
  | _, _, _, .bor (d := d) r t => .bor (by
    cases d with
    | lst ds =>
      obtain ⟨a, xs, e, h, k⟩ := r
      exact ⟨a, xs, e, h, by unfold Pl.RpA; rw [h1, h2]; exact k⟩
    | _ => exact (by unfold Pl.Rp; rw [h1, h2]; exact r : p'.Rp G _ _)) (RpM.at_ h1 h2 t)
theorem call_lift {F : FT} (σ : St) (H : Hp) (Q : VK) (h : lift p (wCall F t) σ H Q) : tCall (SpD p.K p.dr ms F) [] E0 (liftM p ms t) σ H Q := by
  obtain ⟨G, s, R, k⟩ := h
  refine ⟨G, s, R, t.mono _ _ _ (fun ds s1 k1 vs H1 G1 e1 R1 r1 => ?_) k⟩
  show SpD p.K p.dr ms F (vs ++ []) H1 Q E0
  rw [List.append_nil]
  exact ⟨G1, ds, s1.n, R1.sub, R1.drw, RpM.at_ (p := p) (p' := ⟨p.K, p.dr, H1, G1⟩) rfl rfl r1, F.mono _ _ _ _ (fun d m q v H' G' e b sb nw dw rv => q v H' G' (e1.trans e) (Rs.call R1 e b sb nw dw) rv) k1⟩
theorem pd_call {F : FT} {k : Nat} {f : Addr} {fd : FuncData} {ps : List Str} {x : Str} {pf : Pos} {K : PySem.W.Frag} {dr : Option Addr} (ok : FnOk X.prog X.w X.K X.mg X.base CX0 k f fd ps (SpD K dr ms F)) (hr : Room k X.A) (hm : X.mg x = some (.ref f)) (hk : PySem.W.keepIn X.K (.ref f) = true) (hb : Binds X.K fd ps [])
    (ha : PA X (e :: es) (liftM p ms t)) (hK : p.K = K := by rfl) (hd : p.dr = dr := by rfl) (hg : Gl X x := by rfl) (hdb : (x == ("__debug__" : Str)) = false := by decide) (he : starEach (e :: es) X.env = (false, eval e X.env) :: starEach es X.env := by rfl) (hpl : (backTo pos (starEach es X.env)).any (·.1) = false := by rfl) :
    PE X (.Call (.Name x pf) (e :: es) [] pos) (lift p (wCall F t)) := by
  subst hK hd
  exact PE.imp (pe_call ok hr hg hm hk hb .nil pass0 ha hdb he hpl) call_lift
end
end DI
/-! Statements, loops, comprehensions, a def by its body. -/
namespace DI
open PySem L2

structure ED where
  nx : S → Prop
  rt : D → S → Prop
  bk : S → Prop := fun _ => False
  ct : S → Prop := fun _ => False
structure ED.Le (E E' : ED) : Prop where
  nx : ∀ s, E.nx s → E'.nx s
  rt : ∀ d s, E.rt d s → E'.rt d s
  bk : ∀ s, E.bk s → E'.bk s
  ct : ∀ s, E.ct s → E'.ct s
structure WS where
  f : ED → S → Prop
  mono : ∀ E E' s, ED.Le E E' → f E s → f E' s
structure Cmp (p : Pl) (G : Hp) (E : ED) (D : Ends) : Prop where
  nx : ∀ σ' H' G' s', Same G G' → p.Rs σ' H' G' s' → E.nx s' → D.nx σ' H'
  rt : ∀ v σ' H' G' d s', Same G G' → p.Rs σ' H' G' s' → p.Rp G' v d → E.rt d s' → D.rt v H'
  bk : ∀ σ' H' G' s', Same G G' → p.Rs σ' H' G' s' → E.bk s' → D.bk σ' H'
  ct : ∀ σ' H' G' s', Same G G' → p.Rs σ' H' G' s' → E.ct s' → D.ct σ' H'
theorem Cmp.mono {p : Pl} {G G1 : Hp} {E : ED} {D : Ends} (e : Same G G1) (c : Cmp p G E D) : Cmp p G1 E D :=
  ⟨fun σ' H' G' s' a => c.nx σ' H' G' s' (e.trans a), fun v σ' H' G' d s' a => c.rt v σ' H' G' d s' (e.trans a), fun σ' H' G' s' a => c.bk σ' H' G' s' (e.trans a), fun σ' H' G' s' a => c.ct σ' H' G' s' (e.trans a)⟩
def liftS (p : Pl) (w : WS) : TS := fun D σ H => ∃ G s E, p.Rs σ H G s ∧ w.f E s ∧ Cmp p G E D

section
variable {X : Cx} {p : Pl} {e a b c : Expr} {es : List Expr} {pos : Pos} {w wa wb : W} {t : WT} {u v : WS} {st : Stmt} {rest sa sb : List Stmt}
/-! ### blocks -/
def wNext : WS := ⟨fun E s => E.nx s, fun _ _ s h => h.nx s⟩
def wSeq (u v : WS) : WS := ⟨fun E s => u.f { E with nx := v.f E } s, fun E E' s h => u.mono _ _ s ⟨fun s' => v.mono _ _ s' h, h.rt, h.bk, h.ct⟩⟩
theorem sd_nil : PSs X [] (liftS p wNext) := PSs.imp pss_nil fun D σ H ⟨G, s, E, R, k, q⟩ => q.nx σ H G s (Same.refl G) R k
theorem sd_cons (h1 : PS X st (liftS p u)) (h2 : PSs X rest (liftS p v)) : PSs X (st :: rest) (liftS p (wSeq u v)) :=
  PSs.imp (pss_cons h1 h2) fun D σ H ⟨G, s, E, R, k, q⟩ => ⟨G, s, _, R, k, fun σ' H' G' s' a R' k' => ⟨G', s', E, R', k', q.mono a⟩, q.rt, q.bk, q.ct⟩
theorem sd_one (h1 : PS X st (liftS p u)) : PSs X [st] (liftS p u) := pss_one h1
def wBreak : WS := ⟨fun E s => E.bk s, fun _ _ s h => h.bk s⟩
def wCont : WS := ⟨fun E s => E.ct s, fun _ _ s h => h.ct s⟩
theorem sd_pass : PS X (.Pass pos) (liftS p wNext) := PS.imp ps_pass fun D σ H ⟨G, s, E, R, k, q⟩ => q.nx σ H G s (Same.refl G) R k
theorem sd_break : PS X (.Break pos) (liftS p wBreak) := PS.imp ps_break fun D σ H ⟨G, s, E, R, k, q⟩ => q.bk σ H G s (Same.refl G) R k
theorem sd_continue : PS X (.Continue pos) (liftS p wCont) := PS.imp ps_continue fun D σ H ⟨G, s, E, R, k, q⟩ => q.ct σ H G s (Same.refl G) R k
def wDrop (w : W) : WS := ⟨fun E s => w.f s fun _ s1 => E.nx s1, fun E E' s h q => w.mono _ _ _ (fun _ s1 => h.nx s1) q⟩
theorem sd_expr (h : PE X e (lift p w)) (hs : swapsWith e none pos.line X.env = pure false := by rfl) : PS X (.Expr e pos) (liftS p (wDrop w)) :=
  PS.imp (ps_expr h hs) fun D σ H ⟨G, s, E, R, k, q⟩ => ⟨G, s, R, w.mono _ _ _ (fun d s1 k1 x H1 G1 e1 R1 r1 => q.nx σ H1 G1 s1 e1 R1 k1) k⟩
def wRet (w : W) : WS := ⟨fun E s => w.f s fun d s1 => E.rt d s1, fun E E' s h q => w.mono _ _ _ (fun d s1 => h.rt d s1) q⟩
theorem sd_ret (h : PE X e (lift p w)) : PS X (.Return (some e) pos) (liftS p (wRet w)) :=
  PS.imp (ps_ret h) fun D σ H ⟨G, s, E, R, k, q⟩ => ⟨G, s, R, w.mono _ _ _ (fun d s1 k1 x H1 G1 e1 R1 r1 => q.rt x σ H1 G1 d s1 e1 R1 r1 k1) k⟩
def wRetN : WS := ⟨fun E s => E.rt .non s, fun E E' s h => h.rt _ s⟩
theorem sd_retN : PS X (.Return none pos) (liftS p wRetN) := PS.imp ps_retN fun D σ H ⟨G, s, E, R, k, q⟩ => q.rt _ σ H G _ s (Same.refl G) R .non k
def wIfS (t : WT) (u v : WS) : WS := ⟨fun E s => t.f s fun b s1 => if b = true then u.f E s1 else v.f E s1, fun E E' s h q => t.mono _ _ _ (fun b s1 q => by
  cases b with
  | true => exact u.mono _ _ _ h q
  | false => exact v.mono _ _ _ h q) q⟩
theorem sd_if (hc : PT X c (liftT p t)) (ha : PSs X sa (liftS p u)) (hb : PSs X sb (liftS p v)) : PS X (.If c sa sb pos) (liftS p (wIfS t u v)) :=
  PS.imp (ps_if hc ha hb) fun D σ H ⟨G, s, E, R, k, q⟩ => ⟨G, s, R, t.mono _ _ _ (fun b s1 k1 H1 G1 e1 R1 => by
    cases b with
    | true => exact ⟨G1, s1, E, R1, k1, q.mono e1⟩
    | false => exact ⟨G1, s1, E, R1, k1, q.mono e1⟩) k⟩
def wNever : WS := ⟨fun _ _ => False, fun _ _ _ _ h => h⟩
theorem sd_never : PS X st (liftS p wNever) := PS.imp ps_never fun D σ H ⟨G, s, E, R, k, q⟩ => k.elim

/-! ### stores -/
def wSet (i : Nat) (w : W) : WS := ⟨fun E s => w.f s fun d s1 => i < s1.env.length ∧ E.nx { s1 with env := s1.env.set i (.val d) }, fun E E' s h q => w.mono _ _ _ (fun d s1 q => ⟨q.1, h.nx _ q.2⟩) q⟩
theorem sd_set (i : Nat) {x : Str} {pos' : Pos} (hN : X.N.Nodup) (he : PE X e (lift p w)) (hi : X.N[i]? = some x := by rfl) (hx : Loc X.env.scope x := by first | exact .inl rfl | exact .inr rfl) (hs : swapsWith e (some (.Name x pos')) pos.line X.env = pure false := by rfl)
    (hf : X.fn x = true ∨ X.env.scope.names.lookup x = some .local := by first | exact .inl rfl | exact .inr rfl) : PS X (.Assign [.Name x pos'] e pos) (liftS p (wSet i w)) :=
  PS.imp (ps_set hN hi hx he hs hf) fun D σ H ⟨G, s, E, R, k, q⟩ => ⟨G, s, R, w.mono _ _ _ (fun d s1 k1 v H1 G1 e1 R1 r1 => q.nx _ H1 G1 _ e1 (R1.set (by rw [← R1.len]; exact k1.1) r1) k1.2) k⟩
/-- a new list, not kept by anyone yet -/
def liftL (p : Pl) (w : WA) : TE := fun σ H Q => ∃ G s, p.Rs σ H G s ∧ w.f s fun ds s' => ∀ q xs H' G', Same G G' → p.Rs σ H' G' s' → p.RpA G' xs ds → H' q = none → Q (.ref q) (upd H' q (.lst xs))
def wOfL (w : WA) : W := ⟨fun s P => w.f s fun ds s1 => P (.lst ds) s1, fun s P P' h q => w.mono _ _ _ (fun ds s1 q => h _ _ q) q⟩
variable {tl : WA}
theorem pd_ofL (h : PE X e (liftL p tl)) : PE X e (lift p (wOfL tl)) :=
  PE.imp h fun σ H Q ⟨G, s, R, k⟩ => ⟨G, s, R, tl.mono _ _ _ (fun ds s1 k1 q xs H1 G1 e1 R1 r1 hq => k1 _ _ _ (e1.trans (Same.upd (R1.sub.none hq))) (R1.alloc hq) (.lst upd_same (r1.mono (Same.upd (R1.sub.none hq))))) k⟩
def wsz (t : WA) : WA := ⟨fun s P => t.f s fun ds s1 => ds.length ≤ sizeLine ∧ P ds s1, fun s P P' h q => t.mono _ _ _ (fun ds s1 q => ⟨q.1, h _ _ q.2⟩) q⟩
theorem ld_lst {ms : List Bool} {ta : WA} (h : PA X es (liftM p ms ta)) (hm : ∀ m ∈ ms, m = false := by decide) : PE X (.List es pos) (liftL p (wsz ta)) :=
  PE.imp (pe_lst h) fun σ H Q ⟨G, s, R, k⟩ => ⟨G, s, R, ta.mono _ _ _ (fun ds s1 k1 vs H1 G1 e1 R1 r1 => by
    have ra := r1.all hm
    exact ⟨by rw [ra.length]; exact k1.1, fun q hq => k1.2 q vs H1 G1 e1 R1 ra hq⟩) k⟩
def wOwn (i : Nat) (t : WA) : WS := ⟨fun E s => t.f s fun ds s1 => i < s1.env.length ∧ E.nx { s1 with env := s1.env.set i (.own ds) }, fun E E' s h q => t.mono _ _ _ (fun d s1 q => ⟨q.1, h.nx _ q.2⟩) q⟩
theorem sd_own (i : Nat) {x : Str} {pos' : Pos} (hN : X.N.Nodup) (he : PE X e (liftL p tl)) (hi : X.N[i]? = some x := by rfl) (hx : Loc X.env.scope x := by first | exact .inl rfl | exact .inr rfl) (hs : swapsWith e (some (.Name x pos')) pos.line X.env = pure false := by rfl)
    (hf : X.fn x = true ∨ X.env.scope.names.lookup x = some .local := by first | exact .inl rfl | exact .inr rfl) : PS X (.Assign [.Name x pos'] e pos) (liftS p (wOwn i tl)) :=
  PS.imp (ps_set hN hi hx he hs hf) fun D σ H ⟨G, s, E, R, k, q⟩ => ⟨G, s, R, tl.mono _ _ _ (fun ds s1 k1 y xs H1 G1 e1 R1 r1 hq => q.nx _ _ G1 _ e1 (R1.setOwn (by rw [← R1.len]; exact k1.1) hq r1) k1.2) k⟩
/-- a, b = x, y: plain values -/
def wPar (i j : Nat) (t : WA) : WS := ⟨fun E s => t.f s fun ds s1 => ∃ d1 d2, ds = [d1, d2] ∧ i < s1.env.length ∧ j < s1.env.length ∧ E.nx { s1 with env := (s1.env.set i (.val d1)).set j (.val d2) },
  fun E E' s h q => t.mono _ _ _ (fun ds s1 ⟨d1, d2, e, h1, h2, q⟩ => ⟨d1, d2, e, h1, h2, h.nx _ q⟩) q⟩
theorem sd_par (i j : Nat) {ms : List Bool} {ta : WA} {x y : Str} {px py pt : Pos} {kt k2 pt2} (hN : X.N.Nodup) (ha : PA X [a, b] (liftM p ms ta)) (hm : ∀ m ∈ ms, m = false := by decide) (hc : X.calm = true := by rfl) (hi : X.N[i]? = some x := by rfl) (hj : X.N[j]? = some y := by rfl) (hij : i ≠ j := by decide)
    (hx : X.env.scope.names.lookup x = some .local := by rfl) (hy : X.env.scope.names.lookup y = some .local := by rfl)
    (hw : swappedStores [.Tuple [.Name x px, .Name y py] kt pt] (.Tuple [a, b] k2 pt2) X.env = pure (some [x, y]) := by rfl)
    (hs : swapsWithSole [.Tuple [.Name x px, .Name y py] kt pt] (.Tuple [a, b] k2 pt2) pos.line X.env = pure false := by rfl) : PS X (.Assign [.Tuple [.Name x px, .Name y py] kt pt] (.Tuple [a, b] k2 pt2) pos) (liftS p (wPar i j ta)) :=
  PS.imp (ps_par hc hN hi hj hij hx hy ha hw hs) fun D σ H ⟨G, s, E, R, k, q⟩ => ⟨G, s, R, ta.mono _ _ _ (fun ds s1 ⟨d1, d2, ed, h1, h2, k1⟩ vs H1 G1 e1 R1 r1 => by
    subst ed
    have ra := r1.all hm
    cases ra with
    | cons ra1 t1 =>
      cases t1 with
      | cons ra2 t2 =>
        cases t2
        have R2 := R1.set (i := i) (by rw [← R1.len]; exact h1) ra1
        have R3 := R2.set (i := j) (by rw [List.length_set, ← R1.len]; exact h2) ra2
        exact ⟨_, _, rfl, q.nx _ H1 G1 _ e1 R3 k1⟩) k⟩
/-- target = value by a target's rule -/
def liftG (p : Pl) (g : D → List Sl → Option (List Sl)) : TG := fun v σ H Q => ∃ G s d env', p.Rs σ H G s ∧ p.Rp G v d ∧ g d s.env = some env' ∧ ∀ σ' H' G', Same G G' → p.Rs σ' H' G' { s with env := env' } → Q σ' H'
def gNm (i : Nat) : D → List Sl → Option (List Sl) := fun d env => if i < env.length then some (env.set i (.val d)) else none
theorem PG.imp {tg : Expr} {t t' : TG} (h : PG X tg t) (i : ∀ v σ H Q, t' v σ H Q → t v σ H Q) : PG X tg t' := ⟨fun pins s σ H v u Q I r k => h.run pins s σ H v u Q I r (i v σ H Q k)⟩
theorem gd_name (i : Nat) {x : Str} (hN : X.N.Nodup) (hi : X.N[i]? = some x := by rfl) (hx : Loc X.env.scope x := by first | exact .inl rfl | exact .inr rfl) (hf : X.fn x = true ∨ X.env.scope.names.lookup x = some .local := by first | exact .inl rfl | exact .inr rfl) : PG X (.Name x pos) (liftG p (gNm i)) :=
  PG.imp (pg_name hN hi hx hf) fun v σ H Q ⟨G, s, d, env', R, r, g, k⟩ => by
    unfold gNm at g
    split at g
    · cases g
      exact k _ H G (Same.refl G) (R.set (by rw [← R.len]; assumption) r)
    · cases g
/-- several targets -/
def liftGs (p : Pl) (g : List D → List Sl → Option (List Sl)) : TGs := fun vs σ H Q => ∃ G s ds env', p.Rs σ H G s ∧ p.RpA G vs ds ∧ g ds s.env = some env' ∧ ∀ σ' H' G', Same G G' → p.Rs σ' H' G' { s with env := env' } → Q σ' H'
def gsNil : List D → List Sl → Option (List Sl)
  | [], env => some env
  | _, _ => none
def gsCons (g : D → List Sl → Option (List Sl)) (gs : List D → List Sl → Option (List Sl)) : List D → List Sl → Option (List Sl)
  | d :: ds, env => (g d env).bind (gs ds)
  | _, _ => none
theorem PGs.imp {tg : List Expr} {t t' : TGs} (h : PGs X tg t) (i : ∀ v σ H Q, t' v σ H Q → t v σ H Q) : PGs X tg t' := ⟨fun pins s σ H v u Q I r k => h.run pins s σ H v u Q I r (i v σ H Q k)⟩
theorem gds_nil : PGs X [] (liftGs p gsNil) := PGs.imp pgs_nil fun vs σ H Q ⟨G, s, ds, env', R, r, g, k⟩ => by
  cases r with
  | nil =>
    cases g
    exact ⟨rfl, k σ H G (Same.refl G) R⟩
  | cons _ _ => cases g
theorem gds_cons {g : D → List Sl → Option (List Sl)} {gs : List D → List Sl → Option (List Sl)} (h1 : PG X e (liftG p g)) (h2 : PGs X es (liftGs p gs)) (hs : (assignEach (e :: es) X.env).map (·.2) = assign e X.env :: (assignEach es X.env).map (·.2) := by rfl) :
    PGs X (e :: es) (liftGs p (gsCons g gs)) := PGs.imp (pgs_cons h1 h2 hs) fun vs σ H Q ⟨G, s, ds, env', R, r, hg, k⟩ => by
  cases r with
  | nil => cases hg
  | cons r t =>
    simp only [gsCons, Option.bind_eq_some_iff] at hg
    obtain ⟨env1, g1, g2⟩ := hg
    exact ⟨_, _, rfl, G, s, _, env1, R, r, g1, fun σ' H' G' e1 R1 => ⟨G', _, _, env', R1, t.mono e1, g2, fun σ2 H2 G2 e2 R2 => k σ2 H2 G2 (e1.trans e2) R2⟩⟩
def gTp (n : Nat) (gs : List D → List Sl → Option (List Sl)) : D → List Sl → Option (List Sl)
  | .tup ds, env => if ds.length = n then gs ds env else none
  | _, _ => none
theorem gd_tup {k : Nat} {n : Nat} {gs : List D → List Sl → Option (List Sl)} (h : PGs X es (liftGs p gs)) (hK : p.K = X.K := by rfl) (hc : X.calm = true := by rfl) (hn : (assignEach es X.env).length = n := by rfl) (hst : (assignEach es X.env).findIdx? (·.1) = none := by rfl) :
    PG X (.Tuple es k pos) (liftG p (gTp n gs)) := PG.imp (pg_tup hc h hn hst) fun v σ H Q ⟨G, s, d, env', R, r, hg, k⟩ => by
  cases d <;> simp only [gTp] at hg <;> try cases hg
  split at hg
  · cases r with
    | tup h1 r1 => exact ⟨_, _, rfl, hK ▸ Same.tup R.sub h1, by rw [r1.length]; assumption, G, s, _, env', R, r1, hg, k⟩
  · cases hg
def wAsgT (g : D → List Sl → Option (List Sl)) (w : W) : WS := ⟨fun E s => w.f s fun d s1 => get (g d s1.env) fun env' => E.nx { s1 with env := env' }, fun E E' s h q => w.mono _ _ _ (fun d s1 q => get_mono (fun env' q => h.nx _ q) q) q⟩
theorem sd_asg {tg : Expr} {g : D → List Sl → Option (List Sl)} (he : PE X e (lift p w)) (hg : PG X tg (liftG p g)) (hs : swapsWithSole [tg] e pos.line X.env = pure false := by rfl) (hw : swappedStores [tg] e X.env = pure none := by rfl)
    (h1 : (assignEach [tg] X.env).map (·.2) = [assign tg X.env] := by rfl) : PS X (.Assign [tg] e pos) (liftS p (wAsgT g w)) :=
  PS.imp (ps_asg he hg hs hw h1) fun D σ H ⟨G, s, E, R, k, q⟩ => ⟨G, s, R, w.mono _ _ _ (fun d s1 k1 v H1 G1 e1 R1 r1 => by
    obtain ⟨env', eg, kn⟩ := get_of k1
    exact ⟨G1, s1, d, env', R1, r1, eg, fun σ' H' G' e2 R2 => q.nx σ' H' G' _ (e1.trans e2) R2 kn⟩) k⟩

/-! ### what is walked -/
structure WI where
  f : S → (List D → S → Prop) → Prop
  mono : ∀ s P P', (∀ d s', P d s' → P' d s') → f s P → f s P'
def Yl (p : Pl) (H G : Hp) (x : V) (H' : Hp) (d : D) : Prop := (H' = H ∧ p.Rp G x d) ∨ ∃ q o, H q = none ∧ H' = upd H q o ∧ x = .ref q ∧ p.Rp (upd G q o) x d
def Src (p : Pl) (J : It) (ds : List D) (G : Hp) : Prop := ∀ i H' G', Same G G' → Sub G' H' → (∀ d, ds[i]? = some d → J.go i H' ∧ ∀ x H'', J.yld i H' x H'' → Yl p H' G' x H'' d) ∧ (ds.length ≤ i → J.stop i H')
def liftI (p : Pl) (w : WI) : TI := fun σ H R => ∃ G s, p.Rs σ H G s ∧ w.f s fun ds s' => ∀ J H' G', Same G G' → p.Rs σ H' G' s' → Src p J ds G' → R J H'
theorem PI.imp {tg : Expr} {t t' : TI} (h : PI X tg e t) (i : ∀ σ H R, t' σ H R → t σ H R) : PI X tg e t' := ⟨fun pins s σ H R I k => h.run pins s σ H R I (i σ H R k)⟩
def lstD : D → Option (List D)
  | .lst ds => some ds
  | _ => none
def tupD : D → Option (List D)
  | .tup ds => some ds
  | _ => none
def wiL (w : W) : WI := ⟨fun s P => w.f s fun d s1 => get (lstD d) fun ds => P ds s1, fun s P P' h q => w.mono _ _ _ (fun d s1 q => get_mono (fun ds q => h _ _ q) q) q⟩
def wiT (w : W) : WI := ⟨fun s P => w.f s fun d s1 => get (tupD d) fun ds => P ds s1, fun s P P' h q => w.mono _ _ _ (fun d s1 q => get_mono (fun ds q => h _ _ q) q) q⟩
def chrs (z : Str) : List D := z.cps.toList.map fun c => .str ⟨#[c]⟩
def wiS (w : W) : WI := ⟨fun s P => w.f s fun d s1 => get (strD d) fun z => P (chrs z) s1, fun s P P' h q => w.mono _ _ _ (fun d s1 q => get_mono (fun z q => h _ _ q) q) q⟩
variable {tg : Expr}
theorem src_list {q : Addr} {xs : List V} {ds : List D} {G : Hp} (h : G q = some (.lst xs)) (k : p.RpA G xs ds) : Src p (Itl X.K q) ds G := fun i H' G' e hs => by
  have h' : H' q = some (.lst xs) := hs _ _ (e _ _ h)
  refine ⟨fun d hd => ?_, fun hi => ⟨xs, SqL.of h', by rw [k.length]; exact hi⟩⟩
  obtain ⟨x, hx, rx⟩ := k.get hd
  refine ⟨⟨xs, x, SqL.of h', hx⟩, fun y H'' ⟨e1, e2⟩ => .inl ⟨e1, ?_⟩⟩
  have e3 := e2 xs (SqL.of h')
  rw [hx] at e3
  cases e3
  exact rx.mono e
theorem src_tup {q : Addr} {xs : List V} {ds : List D} {G : Hp} (hK : p.K = X.K) (h : SqT p.K G q xs) (k : p.RpA G xs ds) : Src p (Itt X.K q) ds G := fun i H' G' e hs => by
  have h' : SqT X.K H' q xs := hK ▸ Same.tup hs (Same.tup e h)
  refine ⟨fun d hd => ?_, fun hi => ⟨xs, h', by rw [k.length]; exact hi⟩⟩
  obtain ⟨x, hx, rx⟩ := k.get hd
  refine ⟨⟨xs, x, h', hx⟩, fun y H'' ⟨e1, e2⟩ => .inl ⟨e1, ?_⟩⟩
  have e3 := e2 xs h'
  rw [hx] at e3
  cases e3
  exact rx.mono e
theorem src_str {z : Str} {G : Hp} : Src p (Its z) (chrs z) G := fun i H' G' e hs => by
  refine ⟨fun d hd => ?_, fun hi => ?_⟩
  · unfold chrs at hd
    rw [List.getElem?_map] at hd
    cases q : z.cps.toList[i]? with
    | none => rw [q] at hd; cases hd
    | some c =>
      rw [q] at hd
      cases hd
      have hlt : i < z.cps.size := by
        have := (List.getElem?_eq_some_iff.mp q).1
        simpa using this
      refine ⟨hlt, fun y H'' ⟨e1, c', hc, e2⟩ => .inl ⟨e1, ?_⟩⟩
      rw [Array.getElem?_toList] at q
      rw [q] at hc
      cases hc
      subst e2
      exact .str _
  · show z.cps.size ≤ i
    unfold chrs at hi
    simpa using hi
theorem id_list (h : PE X e (lift p w)) (hK : p.K = X.K := by rfl) : PI X tg e (liftI p (wiL w)) := PI.imp (pi_list h) fun σ H Rr ⟨G, s, R, k⟩ => ⟨G, s, R, w.mono _ _ _ (fun d s1 k1 x H1 G1 e1 R1 r1 => by
  obtain ⟨ds, ed, k2⟩ := get_of k1
  cases d <;> cases ed
  cases r1 with
  | lst h k => exact ⟨_, rfl, ⟨_, SqL.of (R1.sub _ _ h)⟩, k2 _ H1 G1 e1 R1 (src_list h k)⟩) k⟩
theorem id_tup (h : PE X e (lift p w)) (hK : p.K = X.K := by rfl) : PI X tg e (liftI p (wiT w)) := PI.imp (pi_tup h) fun σ H Rr ⟨G, s, R, k⟩ => ⟨G, s, R, w.mono _ _ _ (fun d s1 k1 x H1 G1 e1 R1 r1 => by
  obtain ⟨ds, ed, k2⟩ := get_of k1
  cases d <;> cases ed
  cases r1 with
  | tup h k => exact ⟨_, rfl, ⟨_, hK ▸ Same.tup R1.sub h⟩, k2 _ H1 G1 e1 R1 (src_tup hK h k)⟩) k⟩
theorem id_str (h : PE X e (lift p w)) : PI X tg e (liftI p (wiS w)) := PI.imp (pi_str h) fun σ H Rr ⟨G, s, R, k⟩ => ⟨G, s, R, w.mono _ _ _ (fun d s1 k1 x H1 G1 e1 R1 r1 => by
  obtain ⟨z, ez, k2⟩ := get_of k1
  cases strD_of ez
  cases r1
  exact ⟨z, rfl, k2 _ H1 G1 e1 R1 src_str⟩) k⟩
/-- range(n), range(lo, hi) -/
def rngD (lo : Int) (n : Nat) : List D := (List.range n).map fun (i : Nat) => D.int (lo + (i : Int))
theorem src_rng {lo : Int} {n : Nat} {G : Hp} : Src p (Itr lo n) (rngD lo n) G := fun i H' G' e hs => by
  unfold rngD
  refine ⟨fun d hd => ?_, fun hi => (show n ≤ i by simpa using hi)⟩
  rw [List.getElem?_map] at hd
  by_cases hi : i < n
  · rw [List.getElem?_range hi] at hd
    cases hd
    refine ⟨hi, fun y H'' ⟨e1, e2⟩ => .inl ⟨e1, ?_⟩⟩
    subst e2
    exact .int _
  · rw [List.getElem?_eq_none (by simpa using hi)] at hd
    cases hd
def wiR1 (t : WA) : WI := ⟨fun s P => t.f s fun ds s1 => ∃ j, ds = [.int j] ∧ -(2 ^ 62) ≤ j ∧ j < 2 ^ 62 ∧ P (rngD 0 j.toNat) s1, fun s P P' h q => t.mono _ _ _ (fun ds s1 ⟨j, e, a, b, q⟩ => ⟨j, e, a, b, h _ _ q⟩) q⟩
def wiR2 (t : WA) : WI := ⟨fun s P => t.f s fun ds s1 => ∃ i j, ds = [.int i, .int j] ∧ (-(2 ^ 62) ≤ i ∧ i < 2 ^ 62 ∧ -(2 ^ 62) ≤ j ∧ j < 2 ^ 62) ∧ P (rngD i (j - i).toNat) s1, fun s P P' h q => t.mono _ _ _ (fun ds s1 ⟨i, j, e, a, q⟩ => ⟨i, j, e, a, h _ _ q⟩) q⟩
theorem id_range1 {ta : WA} {pf : Pos} (ha : PA X [e] (liftM p [false] ta)) (hm : X.mg "range" = none) (hg : Gl X "range" := by rfl) (hs : starEach [e] X.env = [(false, eval e X.env)] := by rfl) : PI X tg (.Call (.Name "range" pf) [e] [] pos) (liftI p (wiR1 ta)) :=
  PI.imp (pi_range1 hg hm ha hs) fun σ H Rr ⟨G, s, R, k⟩ => ⟨G, s, R, ta.mono _ _ _ (fun ds s1 ⟨j, ed, h1, h2, k1⟩ vs H1 G1 e1 R1 r1 => by
    subst ed
    cases r1 with
    | val r t =>
      cases t
      cases r
      exact ⟨j, rfl, h1, h2, k1 _ H1 G1 e1 R1 src_rng⟩) k⟩
theorem id_range2 {ta : WA} {pf : Pos} (ha : PA X [a, b] (liftM p [false, false] ta)) (hm : X.mg "range" = none) (hg : Gl X "range" := by rfl) (hs : starEach [a, b] X.env = [(false, eval a X.env), (false, eval b X.env)] := by rfl) (hs2 : starEach [b] X.env = [(false, eval b X.env)] := by rfl) : PI X tg (.Call (.Name "range" pf) [a, b] [] pos) (liftI p (wiR2 ta)) :=
  PI.imp (pi_range2 hg hm ha hs hs2) fun σ H Rr ⟨G, s, R, k⟩ => ⟨G, s, R, ta.mono _ _ _ (fun ds s1 ⟨i, j, ed, h1, k1⟩ vs H1 G1 e1 R1 r1 => by
    subst ed
    cases r1 with
    | val r t =>
      cases t with
      | val r2 t =>
        cases t
        cases r
        cases r2
        exact ⟨i, j, rfl, h1, k1 _ H1 G1 e1 R1 src_rng⟩) k⟩

/-! ### for -/
def forW (g : D → List Sl → Option (List Sl)) (tb : WS) (E : ED) : List D → S → Prop
  | [], s => E.nx s
  | d :: ds, s => get (g d s.env) fun env' => tb.f { nx := forW g tb E ds, rt := E.rt, bk := E.nx, ct := forW g tb E ds } { s with env := env' }
theorem forW_mono {g : D → List Sl → Option (List Sl)} {tb : WS} {E E' : ED} (h : ED.Le E E') : ∀ ds s, forW g tb E ds s → forW g tb E' ds s
  | [], s, q => h.nx s q
  | d :: ds, s, q => get_mono (fun env' q => tb.mono { nx := forW g tb E ds, rt := E.rt, bk := E.nx, ct := forW g tb E ds } { nx := forW g tb E' ds, rt := E'.rt, bk := E'.nx, ct := forW g tb E' ds } _ (ED.Le.mk (forW_mono h ds) h.rt h.nx (forW_mono h ds)) q) q
def wForS (wi : WI) (g : D → List Sl → Option (List Sl)) (tb : WS) : WS := ⟨fun E s => wi.f s fun ds s1 => forW g tb E ds s1, fun E E' s h q => wi.mono _ _ _ (fun ds s1 q => forW_mono h ds s1 q) q⟩
theorem sd_for {wi : WI} {g : D → List Sl → Option (List Sl)} {tb : WS} {body : List Stmt} (hi : PI X tg e (liftI p wi)) (hg : PG X tg (liftG p g)) (hb : PSs X body (liftS p tb)) (hp : PassesOwn (model X.prog X.w) X.A X.env X.xe := by exact PassesOwn.never) (hc : X.calm = true := by rfl) (hs : ∀ x, foldedSetIterable e X.env x = pure x := by intro _; rfl) :
    PS X (.For tg e body [] pos) (liftS p (wForS wi g tb)) := PS.imp (ps_for hp hc hi hg hb hs) fun D σ H ⟨G, s, E, R, k, q⟩ => ⟨G, s, R, wi.mono _ _ _ (fun ds s1 k1 J H1 G1 e1 R1 src => by
    refine ⟨fun i m σ' H' => m = ds.length - i ∧ i ≤ ds.length ∧ ∃ G' s', Same G1 G' ∧ p.Rs σ' H' G' s' ∧ forW g tb E (ds.drop i) s', ⟨ds.length, by simp, Nat.zero_le _, G1, s1, Same.refl G1, R1, by simpa using k1⟩, ?_⟩
    rintro i m σ' H' ⟨rfl, hi, G', s', e2, R2, k2⟩
    obtain ⟨s1', s2'⟩ := src i H' G' e2 R2.sub
    by_cases hlt : i < ds.length
    · right
      have hd : ds[i]? = some ds[i] := List.getElem?_eq_getElem hlt
      obtain ⟨go, yl⟩ := s1' _ hd
      rw [List.drop_eq_getElem_cons hlt] at k2
      obtain ⟨env', eg, k3⟩ := get_of k2
      refine ⟨go, fun σ2 H2 => ∃ G2 s2, Same G1 G2 ∧ p.Rs σ2 H2 G2 s2 ∧ forW g tb E (ds.drop (i + 1)) s2, fun σ2 H2 ⟨G2, s2, z1, z2, z3⟩ => ⟨ds.length - (i + 1), by omega, rfl, hlt, G2, s2, z1, z2, z3⟩, fun x H'' y => ?_⟩
      have cm : ∀ {G3 : Hp}, Same G1 G3 → Cmp p G3 { nx := forW g tb E (ds.drop (i + 1)), rt := E.rt, bk := E.nx, ct := forW g tb E (ds.drop (i + 1)) } { D with nx := fun σ2 H2 => ∃ G2 s2, Same G1 G2 ∧ p.Rs σ2 H2 G2 s2 ∧ forW g tb E (ds.drop (i + 1)) s2, ct := fun σ2 H2 => ∃ G2 s2, Same G1 G2 ∧ p.Rs σ2 H2 G2 s2 ∧ forW g tb E (ds.drop (i + 1)) s2, bk := D.nx } := fun {G3} e3 =>
        ⟨fun σ4 H4 G4 s4 a R4 k4 => ⟨G4, s4, e3.trans a, R4, k4⟩, fun v σ4 H4 G4 d4 s4 a R4 r4 k4 => q.rt v σ4 H4 G4 d4 s4 (e1.trans (e3.trans a)) R4 r4 k4, fun σ4 H4 G4 s4 a R4 k4 => q.nx σ4 H4 G4 s4 (e1.trans (e3.trans a)) R4 k4, fun σ4 H4 G4 s4 a R4 k4 => ⟨G4, s4, e3.trans a, R4, k4⟩⟩
      rcases yl x H'' y with ⟨rfl, rx⟩ | ⟨q1, o, hq, rfl, rfl, rx⟩
      · exact ⟨G', s', _, env', R2, rx, eg, fun σ3 H3 G3 e3 R3 => ⟨G3, _, _, R3, k3, cm (e2.trans e3)⟩⟩
      · have e4 : Same G' (upd G' q1 o) := Same.upd (R2.sub.none hq)
        exact ⟨_, s', _, env', R2.alloc hq, rx, eg, fun σ3 H3 G3 e3 R3 => ⟨G3, _, _, R3, k3, cm ((e2.trans e4).trans e3)⟩⟩
    · left
      have e0 : i = ds.length := by omega
      subst e0
      rw [List.drop_length] at k2
      exact ⟨s2' (Nat.le_refl _), q.nx σ' H' G' s' (e1.trans e2) R2 k2⟩) k⟩
end
end DI
/-! Comprehensions; a def by its body; a slot's own list. -/
namespace DI
open PySem L2
section
variable {p : Pl} {σ : St} {H G H' G' : Hp} {s : S}
/-- the slots' lists stand elsewhere -/
def Away (σ : St) (env : List Sl) (D : Addr) : Prop := ∀ (i : Nat) (ds : List DI.D) (q : Addr), (env[i]? = some (.own ds) ∨ env[i]? = some (.bor ds)) → σ[i]? = some (some (.ref q)) → q ≠ D
theorem Rs.away (R : p.Rs σ H G s) {D : Addr} (h : H D = none) : Away σ s.env D := fun i ds q e hq z => by
  subst z
  rcases e with e | e
  · obtain ⟨q1, xs, e1, h1, _⟩ := R.slot i _ e
    rw [hq] at e1
    cases e1
    rw [h] at h1
    cases h1
  · obtain ⟨q1, xs, e1, h1, _⟩ := R.slot i _ e
    rw [hq] at e1
    cases e1
    rw [h] at h1
    cases h1
/-- an object that nobody knows is changed -/
theorem Rs.poke (R : p.Rs σ H G s) {D : Addr} (k : ∀ a, a ≠ D → H' a = H a) (aw : Away σ s.env D) (g : G D = none) (d : p.dr ≠ some D) (h0 : p.H0 D = none) : p.Rs σ H' G s := by
  refine ⟨fun a o e => ?_, fun a o hd e => ?_, R.new, R.len, fun i x hx => ?_, R.inj, fun a ha => ?_⟩
  · have ne : a ≠ D := fun z => by rw [z, g] at e; cases e
    rw [k a ne]
    exact R.sub a o e
  · have ne : a ≠ D := fun z => by rw [z, h0] at e; cases e
    rw [k a ne]
    exact R.base a o hd e
  · have q := R.slot i x hx
    cases x with
    | emp => trivial
    | val y => exact q
    | own ds =>
      obtain ⟨q1, xs, e1, h1, h2⟩ := q
      exact ⟨q1, xs, e1, by rw [k q1 (aw i ds q1 (.inl hx) e1)]; exact h1, h2⟩
    | bor ds =>
      obtain ⟨q1, xs, e1, h1, h2⟩ := q
      exact ⟨q1, xs, e1, by rw [k q1 (aw i ds q1 (.inr hx) e1)]; exact h1, h2⟩
  · obtain ⟨f, L, ns, x, l, u, e1, e2, kk⟩ := R.drw a ha
    have ne : a ≠ D := fun z => d (by rw [ha, z])
    exact ⟨f, L, ns, x, l, u, by rw [k a ne]; exact e1, e2, kk⟩
def toBor : Sl → Sl
  | .own ds => .bor ds
  | x => x
def wipeE : List Nat → List Sl → List Sl
  | [], env => env
  | v :: vs, env => (wipeE vs env).set v .emp
def innE (vs : List Nat) (env : List Sl) : List Sl := wipeE vs (env.map toBor)
theorem wipeE_length : ∀ (vs : List Nat) (env : List Sl), (wipeE vs env).length = env.length
  | [], _ => rfl
  | v :: vs, env => by rw [wipeE, List.length_set, wipeE_length vs env]
theorem innE_length (vs : List Nat) (env : List Sl) : (innE vs env).length = env.length := by
  unfold innE
  rw [wipeE_length, List.length_map]
theorem wipe_get {i : Nat} : ∀ {vs : List Nat} {env : List Sl} {x : Sl}, (wipeE vs env)[i]? = some x → x = .emp ∨ (env[i]? = some x ∧ (wipe σ vs)[i]? = σ[i]?)
  | [], env, x, h => .inr ⟨h, rfl⟩
  | v :: vs, env, x, h => by
    unfold wipeE at h
    by_cases hv : v = i
    · subst hv
      by_cases hl : v < (wipeE vs env).length
      · rw [List.getElem?_set_self hl] at h
        cases h
        exact .inl rfl
      · rw [List.getElem?_eq_none (by rw [List.length_set]; omega)] at h
        cases h
    · rw [List.getElem?_set_ne hv] at h
      rcases wipe_get h with q | ⟨q1, q2⟩
      · exact .inl q
      · refine .inr ⟨q1, ?_⟩
        show ((wipe σ vs).set v none)[i]? = σ[i]?
        rw [List.getElem?_set_ne hv]
        exact q2
/-- the block's own state -/
theorem Rs.inner (R : p.Rs σ H G s) (vs : List Nat) : (⟨p.K, p.dr, H, G⟩ : Pl).Rs (wipe σ vs) H G ⟨innE vs s.env, s.n⟩ := by
  refine ⟨R.sub, fun a o _ e => e, fun a h1 _ => h1, by rw [wipe_length, innE_length]; exact R.len, fun i x hx => ?_, fun i j q ds es hij e1 e2 e3 => ?_, R.drw⟩
  · rcases wipe_get (σ := σ) hx with rfl | ⟨h1, h2⟩
    · trivial
    · rw [h2]
      rw [List.getElem?_map] at h1
      cases e : s.env[i]? with
      | none => rw [e] at h1; cases h1
      | some y =>
        rw [e] at h1
        cases h1
        have q := R.slot i y e
        cases y with
        | emp => trivial
        | val d => exact q
        | own ds =>
          obtain ⟨q1, xs, e1, h1, h2, h3, h4, r⟩ := q
          exact ⟨q1, xs, e1, h1, (by rw [show (⟨p.K, p.dr, H, G⟩ : Pl).H0 = H from rfl, h1]; exact (fun z => nomatch z)), r⟩
        | bor ds =>
          obtain ⟨q1, xs, e1, h1, h2, r⟩ := q
          exact ⟨q1, xs, e1, h1, (by rw [show (⟨p.K, p.dr, H, G⟩ : Pl).H0 = H from rfl, h1]; exact (fun z => nomatch z)), r⟩
  · have no : ∀ {k : Nat} {fs : List D}, (innE vs s.env)[k]? ≠ some (.own fs) := fun {k fs} z => by
      rcases wipe_get (σ := σ) z with z | ⟨z, _⟩
      · cases z
      · rw [List.getElem?_map] at z
        cases e : s.env[k]? with
        | none => rw [e] at z; cases z
        | some y =>
          rw [e] at z
          cases y <;> cases z
    exact absurd e1 no
end

section
variable {X : Cx} {p : Pl}
/-- a comprehension's target -/
structure LcT (p : Pl) (g : TG) (ge : D → List Sl → Option (List Sl)) (vs : List Nat) : Prop where
  run : ∀ (σ0 : St) (H0 G0 H G : Hp) (v : V) (d : D) (n : Nat) (env env' : List Sl), (⟨p.K, p.dr, H0, G0⟩ : Pl).Rs (wipe σ0 vs) H G ⟨env, n⟩ → p.Rp G v d → ge d env = some env' →
    ∃ σ2, wipe σ2 vs = wipe σ0 vs ∧ (⟨p.K, p.dr, H0, G0⟩ : Pl).Rs σ2 H G ⟨env', n⟩ ∧ ∀ Q : St → Hp → Prop, Q σ2 H → g v (wipe σ0 vs) H Q
theorem wipe_set_in {v : Nat} {x : Option V} : ∀ {vs : List Nat} {σ : St}, v ∈ vs → wipe (σ.set v x) vs = wipe σ vs
  | [], _, h => by cases h
  | u :: vs, σ, h => by
    unfold wipe
    by_cases e : v ∈ vs
    · rw [wipe_set_in e]
    · have e2 : v = u := by
        rcases List.mem_cons.mp h with z | z
        · exact z
        · exact absurd z e
      subst e2
      have comm : ∀ (ws : List Nat) (τ : St), v ∉ ws → wipe (τ.set v x) ws = (wipe τ ws).set v x := fun ws => by
        induction ws with
        | nil => intro τ _; rfl
        | cons w ws ih =>
          intro τ hw
          have h1 : v ≠ w := fun z => hw (by rw [z]; exact List.mem_cons_self)
          have h2 : v ∉ ws := fun z => hw (List.mem_cons_of_mem _ z)
          show (wipe (τ.set v x) ws).set w none = ((wipe τ ws).set w none).set v x
          rw [ih τ h2, List.set_comm _ _ h1]
      rw [comm vs σ e, List.set_set]
theorem wipe_twice : ∀ {vs : List Nat} {σ : St}, wipe (wipe σ vs) vs = wipe σ vs := fun {vs σ} => by
  have key : ∀ (ws : List Nat), (∀ w ∈ ws, w ∈ vs) → wipe (wipe σ ws) vs = wipe σ vs := fun ws => by
    induction ws with
    | nil => intro _; rfl
    | cons w ws ih =>
      intro h
      show wipe ((wipe σ ws).set w none) vs = wipe σ vs
      rw [wipe_set_in (h w List.mem_cons_self)]
      exact ih fun u hu => h u (List.mem_cons_of_mem _ hu)
  exact key vs fun _ h => h
theorem lct_name {j : Nat} {vs : List Nat} (h : j ∈ vs := by decide) : LcT p (gName j) (gNm j) vs := ⟨fun σ0 H0 G0 H G v d n env env' R r e => by
  unfold gNm at e
  split at e
  · cases e
    refine ⟨(wipe σ0 vs).set j (some v), by rw [wipe_set_in h, wipe_twice], ?_, fun Q q => q⟩
    exact Rs.set R (by rw [← R.len]; assumption) r
  · cases e⟩

/-- [elt for target in ds if ..] -/
def lcGo (ge : D → List Sl → Option (List Sl)) (vs : List Nat) (tt : WT) (te : W) (env : List Sl) : List D → List D → Nat → (List D → Nat → Prop) → Prop
  | [], acc, n, P => P acc n
  | d :: ds, acc, n, P => get (ge d (innE vs env)) fun env' => tt.f ⟨env', n⟩ fun b s1 => if b = true then te.f s1 fun y s2 => acc.length < sizeLine ∧ lcGo ge vs tt te env ds (acc ++ [y]) s2.n P else lcGo ge vs tt te env ds acc s1.n P
theorem lcGo_mono {ge : D → List Sl → Option (List Sl)} {vs : List Nat} {tt : WT} {te : W} {env : List Sl} {P P' : List D → Nat → Prop} (h : ∀ a n, P a n → P' a n) : ∀ (ds acc : List D) (n : Nat), lcGo ge vs tt te env ds acc n P → lcGo ge vs tt te env ds acc n P'
  | [], acc, n, q => h _ _ q
  | d :: ds, acc, n, q => get_mono (fun env' q => tt.mono _ _ _ (fun b s1 q => by
    cases b with
    | true => exact te.mono _ _ _ (fun y s2 q => ⟨q.1, lcGo_mono h ds _ _ q.2⟩) q
    | false => exact lcGo_mono h ds _ _ q) q) q
def wLc (wi : WI) (ge : D → List Sl → Option (List Sl)) (vs : List Nat) (tt : WT) (te : W) : WA := ⟨fun s P => wi.f s fun ds s1 => lcGo ge vs tt te s1.env ds [] s1.n fun acc n => P acc { s1 with n := n },
  fun s P P' h q => wi.mono _ _ _ (fun ds s1 q => lcGo_mono (fun a n q => h _ _ q) _ _ _ q) q⟩
def wtYes : WT := ⟨fun s P => P true s, fun _ _ _ h q => h _ _ q⟩
/-- the block's readings, wherever it starts -/
def liftX (p : Pl) (w : W) : TE := fun σ H Q => ∃ H0 G0, lift ⟨p.K, p.dr, H0, G0⟩ w σ H Q
def liftXT (p : Pl) (w : WT) : TT := fun σ H Q => ∃ H0 G0, liftT ⟨p.K, p.dr, H0, G0⟩ w σ H Q
theorem pe_X {Y : Cx} {e : Expr} {w : W} (h : ∀ H0 G0, PE Y e (lift ⟨p.K, p.dr, H0, G0⟩ w)) : PE Y e (liftX p w) := ⟨fun pins s σ H Q I ⟨H0, G0, k⟩ => (h H0 G0).run pins s σ H Q I k⟩
theorem pts_X {Y : Cx} {es : List Expr} {w : WT} (h : ∀ H0 G0, PTs Y es (liftT ⟨p.K, p.dr, H0, G0⟩ w)) : PTs Y es (liftXT p w) := ⟨fun pins s σ H Q I ⟨H0, G0, k⟩ => (h H0 G0).run pins s σ H Q I k⟩
theorem pts_yes {Y : Cx} : PTs Y [] (liftT p wtYes) := ⟨fun pins s σ H Q I ⟨G, st, R, k⟩ => pts_nil.run pins s σ H Q I (k H G (Same.refl G) R)⟩
theorem pts_of {Y : Cx} {c : Expr} {w : WT} (h : PT Y c (liftT p w)) : PTs Y [c] (liftT p w) := pts_one h

theorem lc_lift {wi : WI} {g : TG} {ge : D → List Sl → Option (List Sl)} {vs : List Nat} {tt : WT} {te : W} (T : LcT p g ge vs) (σ : St) (H : Hp) (Q : VK) (h : liftL p (wLc wi ge vs tt te) σ H Q) : tLc (liftI p wi) g (liftXT p tt) (liftX p te) vs σ H Q := by
  obtain ⟨G, s, R, k⟩ := h
  refine ⟨G, s, R, wi.mono _ _ _ (fun ds s1 k1 J H1 G1 e1 R1 src L hL => ?_) k⟩
  have gL : G1 L = none := R1.sub.none hL
  have dL : p.dr ≠ some L := R1.drw.ne hL
  have h0L : p.H0 L = none := by
    cases e : p.H0 L with
    | none => rfl
    | some o =>
      have z := R1.base L o dL e
      rw [hL] at z
      cases z
  have aw := Rs.away R1 hL
  refine ⟨fun i m H' => m = ds.length - i ∧ i ≤ ds.length ∧ ∃ G' n acc accV, Same G1 G' ∧ p.Rs σ H' G' { s1 with n := n } ∧ G' L = none ∧ H' L = some (.lst accV) ∧ p.RpA G' accV acc ∧
    lcGo ge vs tt te s1.env (ds.drop i) acc n (fun acc n => ∀ q xs H' G', Same G G' → p.Rs σ H' G' { s1 with n := n } → p.RpA G' xs acc → H' q = none → Q (.ref q) (upd H' q (.lst xs))),
    ⟨ds.length, by simp, Nat.zero_le _, G1, s1.n, [], [], Same.refl G1, Rs.poke R1 (fun a ha => upd_ne ha) aw gL dL h0L, gL, upd_same, .nil, by simpa using k1⟩, ?_⟩
  rintro i m H' ⟨rfl, hi, G', n, acc, accV, e2, R2, g2, l2, ra, k2⟩
  obtain ⟨s1', s2'⟩ := src i H' G' e2 R2.sub
  by_cases hlt : i < ds.length
  · right
    have hd : ds[i]? = some ds[i] := List.getElem?_eq_getElem hlt
    obtain ⟨go, yl⟩ := s1' _ hd
    rw [List.drop_eq_getElem_cons hlt] at k2
    obtain ⟨env', eg, k3⟩ := get_of k2
    refine ⟨go, fun H' => i + 1 ≤ ds.length ∧ ∃ G' n acc accV, Same G1 G' ∧ p.Rs σ H' G' { s1 with n := n } ∧ G' L = none ∧ H' L = some (.lst accV) ∧ p.RpA G' accV acc ∧
      lcGo ge vs tt te s1.env (ds.drop (i + 1)) acc n (fun acc n => ∀ q xs H' G', Same G G' → p.Rs σ H' G' { s1 with n := n } → p.RpA G' xs acc → H' q = none → Q (.ref q) (upd H' q (.lst xs))), fun H2 ⟨z0, z⟩ => ⟨ds.length - (i + 1), by omega, rfl, z0, z⟩, fun x H'' y => ?_⟩
    -- the turn, from a state of both heaps
    have turn : ∀ (H3 G3 : Hp), Same G' G3 → p.Rs σ H3 G3 { s1 with n := n } → G3 L = none → H3 L = some (.lst accV) → p.Rp G3 x ds[i] → g x (wipe σ vs) H3 fun σ2 H2 => wipe σ2 vs = wipe σ vs ∧ liftXT p tt σ2 H2 fun b H3 =>
        if b = true then liftX p te σ2 H3 fun y H4 => ∃ acc, H4 L = some (.lst acc) ∧ acc.length < sizeLine ∧ (i + 1 ≤ ds.length ∧ ∃ G' n acc' accV, Same G1 G' ∧ p.Rs σ (upd H4 L (.lst (acc ++ [y]))) G' { s1 with n := n } ∧ G' L = none ∧ (upd H4 L (.lst (acc ++ [y]))) L = some (.lst accV) ∧ p.RpA G' accV acc' ∧
          lcGo ge vs tt te s1.env (ds.drop (i + 1)) acc' n (fun acc n => ∀ q xs H' G', Same G G' → p.Rs σ H' G' { s1 with n := n } → p.RpA G' xs acc → H' q = none → Q (.ref q) (upd H' q (.lst xs))))
        else i + 1 ≤ ds.length ∧ ∃ G' n acc accV, Same G1 G' ∧ p.Rs σ H3 G' { s1 with n := n } ∧ G' L = none ∧ H3 L = some (.lst accV) ∧ p.RpA G' accV acc ∧
          lcGo ge vs tt te s1.env (ds.drop (i + 1)) acc n (fun acc n => ∀ q xs H' G', Same G G' → p.Rs σ H' G' { s1 with n := n } → p.RpA G' xs acc → H' q = none → Q (.ref q) (upd H' q (.lst xs))) := fun H3 G3 e3 R3 g3 l3 rx => by
      obtain ⟨σ2, w2, R4, kq⟩ := T.run σ H3 G3 H3 G3 x ds[i] n _ env' (Rs.inner R3 vs) rx eg
      refine kq _ ⟨w2, H3, G3, G3, _, R4, tt.mono _ _ _ (fun b sb kb H5 G5 e5 R5 => ?_) k3⟩
      have l5 : H5 L = some (.lst accV) := R5.base L _ dL l3
      have g5 : G5 L = none := R5.new L g3 (by rw [show (⟨p.K, p.dr, H3, G3⟩ : Pl).H0 = H3 from rfl, l3]; exact fun z => by cases z)
      cases b with
      | true =>
        refine ⟨H3, G3, G5, sb, R5, te.mono _ _ _ (fun y s6 k6 v H6 G6 e6 R6 r6 => ?_) kb⟩
        have l6 : H6 L = some (.lst accV) := R6.base L _ dL l3
        have g6 : G6 L = none := R6.new L g3 (by rw [show (⟨p.K, p.dr, H3, G3⟩ : Pl).H0 = H3 from rfl, l3]; exact fun z => by cases z)
        have e36 := e5.trans e6
        have R7 := Rs.call R3 e36 R6.base R6.sub R6.new R6.drw
        refine ⟨accV, l6, by rw [ra.length]; exact k6.1, hlt, G6, s6.n, acc ++ [y], accV ++ [v], (e2.trans e3).trans e36, Rs.poke R7 (fun a ha => upd_ne ha) aw g6 dL h0L, g6, upd_same, (ra.mono (e3.trans e36)).append (.cons r6 .nil), k6.2⟩
      | false =>
        have R7 := Rs.call R3 e5 R5.base R5.sub R5.new R5.drw
        exact ⟨hlt, G5, sb.n, acc, accV, (e2.trans e3).trans e5, R7, g5, l5, ra.mono (e3.trans e5), kb⟩
    rcases yl x H'' y with ⟨rfl, rx⟩ | ⟨q1, o, hq, rfl, rfl, rx⟩
    · exact turn _ G' (Same.refl G') R2 g2 l2 rx
    · have ne : L ≠ q1 := fun z => by
        subst z
        rw [l2] at hq
        cases hq
      exact turn _ _ (Same.upd (R2.sub.none hq)) (R2.alloc hq) (by rw [upd_ne ne]; exact g2) (by rw [upd_ne ne]; exact l2) rx
  · left
    have e0 : i = ds.length := by omega
    subst e0
    rw [List.drop_length] at k2
    refine ⟨s2' (Nat.le_refl _), ?_⟩
    have R3 : p.Rs σ (fun a => if a = L then none else H' a) G' { s1 with n := n } := Rs.poke R2 (fun a ha => if_neg ha) aw g2 dL h0L
    have q := k2 L accV _ G' (e1.trans e2) R3 ra (if_pos rfl)
    have eH : upd (fun a => if a = L then none else H' a) L (.lst accV) = H' := by
      funext a
      unfold upd
      by_cases h : a = L
      · subst h
        rw [if_pos rfl, l2]
      · rw [if_neg h]
        exact if_neg h
    rw [eH] at q
    exact q
theorem ld_lc {elt tg iter : Expr} {ifs : List Expr} {scope : Scope} {own : List (Str × Nat)} {pos : Pos} {wi : WI} {g : TG} {ge : D → List Sl → Option (List Sl)} {tt : WT} {te : W} (hN : X.N.Nodup) (hi : PI X tg iter (liftI p wi)) (T : LcT p g ge (own.map (·.2))) (ok : blkC X.N X.env.scope scope own = true)
    (hg : ∀ (s : Shared) (H : Hp) (C : Addr) (cl : List (Str × Addr)) (fp : List Addr), PG (X.blk s H scope (compEnvC scope cl C X.env) fp) tg g)
    (ht : ∀ (s : Shared) (H : Hp) (C : Addr) (cl : List (Str × Addr)) (fp : List Addr) (H0 G0 : Hp), PTs (X.blk s H scope (compEnvC scope cl C X.env) fp) ifs (liftT ⟨p.K, p.dr, H0, G0⟩ tt))
    (he : ∀ (s : Shared) (H : Hp) (C : Addr) (cl : List (Str × Addr)) (fp : List Addr) (H0 G0 : Hp), PE (X.blk s H scope (compEnvC scope cl C X.env) fp) elt (lift ⟨p.K, p.dr, H0, G0⟩ te))
    (hc : X.calm = true := by rfl) (hs : ∀ x, foldedSetIterable iter X.env x = pure x := by intro _; rfl) : PE X (.ListComp elt [⟨tg, iter, ifs, 0⟩] scope pos) (liftL p (wLc wi ge (own.map (·.2)) tt te)) :=
  PE.imp (pe_lc (own := own) hc hN hi (blkOk_by ok) hg (fun s H C cl fp => pts_X (ht s H C cl fp)) (fun s H C cl fp => pe_X (he s H C cl fp)) hs) (lc_lift T)
end
end DI
/-! A def by its body, where it is known that no object is being shown; repr; a slot's own list; the law's end. -/
namespace DI
open PySem PySem.Spec PyProof.Rows L2
/-- a def's promise, kept where no object is being shown -/
structure FnG (P : Program) (w : World) (K : PySem.W.Frag) (mg : Str → Option Value) (base : Heap) (k : Nat) (f : Addr) (fd : FuncData) (ps : List Str) (sp : Sp) : Prop where
  len : ∀ vs H Q E, sp vs H Q E → vs.length = ps.length
  go : ∀ (A : Around) (callers : List Env) (st : Shared) (H : Hp) (args : Args) (us : List Value) (vs : List V) (Q : VK) (E : XK), Room k A → A.guards = some [] → Env0 P w K mg base A callers st H →
    BindsTo st fd args (ps.zip us) → Vals vs us → sp vs H Q E → codeAny (model P w) A (.call (.ref f) args) (CR CX0 callers P w H st Q E) st
theorem FnG.mono {P : Program} {w : World} {K : PySem.W.Frag} {mg : Str → Option Value} {base : Heap} {j k : Nat} {f : Addr} {fd : FuncData} {ps : List Str} {sp : Sp} (F : FnG P w K mg base j f fd ps sp) (h : j ≤ k) : FnG P w K mg base k f fd ps sp :=
  ⟨F.len, fun A callers st H args us vs Q E hr => F.go A callers st H args us vs Q E (hr.mono h)⟩
section
variable {P : Program} {w : World} {K : PySem.W.Frag} {mg : Str → Option Value} {base : Heap}
theorem fng_of {k : Nat} {f : Addr} {nm qual : Str} {prm : Arguments} {body : List Stmt} {scope : Scope} {dV kV doc pm cdv ct oc : Value} {an od : Option Addr} {osl : Array (Option Value)} {N ps : List Str} {sp : Sp}
    (lk : K.lookup f = some ⟨oc, od, .func (PySem.W.fnOf nm qual prm body scope dV kV doc pm an cdv ct), osl⟩) (hcd : PySem.W.codeIn K cdv qual = true) (Sc : FnScope N ps scope) (len : ∀ vs H Q E, sp vs H Q E → vs.length = ps.length)
    (hbody : ∀ (A : Around) (callers : List Env) (st : Shared) (H : Hp) (vs : List V) (Q : VK) (E : XK), Room k (A.deeper (envOfC qual scope st.heap.objs.size f cdv)) → A.guards = some [] → sp vs H Q E →
      ∃ t, PSs (cxOf CX0 P w K mg base N qual scope f cdv A callers st H E) body t ∧ t { nx := fun _ H' => Q .non H', rt := Q } (L2.start N vs) H) :
    FnG P w K mg base (k + 1) f (PySem.W.fnOf nm qual prm body scope dV kV doc pm an cdv ct) ps sp := by
  refine ⟨len, fun A callers st H args us vs Q E room hga env0 hb rv hsp => ?_⟩
  have kin : K.In st.heap := env0.mod.kin.keeps fun b o e => (env0.bs b o e).1
  have nolim : st.heap.NoLimit := env0.mod.nolimit.keeps fun b o e => (env0.bs b o e).1
  have kinds : ∀ y ∈ ps.zip us, scope.names.lookup y.1 = some .local ∨ (scope.names.lookup y.1 = some .cell ∧ ((cellsFrom (st.heap.objs.size + 1) scope.names []).lookup y.1).isSome = true) := by
    rintro ⟨n, v⟩ hy
    cases Sc.par n (List.of_mem_zip hy).1 with
    | inl q => exact Or.inl q
    | inr q => exact Or.inr ⟨q, PySem.W.cellsFrom_some _ _ _ (Or.inl q)⟩
  refine codeAny_call_function room.depth (kin _ _ lk) rfl Sc.co Sc.gen rfl (PySem.W.codeRec_of kin hcd) (hb _ _ _ _ ?_)
  refine wpAny_newFunctionEnv_cells Sc.kind kinds fun env he st1 ic => ?_
  cases he
  refine ⟨nolim.keeps ic.toInCall.keep, codeAny_func ?_⟩
  obtain ⟨t, ht, tq⟩ := hbody A callers st H vs Q E (room.deeper _) hga hsp
  have I : Inv (cxOf CX0 P w K mg base N qual scope f cdv A callers st H E) [] (L2.start N vs) H st1 := inv_start Sc room.hd env0 (len _ _ _ _ hsp) rv ic
  refine wpAny_mono (ht.run [] st1 (L2.start N vs) H _ I tq) (fun fl st2 hs => ?_) fun _ _ z => z
  cases fl with
  | next =>
    obtain ⟨σ2, H2, J, q⟩ := hs
    exact ⟨.non, H2, J.os, J.bare, J.base, J.hok, rfl, q⟩
  | ret u =>
    obtain ⟨v, σ2, H2, J, r2, q⟩ := hs
    exact ⟨v, H2, J.os, J.bare, J.base, J.hok, r2, q⟩
  | brk =>
    obtain ⟨_, _, _, q⟩ := hs
    exact q.elim
  | cont =>
    obtain ⟨_, _, _, q⟩ := hs
    exact q.elim
end
section
variable {X : Cx} {k : Nat} {f : Addr} {fd : FuncData} {ps : List Str} {sp : Sp} {x : Str} {pf pos : Pos} {e : Expr} {es : List Expr} {t : TA}
theorem run_fng {pins : List (Addr × Obj)} {σ : L2.St} {H : Hp} {st : Shared} {Q : VK} {us : List Value} {vs : List V} (F : FnG X.prog X.w X.K X.mg X.base k f fd ps sp) (room : Room k X.A) (hga : X.A.guards = some []) (hb : Binds X.K fd ps [])
    (I : Inv X pins σ H st) (r : Vals vs us) (h : sp vs H Q E0) : wpAny (model X.prog X.w) X.A (call (.ref f) us) (EP X pins σ Q) X.xe st := by
  have hl : (us ++ []).length = ps.length := by rw [List.append_nil, ← r.length]; exact F.len _ _ _ _ h
  have hb' := hb st us I.kIn hl
  rw [List.append_nil] at hb'
  refine wpAny_call (codeAny_mono (F.go X.A X.stack st H ⟨us, []⟩ us vs Q E0 room hga I.env0 hb' r h) fun res st2 hq => ?_)
  cases res with
  | error err => exact (show False from hq).elim
  | ok fl =>
    cases fl with
    | ret u => exact I.after hq
    | next => exact (show False from hq).elim
    | brk => exact (show False from hq).elim
    | cont => exact (show False from hq).elim
theorem pe_callG (F : FnG X.prog X.w X.K X.mg X.base k f fd ps sp) (room : Room k X.A) (hga : X.A.guards = some []) (hm : X.mg x = some (.ref f)) (hk : PySem.W.keepIn X.K (.ref f) = true) (hb : Binds X.K fd ps []) (ha : PA X (e :: es) t) (hg : Gl X x := by rfl)
    (hdb : (x == ("__debug__" : Str)) = false := by decide) (he : starEach (e :: es) X.env = (false, eval e X.env) :: starEach es X.env := by rfl) (hpl : (backTo pos (starEach es X.env)).any (·.1) = false := by rfl) :
    PE X (.Call (.Name x pf) (e :: es) [] pos) (fun σ H Q => t σ H fun vs H1 => sp vs H1 Q E0) := by
  refine ⟨fun pins st σ H Q I h => wpAny_Call_Name_kw (ld_glob I hg hm ?_ hdb)⟩
  exact PySem.W.callWith_K (h₀ := X.base) I.ok.mod.kin hk (thn (ha.run pos pins st σ H _ I h) fun us st1 ⟨vs, H1, I1, r, q⟩ => ⟨I1.kIn, run_fng F room hga hb I1 r q⟩) he hpl
end

/-! ### a def by data -/
def initSl : Bool → D → Sl
  | true, .lst ds => .bor ds
  | _, d => .val d
def initE : Nat → List Bool → List D → List Sl
  | n, m :: ms, d :: ds => initSl m d :: initE (n - 1) ms ds
  | n, _, _ => List.replicate n .emp
theorem initE_length : ∀ (n : Nat) (ms : List Bool) (ds : List D), ms.length = ds.length → ms.length ≤ n → (initE n ms ds).length = n
  | n, [], [], _, _ => by simp [initE]
  | n, m :: ms, d :: ds, h, hn => by
    simp only [initE, List.length_cons]
    simp only [List.length_cons] at h hn
    rw [initE_length (n - 1) ms ds (by omega) (by omega)]
    omega
  | n, [], d :: ds, h, _ => by simp at h
  | n, m :: ms, [], h, _ => by simp at h
theorem initE_slot {p : Pl} {H G : Hp} (h0 : p.H0 = H) (hs : Sub G H) : ∀ {ms : List Bool} {vs : List V} {ds : List D}, RpM p H G ms vs ds → ∀ (n : Nat) (i : Nat) (x : Sl), (initE n ms ds)[i]? = some x →
    SlR p.K p.dr p.H0 H G (vs.map some ++ List.replicate (n - vs.length) none)[i]? x ∧ ∀ fs, x ≠ .own fs
  | _, _, _, .nil, n, i, x, hx => by
    simp only [initE] at hx
    rw [List.getElem?_replicate] at hx
    split at hx <;> cases hx
    exact ⟨trivial, fun fs z => nomatch z⟩
  | _, _, _, .val r t, n, i, x, hx => by
    simp only [initE] at hx
    cases i with
    | zero =>
      have e : x = .val ‹D› := by
        simp only [List.getElem?_cons_zero, Option.some.injEq] at hx
        subst hx
        rfl
      subst e
      exact ⟨⟨_, rfl, r⟩, fun fs z => nomatch z⟩
    | succ i =>
      simp only [List.getElem?_cons_succ] at hx
      have q := initE_slot h0 hs t (n - 1) i x hx
      simpa [Nat.sub_sub, Nat.add_comm] using q
  | _, _, _, .bor (d := d) r t, n, i, x, hx => by
    simp only [initE] at hx
    cases i with
    | zero =>
      simp only [List.getElem?_cons_zero, Option.some.injEq] at hx
      subst hx
      cases d with
      | lst ds =>
        obtain ⟨a, xs, rfl, h, k⟩ := r
        exact ⟨⟨a, xs, rfl, h, by rw [h0, h]; exact (fun z => nomatch z), k⟩, fun fs z => nomatch z⟩
      | _ => exact ⟨⟨_, rfl, r⟩, fun fs z => nomatch z⟩
    | succ i =>
      simp only [List.getElem?_cons_succ] at hx
      have q := initE_slot h0 hs t (n - 1) i x hx
      simpa [Nat.sub_sub, Nat.add_comm] using q
theorem fnd_of {P : Program} {w : World} {K : PySem.W.Frag} {mg : Str → Option Value} {base : Heap} {nm qual : Str} {st : Stmt} {f : Addr} {fd : FuncData} {N ps : List Str} {k : Nat} {ms : List Bool} {F : FT} {ws : WS} {dr : Option Addr} (U : Fun K nm qual st f fd) (Sc : FnScope N ps (defScope st))
    (hms : ms.length = ps.length)
    (body : ∀ (cdv : Value) (A : Around) (callers : List Env) (s0 : Shared) (H : Hp) (E : XK) (G0 : Hp), Room k (A.deeper (envOfC qual (defScope st) s0.heap.objs.size f cdv)) → A.guards = some [] →
      PSs (cxOf CX0 P w K mg base N qual (defScope st) f cdv A callers s0 H E).nox (defBody st) (liftS ⟨K, dr, H, G0⟩ ws))
    (wp : ∀ ds n Q, ds.length = ms.length → F.f ds n Q → ws.f { nx := fun s => Q .non s.n, rt := fun d s => Q d s.n } ⟨initE N.length ms ds, n⟩) : FnG P w K mg base (k + 1) f fd ps (SpD K dr ms F) := by
  obtain ⟨oc, od, kV, doc, pm, an, cdv, ct, osl, rfl, lk, hcd⟩ := U.ex
  have hle : ps.length ≤ N.length := by
    have h := congrArg List.length Sc.pre
    rw [List.length_take] at h
    omega
  refine fng_of lk hcd Sc (fun vs H Q E h => ?_) fun A callers s0 H vs Q E hr hga hsp => ?_
  · obtain ⟨G, ds, n, _, _, r, _⟩ := h
    rw [r.length.1, hms]
  · obtain ⟨G, ds, n, sub, dw, r, q⟩ := hsp
    refine ⟨_, (body cdv A callers s0 H E G hr hga).nox, ?_⟩
    have hl := r.length
    have slots : ∀ (i : Nat) (x : Sl), (initE N.length ms ds)[i]? = some x → SlR K dr H H G (L2.start N vs)[i]? x ∧ ∀ fs, x ≠ .own fs := fun i x hx => initE_slot (p := ⟨K, dr, H, G⟩) rfl sub r N.length i x hx
    refine ⟨G, ⟨initE N.length ms ds, n⟩, _, ⟨sub, fun a o _ e => e, fun a h1 _ => h1, ?_, fun i x hx => (slots i x hx).1, fun i j q1 es fs _ e1 _ _ => absurd rfl ((slots i _ e1).2 es), dw⟩, wp ds n _ hl.2 q, ?_⟩
    · rw [initE_length _ _ _ hl.2.symm (by rw [hms]; exact hle)]
      unfold L2.start
      rw [List.length_append, List.length_map, List.length_replicate, hl.1, hms]
      omega
    · exact ⟨fun σ' H' G' s' e R k => k .non H' G' e R.base R.sub R.new R.drw .non, fun v σ' H' G' d s' e R r k => k v H' G' e R.base R.sub R.new R.drw r, fun _ _ _ _ _ _ k => k.elim, fun _ _ _ _ _ _ k => k.elim⟩
section
variable {X : Cx} {p : Pl} {e : Expr} {es : List Expr} {ms : List Bool} {t : WA} {pos : Pos}
theorem pd_callG {F : FT} {k : Nat} {f : Addr} {fd : FuncData} {ps : List Str} {x : Str} {pf : Pos} {K : PySem.W.Frag} {dr : Option Addr} (ok : FnG X.prog X.w X.K X.mg X.base k f fd ps (SpD K dr ms F)) (hr : Room k X.A) (hga : X.A.guards = some []) (hm : X.mg x = some (.ref f)) (hk : PySem.W.keepIn X.K (.ref f) = true) (hb : Binds X.K fd ps [])
    (ha : PA X (e :: es) (liftM p ms t)) (hK : p.K = K := by rfl) (hd : p.dr = dr := by rfl) (hg : Gl X x := by rfl) (hdb : (x == ("__debug__" : Str)) = false := by decide) (he : starEach (e :: es) X.env = (false, eval e X.env) :: starEach es X.env := by rfl) (hpl : (backTo pos (starEach es X.env)).any (·.1) = false := by rfl) :
    PE X (.Call (.Name x pf) (e :: es) [] pos) (lift p (wCall F t)) := by
  subst hK hd
  refine PE.imp (pe_callG ok hr hga hm hk hb ha hg hdb he hpl) fun σ H Q h => ?_
  have q := call_lift (ms := ms) σ H Q h
  obtain ⟨G, s, R, kk⟩ := q
  exact ⟨G, s, R, t.mono _ _ _ (fun ds s1 k1 vs H1 G1 e1 R1 r1 => by
    have z : SpD p.K p.dr ms F (vs ++ []) H1 Q E0 := k1 vs H1 G1 e1 R1 r1
    rw [List.append_nil] at z
    exact z) kk⟩

/-! ### a slot's own list -/
def ownE (env : List Sl) (i : Nat) : Option (List D) := match env[i]? with
  | some (.own ds) => some ds
  | _ => none
theorem ownE_of {env : List Sl} {i : Nat} {ds : List D} (h : ownE env i = some ds) : env[i]? = some (.own ds) := by
  unfold ownE at h
  cases e : env[i]? with
  | none => rw [e] at h; cases h
  | some x =>
    rw [e] at h
    cases x <;> cases h
    rfl
/-- x.append(e) -/
def wApp (i : Nat) (w : W) : WS := ⟨fun E s => get (ownE s.env i) fun _ => w.f s fun d s1 => get (ownE s1.env i) fun ds => ds.length < sizeLine ∧ E.nx { s1 with env := s1.env.set i (.own (ds ++ [d])) },
  fun E E' s h q => get_mono (fun _ q => w.mono _ _ _ (fun d s1 q => get_mono (fun ds q => ⟨q.1, h.nx _ q.2⟩) q) q) q⟩
theorem sd_app (i : Nat) {x : Str} {apos p1 cpos : Pos} {a : Expr} {w : W} (hv : PE X (.Name x p1) (tVar i)) (ha : PE X a (lift p w)) (hbase : attributeBase (.Name x p1) "append" X.env (eval (.Name x p1) X.env) = eval (.Name x p1) X.env := by rfl)
    (hfew : ((backTo cpos (starEach (a :: []) X.env)).all (fun x => !x.1) && (backToKw cpos (keywordEach [] X.env)).all (fun x => x.1.isSome) && decide ((a :: ([] : List Expr)).length + ([] : List Keyword).length + (if ([] : List Keyword).isEmpty then 0 else 1) < 30)) = true := by rfl)
    (hline : (apos.endLine == cpos.line) = true := by rfl) (hs : starEach (a :: []) X.env = (false, eval a X.env) :: starEach [] X.env := by rfl) (hplain : (backTo cpos (starEach [] X.env)).any (·.1) = false := by rfl)
    (hsw : swapsWith (.Call (.Attribute (.Name x p1) "append" apos) [a] [] cpos) none pos.line X.env = pure false := by rfl) (hK : p.K = X.K := by rfl) :
    PS X (.Expr (.Call (.Attribute (.Name x p1) "append" apos) [a] [] cpos) pos) (liftS p (wApp i w)) :=
  PS.imp (ps_expr (pe_bm PySem.F.plainAttrs_list PySem.F.slot_list_append PySem.F.type_list_append mt_append hv (pa_cons ha pa_nil hs) hbase hfew hline hs hplain) hsw) fun D σ H ⟨G, s, E, R, k, q⟩ => by
    obtain ⟨ds0, e0, k1⟩ := get_of k
    obtain ⟨l, xs0, el, hl, _⟩ := R.slot i _ (ownE_of e0)
    refine ⟨.ref l, el, .inl ⟨rfl, xs0, SqL.of hl⟩, G, s, R, w.mono _ _ _ (fun d s1 k2 v H1 G1 e1 R1 r1 => ?_) k1⟩
    obtain ⟨ds, e2, hz, kn⟩ := get_of k2
    obtain ⟨l', xs, el', hl', g1, _, _, ra⟩ := R1.slot i _ (ownE_of e2)
    rw [el] at el'
    cases el'
    exact ⟨l, xs, v, rfl, rfl, hl', by rw [ra.length]; exact hz, q.nx σ _ G1 _ e1 (R1.write (ownE_of e2) el (ra.append (.cons r1 .nil))) kn⟩
/-- x.pop() -/
def wPop (i : Nat) : W := ⟨fun s P => get (ownE s.env i) fun ds => get ds[ds.length - 1]? fun d => P d { s with env := s.env.set i (.own ds.dropLast) }, fun s P P' h q => get_mono (fun ds q => get_mono (fun d q => h _ _ q) q) q⟩
theorem pd_pop (i : Nat) {x : Str} {apos p1 : Pos} (hv : PE X (.Name x p1) (tVar i)) (hbase : attributeBase (.Name x p1) "pop" X.env (eval (.Name x p1) X.env) = eval (.Name x p1) X.env := by rfl) (hline : (apos.endLine == pos.line) = true := by rfl) :
    PE X (.Call (.Attribute (.Name x p1) "pop" apos) [] [] pos) (lift p (wPop i)) :=
  PE.imp (pe_bm0 PySem.F.plainAttrs_list PySem.F.slot_list_pop PySem.F.type_list_pop mt_pop hv hbase hline) fun σ H Q ⟨G, s, R, k⟩ => by
    obtain ⟨ds, e0, k1⟩ := get_of k
    obtain ⟨d, ed, kd⟩ := get_of k1
    obtain ⟨l, xs, el, hl, g1, _, _, ra⟩ := R.slot i _ (ownE_of e0)
    obtain ⟨v, ev, rv⟩ := ra.get ed
    exact ⟨.ref l, el, .inl ⟨rfl, xs, SqL.of hl⟩, l, xs, v, rfl, rfl, hl, by rw [ra.length]; exact ev, kd v _ G (Same.refl G) (R.write (ownE_of e0) el ra.dropLast) rv⟩
end
end DI
/-! Further rules: * and **, min, three targets, in over nested data, repr, keywords, dict cells of the draws. -/
namespace DI
open PySem L2
section
variable {X : Cx} {p : Pl} {e a b : Expr} {es : List Expr} {pos : Pos} {w wa wb : W} {ms : List Bool} {t : WA}
abbrev gMulI : D → D → Option D := gI fun i j => .int (i * j)
abbrev cMul : D → D → Prop := cI CMul
abbrev gPow : D → D → Option D := gI fun i j => .int (i ^ j.toNat)
abbrev cPow : D → D → Prop := cI CPow
theorem pd_mul (ha : PE X a (lift p wa)) (hb : PE X b (lift p wb)) : PE X (.BinOp a .Mult b pos) (lift p (wBin cMul gMulI wa wb)) := PE.imp (pe_op op_mul ha hb) (op_lift od_I)
theorem pd_pow (ha : PE X a (lift p wa)) (hb : PE X b (lift p wb)) : PE X (.BinOp a .Pow b pos) (lift p (wBin cPow gPow wa wb)) := PE.imp (pe_op op_pow ha hb) (op_lift od_I)
/-- min of two ints -/
def gMin : List D → Option D
  | [.int i, .int j] => some (.int (if j < i then j else i))
  | _ => none
def gMax : List D → Option D
  | [.int i, .int j] => some (.int (if j > i then j else i))
  | _ => none
theorem bt_min (hc : X.calm = true := by rfl) : BtR X p "min" [false, false] c0 gMin := ⟨.inl ⟨_, _, by decide +kernel, call_min2 hc, fun G H vs ds d Q hs r hc hg k1 k2 => by
  cases r with
  | val r1 t =>
    cases t with
    | val r2 t =>
      cases t
      cases r1 <;> cases r2 <;> simp only [gMin] at hg <;> cases hg
      exact ⟨_, _, rfl, k1 _ (.int _)⟩⟩⟩
theorem bt_max (hc : X.calm = true := by rfl) : BtR X p "max" [false, false] c0 gMax := ⟨.inl ⟨_, _, by decide +kernel, call_max2 hc, fun G H vs ds d Q hs r hc hg k1 k2 => by
  cases r with
  | val r1 t =>
    cases t with
    | val r2 t =>
      cases t
      cases r1 <;> cases r2 <;> simp only [gMax] at hg <;> cases hg
      exact ⟨_, _, rfl, k1 _ (.int _)⟩⟩⟩
/-- a, b, c = x, y, z: plain values -/
def wPar3 (i j l : Nat) (t : WA) : WS := ⟨fun E s => t.f s fun ds s1 => ∃ d1 d2 d3, ds = [d1, d2, d3] ∧ i < s1.env.length ∧ j < s1.env.length ∧ l < s1.env.length ∧ E.nx { s1 with env := ((s1.env.set i (.val d1)).set j (.val d2)).set l (.val d3) },
  fun E E' s h q => t.mono _ _ _ (fun ds s1 ⟨d1, d2, d3, e, h1, h2, h3, q⟩ => ⟨d1, d2, d3, e, h1, h2, h3, h.nx _ q⟩) q⟩
theorem sd_par3 (i j l : Nat) {c : Expr} {ta : WA} {x y z : Str} {px py pz pt : Pos} {kt k2 pt2} (hN : X.N.Nodup) (ha : PA X [a, b, c] (liftM p ms ta)) (hm : ∀ m ∈ ms, m = false := by decide) (hc : X.calm = true := by rfl) (hi : X.N[i]? = some x := by rfl) (hj : X.N[j]? = some y := by rfl) (hl : X.N[l]? = some z := by rfl) (hij : i ≠ j := by decide) (hil : i ≠ l := by decide) (hjl : j ≠ l := by decide)
    (hx : X.env.scope.names.lookup x = some .local := by rfl) (hy : X.env.scope.names.lookup y = some .local := by rfl) (hz : X.env.scope.names.lookup z = some .local := by rfl)
    (hw : swappedStores [.Tuple [.Name x px, .Name y py, .Name z pz] kt pt] (.Tuple [a, b, c] k2 pt2) X.env = pure (some [x, y, z]) := by rfl)
    (hs : swapsWithSole [.Tuple [.Name x px, .Name y py, .Name z pz] kt pt] (.Tuple [a, b, c] k2 pt2) pos.line X.env = pure false := by rfl) : PS X (.Assign [.Tuple [.Name x px, .Name y py, .Name z pz] kt pt] (.Tuple [a, b, c] k2 pt2) pos) (liftS p (wPar3 i j l ta)) :=
  PS.imp (ps_par3 hc hN hi hj hl hij hil hjl hx hy hz ha hw hs) fun D σ H ⟨G, s, E, R, k, q⟩ => ⟨G, s, R, ta.mono _ _ _ (fun ds s1 ⟨d1, d2, d3, ed, h1, h2, h3, k1⟩ vs H1 G1 e1 R1 r1 => by
    subst ed
    have ra := r1.all hm
    cases ra with
    | cons ra1 t1 =>
      cases t1 with
      | cons ra2 t2 =>
        cases t2 with
        | cons ra3 t3 =>
          cases t3
          have R2 := R1.set (i := i) (by rw [← R1.len]; exact h1) ra1
          have R3 := R2.set (i := j) (by rw [List.length_set, ← R1.len]; exact h2) ra2
          have R4 := R3.set (i := l) (by rw [List.length_set, List.length_set, ← R1.len]; exact h3) ra3
          exact ⟨_, _, _, rfl, q.nx _ H1 G1 _ e1 R4 k1⟩) k⟩

/-! ### in over nested data -/
def cInN : D → D → Prop
  | x, .tup ys => shp x ∧ shp (.tup ys)
  | x, .lst ys => shp x ∧ shp (.lst ys)
  | _, _ => False
theorem any_toPy {x : D} : ∀ {ys : List D}, ((toPyA ys).any fun z => PyData.eqv z (toPy x)) = inD x ys
  | [] => by simp [toPyA, inD]
  | y :: ys => by
    have h := any_toPy (x := x) (ys := ys)
    unfold inD at h ⊢
    simp only [toPyA, List.any_cons, h, eqD]
def rInT (K : PySem.W.Frag) : R2 := fun x y H Q => ∃ d ds, Dp K H x d ∧ Dp K H y (.tuple ds) ∧ SeqAt.shaped d = true ∧ SeqAt.shaped (.tuple ds) = true ∧ Q (.bl (ds.any fun z => PyData.eqv z d)) H
theorem op_inT (hu : X.A.units + 65 < cLine) : OpR X (compareOp .In) (rInT X.K) := by
  intro pins st σ H x y v u Q I rx ry h
  obtain ⟨d, ds, hd, he, sd, se, q⟩ := h
  obtain ⟨as, q1⟩ := Dp.reads I d x v hd rx
  obtain ⟨bs, q2⟩ := Dp.reads I (.tuple ds) y u he ry
  exact SeqAt.in_tuple_reads q2 q1 (by simpa only [PyData.canLay0] using SeqAt.canLay_of_shaped se) (SeqAt.canLay_of_shaped sd) (by
    have z := SeqAt.depth_of_shaped sd
    omega) ⟨.bl _, H, I, rfl, q⟩
theorem cm_inN {k : Nat} (hr : Room k X.A) (hK : p.K = X.K := by rfl) : CmpR X p .In cInN gIn := ⟨_, (op_inT (by have := hr.un; omega)).or (op_inD (by have := hr.un; omega)), fun G H x y d1 d2 d Q hs r1 r2 hc hg k1 k2 => by
  cases d2 with
  | tup ys =>
    obtain ⟨⟨p1, s1⟩, p2, s2⟩ := hc
    cases hg
    refine .inl ⟨toPy d1, toPyA ys, hK ▸ rb_dp hs r1 p1, ?_, s1, ?_, ?_⟩
    · have z := rb_dp hs r2 p2
      simp only [toPy] at z
      exact hK ▸ z
    · simpa only [toPy] using s2
    · rw [any_toPy]
      exact k1 _ (.bl _)
  | lst ys =>
    obtain ⟨⟨p1, s1⟩, p2, s2⟩ := hc
    cases hg
    refine .inr ⟨toPy d1, toPyA ys, hK ▸ rb_dp hs r1 p1, ?_, s1, ?_, ?_⟩
    · have z := rb_dp hs r2 p2
      simp only [toPy] at z
      exact hK ▸ z
    · simpa only [toPy] using s2
    · rw [any_toPy]
      exact k1 _ (.bl _)
  | _ => exact hc.elim⟩

/-! ### repr -/
def gRepr : List D → Option D
  | [d] => some (.str (toPy d).shown)
  | _ => none
def cRepr : List D → Prop
  | [d] => plain d = true ∧ (toPy d).showable = true ∧ (toPy d).hasDict = false ∧ (toPy d).depth ≤ 60 ∧ (toPy d).shown.length ≤ sizeLine
  | _ => False
def rRepr (K : PySem.W.Frag) : List V → Hp → VK → Prop := fun vs H Q => ∃ v d, vs = [v] ∧ Dp K H v d ∧ d.showable = true ∧ d.hasDict = false ∧ d.depth ≤ 60 ∧ d.shown.length ≤ sizeLine ∧ Q (.str d.shown) H
theorem call_reprD {k : Nat} (hr : Room k X.A) (hga : X.A.guards = some []) : CallR X (.builtin "repr") (rRepr X.K) := by
  intro pins st σ H xs us Q I r h
  obtain ⟨v, d, rfl, hd, hs, hn, hdp, hz, q⟩ := h
  obtain ⟨u, rfl, rv⟩ := vals1 r
  obtain ⟨as, hrd⟩ := Dp.reads I d v u hd rv
  have hun := hr.un
  cases hd with
  | non =>
    cases rv
    simp only [PyData.shown] at q
    exact PySem.P.repr_of_none ⟨.str _, H, I.tok _, ⟨_, rfl⟩, q⟩
  | bl b =>
    cases rv
    simp only [PyData.shown] at q
    exact PySem.P.repr_of_bool ⟨.str _, H, I.tok _, ⟨_, rfl⟩, q⟩
  | int i =>
    obtain ⟨tk, rfl⟩ := rv
    simp only [PyData.shown] at q
    exact PySem.P.repr_of_int (by simpa [PyData.showable] using hs) ⟨.str _, H, I.tok _, ⟨_, rfl⟩, q⟩
  | str z =>
    obtain ⟨tk, rfl⟩ := rv
    simp only [PyData.shown] at q hz
    exact PySem.P.repr_of_str ⟨.str _, H, I.tok _, ⟨_, rfl⟩, q⟩ hz
  | lst h1 h2 =>
    cases rv
    exact PySem.repr_of_reads' hrd hs (PyData.noDict_hsm hn) hga (by omega) (fun _ _ z => z) (fun h' u' tk hk => ⟨.str _, H, I.kept (t' := tk) hk, ⟨_, rfl⟩, q⟩) hz
  | tup h1 h2 =>
    cases rv
    exact PySem.repr_of_reads' hrd hs (PyData.noDict_hsm hn) hga (by omega) (fun _ _ z => z) (fun h' u' tk hk => ⟨.str _, H, I.kept (t' := tk) hk, ⟨_, rfl⟩, q⟩) hz
theorem bt_repr {m : Bool} {k : Nat} (hr : Room k X.A) (hga : X.A.guards = some []) (hK : p.K = X.K := by rfl) : BtR X p "repr" [m] cRepr gRepr := ⟨.inl ⟨_, _, by decide +kernel, call_reprD hr hga, fun G H vs ds d Q hs r hc hg k1 k2 => by
  obtain ⟨v, d0, rfl, rfl, rb⟩ := rm1 hs r
  cases hg
  obtain ⟨h1, h2, h3, h4, h5⟩ := hc
  exact ⟨v, toPy d0, rfl, hK ▸ rb_dp hs rb h1, h2, h3, h4, h5, k1 _ (.str _)⟩⟩⟩

/-! ### a call by keywords, in the parameters' order -/
structure PKd (X : Cx) (p : Pl) (kws : List Keyword) (n : Nat) (t : WA) : Prop where
  pk : PK X kws (liftM p (List.replicate n false) t)
theorem kd_nil : PKd X p [] 0 waNil := ⟨⟨fun pos pins st σ H Q I ⟨G, s, R, k⟩ => (pk_nil (X := X)).run pos pins st σ H Q I (k [] H G (Same.refl G) R .nil)⟩⟩
theorem kd_cons {nm : Option Str} {kpos : Pos} {kws : List Keyword} {n : Nat} (h : PE X e (lift p w)) (ht : PKd X p kws n t) : PKd X p (⟨nm, e, kpos⟩ :: kws) (n + 1) (waCons w t) :=
  ⟨⟨fun pos pins st σ H Q I ⟨G, s, R, k⟩ => (pk_cons (nm := nm) (kpos := kpos) h ht.pk).run pos pins st σ H Q I ⟨G, s, R, w.mono _ _ _ (fun d s1 k1 v H1 G1 e1 R1 r1 => ⟨G1, s1, R1, t.mono _ _ _ (fun ds s2 k2 vs H2 G2 e2 R2 r2 => k2 _ H2 G2 (e1.trans e2) R2 (.val (r1.mono e2) r2)) k1⟩) k⟩⟩⟩
theorem pd_callK {F : FT} {k : Nat} {f : Addr} {fd : FuncData} {ps ks : List Str} {x : Str} {pf : Pos} {K : PySem.W.Frag} {dr : Option Addr} {kws : List Keyword} {n : Nat} (ok : FnG X.prog X.w X.K X.mg X.base k f fd ps (SpD K dr (List.replicate n false) F)) (room : Room k X.A) (hga : X.A.guards = some []) (hm : X.mg x = some (.ref f)) (hk : PySem.W.keepIn X.K (.ref f) = true)
    (hb : ∀ (s : Shared) (ws : List Value), ws.length = ps.length → BindsTo s fd ⟨[], ks.zip ws⟩ (ps.zip ws)) (ha : PKd X p kws n t) (hK : p.K = K := by rfl) (hd : p.dr = dr := by rfl) (hg : Gl X x := by rfl) (hdb : (x == ("__debug__" : Str)) = false := by decide)
    (hall : (backToKw pos (keywordEach kws X.env)).all (·.1.isSome) = true := by rfl) (hks : (backToKw pos (keywordEach kws X.env)).filterMap (·.1) = ks := by rfl)
    (hpl : ((backTo pos (starEach [] X.env)).any (·.1) || (backToKw pos (keywordEach kws X.env)).any (·.1.isNone)) = false := by rfl) :
    PE X (.Call (.Name x pf) [] kws pos) (lift p (wCall F t)) := by
  subst hK hd
  refine ⟨fun pins st σ H Q I h => wpAny_Call_Name_kw (ld_glob I hg hm ?_ hdb)⟩
  obtain ⟨G, s, R, kk⟩ := call_lift (ms := List.replicate n false) σ H Q h
  refine PySem.W.callWith_KW0 (h₀ := X.base) I.ok.mod.kin hk hall (thn (ha.pk.run pos pins st σ H (fun vs H1 => SpD p.K p.dr (List.replicate n false) F vs H1 Q E0) I ⟨G, s, R, t.mono _ _ _ (fun ds s1 k1 vs H1 G1 e1 R1 r1 => ?_) kk⟩) fun ws st2 ⟨zs, H2, I2, rz, q2⟩ => ⟨I2.kIn, ?_⟩) hpl
  · have z : SpD p.K p.dr (List.replicate n false) F (vs ++ []) H1 Q E0 := k1 vs H1 G1 e1 R1 r1
    rw [List.append_nil] at z
    exact z
  · rw [hks]
    have hl : ws.length = ps.length := by rw [← rz.length]; exact ok.len _ _ _ _ q2
    refine wpAny_call (codeAny_mono (ok.go X.A X.stack st2 H2 ⟨[], ks.zip ws⟩ ws zs Q E0 room hga I2.env0 (hb st2 ws hl) rz q2) fun res st3 hq => ?_)
    cases res with
    | error err => exact (show False from hq).elim
    | ok fl =>
      cases fl with
      | ret u => exact I2.after hq
      | next => exact (show False from hq).elim
      | brk => exact (show False from hq).elim
      | cont => exact (show False from hq).elim
end
end DI
/-! The draws. -/
namespace DI
open PySem PySem.Spec PyProof.Rows L2
theorem kAt : ¬ (("cells" : Str) = "at") ∧ ¬ (("cells" : Str) = "left") ∧ ¬ (("cells" : Str) = "used") ∧ ¬ (("at" : Str) = "left") ∧ ¬ (("at" : Str) = "used") ∧ ¬ (("left" : Str) = "used") := by decide +kernel
theorem drw_cells {L : Addr} {a l u : Int} : valV (drwK L a l u) (Sum.inr "cells" : Key) = some (.ref L) := valV_pos rfl
theorem drw_at {L : Addr} {a l u : Int} : valV (drwK L a l u) (Sum.inr "at" : Key) = some (.int a) := by
  unfold drwK
  rw [valV_neg (by intro z; exact kAt.1 (Sum.inr.inj z)), valV_pos rfl]
theorem drw_left {L : Addr} {a l u : Int} : valV (drwK L a l u) (Sum.inr "left" : Key) = some (.int l) := by
  unfold drwK
  rw [valV_neg (by intro z; exact kAt.2.1 (Sum.inr.inj z)), valV_neg (by intro z; exact kAt.2.2.2.1 (Sum.inr.inj z)), valV_pos rfl]
theorem drw_used {L : Addr} {a l u : Int} : valV (drwK L a l u) (Sum.inr "used" : Key) = some (.int u) := by
  unfold drwK
  rw [valV_neg (by intro z; exact kAt.2.2.1 (Sum.inr.inj z)), valV_neg (by intro z; exact kAt.2.2.2.2.1 (Sum.inr.inj z)), valV_neg (by intro z; exact kAt.2.2.2.2.2 (Sum.inr.inj z)), valV_pos rfl]
theorem put_at {L : Addr} {a l u y : Int} : putK (drwK L a l u) (Sum.inr "at" : Key) (.int y) = drwK L y l u := by
  obtain ⟨h1, h2, h3, h4, h5, h6⟩ := kAt
  have g1 : ¬ (("at" : Str) = "cells") := fun z => h1 z.symm
  have g2 : ¬ (("left" : Str) = "cells") := fun z => h2 z.symm
  have g3 : ¬ (("used" : Str) = "cells") := fun z => h3 z.symm
  have g4 : ¬ (("left" : Str) = "at") := fun z => h4 z.symm
  have g5 : ¬ (("used" : Str) = "at") := fun z => h5 z.symm
  have g6 : ¬ (("used" : Str) = "left") := fun z => h6 z.symm
  simp [putK, drwK, h1, h2, h3, h4, h5, h6, g1, g2, g3, g4, g5, g6]
theorem put_left {L : Addr} {a l u y : Int} : putK (drwK L a l u) (Sum.inr "left" : Key) (.int y) = drwK L a y u := by
  obtain ⟨h1, h2, h3, h4, h5, h6⟩ := kAt
  have g1 : ¬ (("at" : Str) = "cells") := fun z => h1 z.symm
  have g2 : ¬ (("left" : Str) = "cells") := fun z => h2 z.symm
  have g3 : ¬ (("used" : Str) = "cells") := fun z => h3 z.symm
  have g4 : ¬ (("left" : Str) = "at") := fun z => h4 z.symm
  have g5 : ¬ (("used" : Str) = "at") := fun z => h5 z.symm
  have g6 : ¬ (("used" : Str) = "left") := fun z => h6 z.symm
  simp [putK, drwK, h1, h2, h3, h4, h5, h6, g1, g2, g3, g4, g5, g6]
theorem put_used {L : Addr} {a l u y : Int} : putK (drwK L a l u) (Sum.inr "used" : Key) (.int y) = drwK L a l y := by
  obtain ⟨h1, h2, h3, h4, h5, h6⟩ := kAt
  have g1 : ¬ (("at" : Str) = "cells") := fun z => h1 z.symm
  have g2 : ¬ (("left" : Str) = "cells") := fun z => h2 z.symm
  have g3 : ¬ (("used" : Str) = "cells") := fun z => h3 z.symm
  have g4 : ¬ (("left" : Str) = "at") := fun z => h4 z.symm
  have g5 : ¬ (("used" : Str) = "at") := fun z => h5 z.symm
  have g6 : ¬ (("used" : Str) = "left") := fun z => h6 z.symm
  simp [putK, drwK, h1, h2, h3, h4, h5, h6, g1, g2, g3, g4, g5, g6]
/-- script + [0]: lists of any sort -/
def rCatS (K : PySem.W.Frag) : R2 := fun x y H Q => ∃ a b xs zs, x = .ref a ∧ y = .ref b ∧ SqL K H a xs ∧ SqL K H b zs ∧ xs.length + zs.length ≤ sizeLine ∧ ∀ p, H p = none → Q (.ref p) (upd H p (.lst (xs ++ zs)))
theorem op_catS {X : Cx} : OpR X (binaryOp .Add) (rCatS X.K) := by
  intro pins s σ H x y v u Q I rx ry ⟨a, b, xs, zs, ex, ey, h1, h2, hz, q⟩
  subst ex ey
  cases rx
  cases ry
  obtain ⟨i1, v1, ⟨⟨c1, d1, dt1, s1⟩, n1, g1, e1, e2, e3⟩, z1⟩ := I.list h1
  obtain ⟨i2, v2, ⟨⟨c2, d2, dt2, s2⟩, n2, g2, f1, f2, f3⟩, z2⟩ := I.list h2
  subst e1 e2 e3 f1 f2 f3
  have hlen : i1.toArray.size + i2.toArray.size ≤ sizeLine := by
    have := v1.length; have := v2.length
    simp only [List.size_toArray]; omega
  refine concat_meets ⟨_, g1, rfl⟩ ⟨_, g2, rfl⟩ noFill_list_add seq_list_add F.slot_list_add F.entry_list_add (F.args_list_add_2 _ _) (list_addW a b _ _ n1 n2 _ _ _ _ hlen) ⟨g1, g2, ?_⟩
  have I2 := I.lnew (t' := s.toks) (v1.append v2) (by rw [List.length_append]; exact hz)
  refine ⟨.ref _, _, ?_, rfl, q _ I.fresh⟩
  simpa using I2
/-- _law_next: some number below the bound; more draws -/
def fNext : FT := ⟨fun ds n Q => ∃ b : Int, ds = [.drw, .int b] ∧ n < 2 ^ 60 ∧ 0 < b ∧ b < 1073741824 ∧ ∀ r : Int, 0 ≤ r → r < b → Q (.int r) (n + 2),
  fun ds n P P' h ⟨b, e, h1, h2, h3, q⟩ => ⟨b, e, h1, h2, h3, fun r r0 r1 => h _ _ (q r r0 r1)⟩⟩
/-- _law_mixed: some number -/
def fMix : FT := ⟨fun ds n Q => ∃ c k : Int, ds = [.int c, .int k] ∧ 0 ≤ k ∧ k < 2 ^ 62 ∧ ∀ r : Int, Q (.int r) n, fun ds n P P' h ⟨c, k, e, h1, h2, q⟩ => ⟨c, k, e, h1, h2, fun r => h _ _ (q r)⟩⟩
/-- the dict's cells are written -/
theorem drw_write {G H : Hp} {a L : Addr} {ns : List Int} {x l u : Int} {n m : Nat} (d : DrwAt G H a n) (h : G L = some (.lst (ns.map V.int))) (o : DrwOk ns x l u m) : DrwAt G (upd H a (.dK (drwK L x l u))) a m :=
  ⟨d.free, L, ns, x, l, u, upd_same, h, o⟩
section
variable {X : Cx} {p : Pl} {e o : Expr} {pos : Pos} {w : W}
theorem Rs.dwrite {σ : L2.St} {H G : Hp} {s : S} {a L : Addr} {ns : List Int} {x l u : Int} {m : Nat} (R : p.Rs σ H G s) (ea : p.dr = some a) (h : G L = some (.lst (ns.map V.int))) (k : DrwOk ns x l u m) : p.Rs σ (upd H a (.dK (drwK L x l u))) G { s with n := m } := by
  have d := R.drw a ea
  refine Rs.call R (Same.refl G) (fun b o hb e => ?_) (fun b o e => ?_) (fun b e _ => e) (fun b eb => ?_)
  · rw [upd_ne (fun z => hb (by rw [ea, z]))]
    exact e
  · have ne : b ≠ a := fun z => by
      rw [z, d.free] at e
      cases e
    rw [upd_ne ne]
    exact R.sub b o e
  · rw [ea] at eb
    cases eb
    exact drw_write d h k
theorem vget_drw {σ : L2.St} {H G : Hp} {s : S} {i : Nat} (R : p.Rs σ H G s) (h : vget s.env i = some .drw) : ∃ a, σ[i]? = some (some (.ref a)) ∧ p.dr = some a := by
  obtain ⟨v, e, r⟩ := vget_rb R h
  cases r with
  | drw h => exact ⟨_, e, h⟩
/-- draw["left"] -/
def wDgL (i : Nat) : W := ⟨fun s P => vget s.env i = some .drw ∧ ∀ l : Int, P (.int l) s, fun s P P' h q => ⟨q.1, fun l => h _ _ (q.2 l)⟩⟩
/-- draw["at"], draw["used"] -/
def wDgA (i : Nat) : W := ⟨fun s P => vget s.env i = some .drw ∧ ∀ l : Int, 0 ≤ l → l ≤ s.n → P (.int l) s, fun s P P' h q => ⟨q.1, fun l h1 h2 => h _ _ (q.2 l h1 h2)⟩⟩
/-- draw["cells"] -/
def wDgC (i : Nat) : W := ⟨fun s P => vget s.env i = some .drw ∧ ∀ ns : List Int, 0 < ns.length → ns.length ≤ 64 → P (.lst (ns.map D.int)) s, fun s P P' h q => ⟨q.1, fun l h1 h2 => h _ _ (q.2 l h1 h2)⟩⟩
theorem dgL_of {k : Nat} (hr : Room k X.A) (i : Nat) {j : Nat} {p1 : Pos} (ho : PE X o (tVar i)) : PE X (.Subscript o (.Constant (.str "left") j p1) pos) (lift p (wDgL i)) :=
  PE.imp (pe_dget (hu_of hr) ho pe_str (fun _ _ => rfl)) fun σ H Q ⟨G, s, R, h, k⟩ => by
    obtain ⟨a, ev, ea⟩ := vget_drw R h
    obtain ⟨f, L, ns, x, l, u, e1, e2, _⟩ := R.drw a ea
    exact ⟨_, ev, a, _, rfl, by rw [← drw_left (L := L) (a := x) (l := l) (u := u)]; exact DGet.k (k := Sum.inr "left") e1, k l _ H G (Same.refl G) R (.int l)⟩
theorem dgA_of {k : Nat} (hr : Room k X.A) (i : Nat) {j : Nat} {p1 : Pos} (ho : PE X o (tVar i)) : PE X (.Subscript o (.Constant (.str "at") j p1) pos) (lift p (wDgA i)) :=
  PE.imp (pe_dget (hu_of hr) ho pe_str (fun _ _ => rfl)) fun σ H Q ⟨G, s, R, h, k⟩ => by
    obtain ⟨a, ev, ea⟩ := vget_drw R h
    obtain ⟨f, L, ns, x, l, u, e1, e2, ok⟩ := R.drw a ea
    exact ⟨_, ev, a, _, rfl, by rw [← drw_at (L := L) (a := x) (l := l) (u := u)]; exact DGet.k (k := Sum.inr "at") e1, k x ok.a0 ok.an _ H G (Same.refl G) R (.int x)⟩
theorem dgU_of {k : Nat} (hr : Room k X.A) (i : Nat) {j : Nat} {p1 : Pos} (ho : PE X o (tVar i)) : PE X (.Subscript o (.Constant (.str "used") j p1) pos) (lift p (wDgA i)) :=
  PE.imp (pe_dget (hu_of hr) ho pe_str (fun _ _ => rfl)) fun σ H Q ⟨G, s, R, h, k⟩ => by
    obtain ⟨a, ev, ea⟩ := vget_drw R h
    obtain ⟨f, L, ns, x, l, u, e1, e2, ok⟩ := R.drw a ea
    exact ⟨_, ev, a, _, rfl, by rw [← drw_used (L := L) (a := x) (l := l) (u := u)]; exact DGet.k (k := Sum.inr "used") e1, k u ok.u0 ok.un _ H G (Same.refl G) R (.int u)⟩
theorem dgC_of {k : Nat} (hr : Room k X.A) (i : Nat) {j : Nat} {p1 : Pos} (ho : PE X o (tVar i)) : PE X (.Subscript o (.Constant (.str "cells") j p1) pos) (lift p (wDgC i)) :=
  PE.imp (pe_dget (hu_of hr) ho pe_str (fun _ _ => rfl)) fun σ H Q ⟨G, s, R, h, k⟩ => by
    obtain ⟨a, ev, ea⟩ := vget_drw R h
    obtain ⟨f, L, ns, x, l, u, e1, e2, ok⟩ := R.drw a ea
    refine ⟨_, ev, a, _, rfl, by rw [← drw_cells (L := L) (a := x) (l := l) (u := u)]; exact DGet.k (k := Sum.inr "cells") e1, k ns ok.ne ok.le _ H G (Same.refl G) R (.lst e2 ?_)⟩
    exact RpA.ints ns
/-- draw["left"] = e -/
def wDpL (i : Nat) (w : W) : WS := ⟨fun E s => w.f s fun d s1 => vget s1.env i = some .drw ∧ ∃ (y : Int) (m : Nat), d = .int y ∧ s1.n ≤ m ∧ E.nx { s1 with n := m }, fun E E' s h q => w.mono _ _ _ (fun d s1 ⟨a, y, m, b, c, q⟩ => ⟨a, y, m, b, c, h.nx _ q⟩) q⟩
/-- draw["at"] = e, draw["used"] = e -/
def wDpA (i : Nat) (w : W) : WS := ⟨fun E s => w.f s fun d s1 => vget s1.env i = some .drw ∧ ∃ (y : Int), d = .int y ∧ 0 ≤ y ∧ y ≤ s1.n + 1 ∧ E.nx { s1 with n := s1.n + 1 }, fun E E' s h q => w.mono _ _ _ (fun d s1 ⟨a, y, b, c, e, q⟩ => ⟨a, y, b, c, e, h.nx _ q⟩) q⟩
theorem small4 {L : Addr} {a l u : Int} : (drwK L a l u).length < sizeLine := by show 4 < sizeLine; decide
theorem sdpL {k : Nat} (hr : Room k X.A) (i : Nat) {j : Nat} {p1 p2 : Pos} (ho : PE X o (tVar i)) (he : PE X e (lift p w)) (hs : swapsWith e (some (.Subscript o (.Constant (.str "left") j p1) p2)) pos.line X.env = pure false := by rfl) : PS X (.Assign [.Subscript o (.Constant (.str "left") j p1) p2] e pos) (liftS p (wDpL i w)) :=
  PS.imp (ps_dput (hu_of hr) ho pe_str he hs) fun D σ H ⟨G, s, E, R, k, q⟩ => ⟨G, s, R, w.mono _ _ _ (fun d s1 ⟨h, y, m, ed, hm, k1⟩ v H1 G1 e1 R1 r1 => by
    subst ed
    cases r1
    obtain ⟨a, ev, ea⟩ := vget_drw R1 h
    obtain ⟨f, L, ns, x, l, u, z1, z2, ok⟩ := R1.drw a ea
    refine ⟨_, ev, a, _, rfl, DPut.k (k := Sum.inr "left") z1 small4, ?_⟩
    rw [put_left]
    exact q.nx σ _ G1 _ e1 (R1.dwrite ea z2 ⟨ok.ne, ok.le, ok.a0, by have := ok.an; omega, ok.u0, by have := ok.un; omega⟩) k1) k⟩
theorem sdpA {k : Nat} (hr : Room k X.A) (i : Nat) {j : Nat} {p1 p2 : Pos} (ho : PE X o (tVar i)) (he : PE X e (lift p w)) (hs : swapsWith e (some (.Subscript o (.Constant (.str "at") j p1) p2)) pos.line X.env = pure false := by rfl) : PS X (.Assign [.Subscript o (.Constant (.str "at") j p1) p2] e pos) (liftS p (wDpA i w)) :=
  PS.imp (ps_dput (hu_of hr) ho pe_str he hs) fun D σ H ⟨G, s, E, R, k, q⟩ => ⟨G, s, R, w.mono _ _ _ (fun d s1 ⟨h, y, ed, h0, h1, k1⟩ v H1 G1 e1 R1 r1 => by
    subst ed
    cases r1
    obtain ⟨a, ev, ea⟩ := vget_drw R1 h
    obtain ⟨f, L, ns, x, l, u, z1, z2, ok⟩ := R1.drw a ea
    refine ⟨_, ev, a, _, rfl, DPut.k (k := Sum.inr "at") z1 small4, ?_⟩
    rw [put_at]
    exact q.nx σ _ G1 _ e1 (R1.dwrite ea z2 ⟨ok.ne, ok.le, h0, by omega, ok.u0, by have := ok.un; omega⟩) k1) k⟩
theorem sdpU {k : Nat} (hr : Room k X.A) (i : Nat) {j : Nat} {p1 p2 : Pos} (ho : PE X o (tVar i)) (he : PE X e (lift p w)) (hs : swapsWith e (some (.Subscript o (.Constant (.str "used") j p1) p2)) pos.line X.env = pure false := by rfl) : PS X (.Assign [.Subscript o (.Constant (.str "used") j p1) p2] e pos) (liftS p (wDpA i w)) :=
  PS.imp (ps_dput (hu_of hr) ho pe_str he hs) fun D σ H ⟨G, s, E, R, k, q⟩ => ⟨G, s, R, w.mono _ _ _ (fun d s1 ⟨h, y, ed, h0, h1, k1⟩ v H1 G1 e1 R1 r1 => by
    subst ed
    cases r1
    obtain ⟨a, ev, ea⟩ := vget_drw R1 h
    obtain ⟨f, L, ns, x, l, u, z1, z2, ok⟩ := R1.drw a ea
    refine ⟨_, ev, a, _, rfl, DPut.k (k := Sum.inr "used") z1 small4, ?_⟩
    rw [put_used]
    exact q.nx σ _ G1 _ e1 (R1.dwrite ea z2 ⟨ok.ne, ok.le, ok.a0, by have := ok.an; omega, h0, by omega⟩) k1) k⟩
end
end DI
/-! The law is called where no object is being shown; defs, constants, empty dicts by data. -/
namespace DI
open PySem PySem.Spec PyProof.Rows L2
section
variable {P : Program} {w : World} {K : PySem.W.Frag} {mg mb : Str → Option Value} {k : Nat} {fa a : Addr} {fd : FuncData} {x : Str} {sp : Sp} {s₁ : Shared} {vs : List Value} {ns : List Int}
theorem lawG_core {H : Hp} (KX : K.In s₁.heap) (hns : s₁.heap.Ns mainGlobals mg) (hb : s₁.heap.Ns builtinsNs mb) (hbb : ∀ y : Str, y ≠ Str.ofString "__name__" → mb y = bootBuiltins y) (hlim : s₁.heap.NoLimit) (hg : s₁.gens = #[])
    (ha : s₁.heap.get? a = some { cls := Value.type "list", data := Data.seq vs.toArray }) (hi : IntsAre vs ns) (hr : Room k callerA) (F : ∀ base : Heap, K.In base → base.Ns mainGlobals mg → FnG P w K mg base k fa fd [x] sp)
    (hbind : ∀ (s : Shared) (u : Value), BindsTo s fd ⟨[u], []⟩ [(x, u)]) (hO : Only H) (hok : HOk P w H s₁.heap) (hA : ∀ b, H b ≠ none → b = a) (hK : H a ≠ none → K.lookup a = none)
    (hsp : sp [.ref a] H (fun v _ => v = .bl true) E0) :
    codeAny (model P w) callerA (.call (.ref fa) ⟨[.ref a], []⟩) (fun r s' => r = .ok (.ret (.bool true)) ∧ OldK s₁.heap s'.heap ∧ s'.os = s₁.os ∧ AllBare s'.gens) s₁ := by
  have free : ∀ {b : Addr} {o : Obj}, s₁.heap.get? b = some o → (∀ its n, o.data ≠ .seq its n) → H b = none := fun {b o} e d => by
    cases q : H b with
    | none => rfl
    | some u =>
      have eb := hA b (by rw [q]; exact fun z => nomatch z)
      subst eb
      rw [ha] at e
      cases e
      exact absurd rfl (d _ _)
  have names : ∀ {b : Addr} {m : Str → Option Value}, s₁.heap.Ns b m → (hidT s₁.heap H).Ns b m := fun {b m} ⟨o, es, ep, e, d, r⟩ =>
    ⟨o, es, ep, hidT_get e (free e fun its n z => by rw [d] at z; cases z), d, r⟩
  have inK : K.In (hidT s₁.heap H) := fun b o e => hidT_get (KX b o e) (by
    cases q : H b with
    | none => rfl
    | some u =>
      have ne : H b ≠ none := by rw [q]; exact fun z => nomatch z
      have eb := hA b ne
      subst eb
      rw [hK ne] at e
      cases e)
  have M : L2.Mod K mg (hidT s₁.heap H) := ⟨inK, names hns, ⟨mb, names hb, hbb⟩, by
    obtain ⟨mc, h1, h2⟩ := hlim
    exact ⟨mc, names h1, h2⟩⟩
  have env : Env0 P w K mg (hidT s₁.heap H) callerA [] s₁ H := ⟨rfl, M, fun b o e => of_hidT e, Nat.le_of_eq (hidT_size s₁.heap H), trivial, fun b h => absurd h List.not_mem_nil, hok, AllBare.of_eq hg⟩
  refine codeAny_mono ((F _ inK (names hns)).go callerA [] s₁ H ⟨[.ref a], []⟩ [.ref a] [.ref a] _ E0 hr rfl env (hbind s₁ _) (.cons rfl .nil) hsp) fun r s' h => ?_
  cases r with
  | error e => exact (show False from h).elim
  | ok fl =>
    cases fl with
    | next => exact (show False from h).elim
    | brk => exact (show False from h).elim
    | cont => exact (show False from h).elim
    | ret u =>
      obtain ⟨v, H', os, bare, un, hok', rv, q⟩ := h
      subst q
      cases rv
      refine ⟨rfl, OldK.of_keep fun b o e => ?_, os, bare⟩
      cases q : H b with
      | none => exact un.keep b o e q (fun z => absurd z List.not_mem_nil) List.not_mem_nil
      | some u =>
        rcases hO b with z | ⟨ob, xs, z⟩
        · rw [q] at z
          cases z
        · have z2 := un.frzs b ob _ z
          obtain ⟨e1, _⟩ := hok b _ z
          obtain ⟨e2, _⟩ := hok' b _ z2
          rw [e] at e1
          cases e1
          exact e2
end

section
variable {P : Program} {w : World} {K : PySem.W.Frag} {mg mb : Str → Option Value} {k : Nat} {fa a : Addr} {fd : FuncData} {x : Str} {sp : Sp} {s₁ : Shared} {vs : List Value} {ns : List Int}
theorem lawG (KX : K.In s₁.heap) (hns : s₁.heap.Ns mainGlobals mg) (hb : s₁.heap.Ns builtinsNs mb) (hbb : ∀ y : Str, y ≠ Str.ofString "__name__" → mb y = bootBuiltins y) (hlim : s₁.heap.NoLimit) (hg : s₁.gens = #[])
    (ha : s₁.heap.get? a = some { cls := Value.type "list", data := Data.seq vs.toArray }) (hi : IntsAre vs ns) (hl : ns.length ≤ sizeLine) (hr : Room k callerA) (F : ∀ base : Heap, K.In base → base.Ns mainGlobals mg → FnG P w K mg base k fa fd [x] sp)
    (hbind : ∀ (s : Shared) (u : Value), BindsTo s fd ⟨[u], []⟩ [(x, u)]) (hsp : ∀ H, Only H → SqL K H a (ns.map V.int) → sp [.ref a] H (fun v _ => v = .bl true) E0) :
    codeAny (model P w) callerA (.call (.ref fa) ⟨[.ref a], []⟩) (fun r s' => r = .ok (.ret (.bool true)) ∧ OldK s₁.heap s'.heap ∧ s'.os = s₁.os ∧ AllBare s'.gens) s₁ := by
  have rv := vals_ints hi
  have hz : vs.length ≤ sizeLine := by rw [← rv.length, List.length_map]; exact hl
  cases e : K.lookup a with
  | none =>
    let H : Hp := fun b => if b = a then some (.frz { cls := Value.type "list", data := Data.seq vs.toArray } (.lst (ns.map V.int))) else none
    have hH : H a = some (.frz { cls := Value.type "list", data := Data.seq vs.toArray } (.lst (ns.map V.int))) := if_pos rfl
    have hN : ∀ b, b ≠ a → H b = none := fun b hb => if_neg hb
    have hO : Only H := fun b => by
      by_cases hb : b = a
      · subst hb
        exact .inr ⟨_, _, hH⟩
      · exact .inl (hN b hb)
    refine lawG_core KX hns hb hbb hlim hg ha hi hr F hbind hO (fun b o z => ?_) (fun b z => ?_) (fun _ => e) (hsp H hO (.inl (.inr ⟨_, hH⟩)))
    · by_cases hb : b = a
      · subst hb
        rw [hH] at z
        cases z
        simp only [ObjOk]
        exact ⟨ha, by rw [List.length_map]; exact hl, vs, 0, rv, ha⟩
      · rw [hN b hb] at z
        cases z
    · by_cases hb : b = a
      · exact hb
      · exact absurd (hN b hb) z
  | some o =>
    have eo := (KX a o e).symm.trans ha
    cases eo
    refine lawG_core (H := fun _ => none) KX hns hb hbb hlim hg ha hi hr F hbind (fun b => .inl rfl) (fun b o z => nomatch z) (fun b z => absurd rfl z) (fun z => absurd rfl z) (hsp _ (fun b => .inl rfl) (.inr ⟨_, vs.toArray, _, e, rfl, rfl, rfl, by simpa using hz, by simpa using rv⟩))
theorem walkG {l : PySem.W.OpenLaw} {n k : Nat} {q : Program} {loose : List Str} {XP : (Str → Option Value) → Heap → Prop} {YP : World → Heap → Prop} {d : DefRec} {K : Params → PySem.W.Frag} {sp : World → Sp} {x : Str} (hn : l.most = some n) (hn2 : n ≤ sizeLine) (hdf : d.params.defaults = []) (hr : Room k callerA)
    (hY : ∀ (w : World) (h : Heap), YP w h → (K w.params).In h)
    (F : ∀ (w : World) (mg : Str → Option Value) (fa : Addr) (h : Heap), (K w.params).In h → h.Ns mainGlobals mg → mg d.name = some (.ref fa) →
      ∃ fd : FuncData, (∀ (s : Shared) (u : Value), BindsTo s fd ⟨[u], []⟩ [(x, u)]) ∧ ∀ base : Heap, (K w.params).In base → base.Ns mainGlobals mg → FnG l.prog w (K w.params) mg base k fa fd [x] (sp w))
    (hsp : ∀ (w : World) (H : Hp) (a : Addr) (ns : List Int), ns.length ≤ n → Only H → SqL (K w.params) H a (ns.map V.int) → sp w [.ref a] H (fun v _ => v = .bl true) E0) :
    PySem.W.WalkO q loose XP YP l.row.toRowW d [] (fun f vs => PySem.call f vs) :=
  Att.attach_call hn hdf fun w s₀ s₁ mg mb fa o pm cd doc a vs ns G Y ho hd hcd hmg hobj hints hlen hg => by
    obtain ⟨fd, h1, h2⟩ := F w mg fa s₁.heap (hY w s₁.heap Y) G.T.g hmg
    exact lawG (hY w s₁.heap Y) G.T.g G.T.b G.T.builtins G.T.nolimit hg hobj hints (Nat.le_trans hlen hn2) hr h2 h1 fun H hO hS => hsp w H a ns hlen hO hS
end
/-! ### a def by its name -/
/-- a def of the top, by its promise on data -/
structure Dn (P : Program) (w : World) (K : PySem.W.Frag) (mg : Str → Option Value) (base : Heap) (k : Nat) (x : Str) (ps : List Str) (F : FT) : Prop where
  ex : ∃ (f : Addr) (fd : FuncData), mg x = some (.ref f) ∧ PySem.W.keepIn K (.ref f) = true ∧ Binds K fd ps [] ∧
    (∀ (s : Shared) (us : List Value), us.length = ps.length → BindsTo s fd ⟨[], ps.zip us⟩ (ps.zip us)) ∧ ∀ dr, FnG P w K mg base k f fd ps (SpD K dr (List.replicate ps.length false) F)
/-- a constant of the top -/
def Gc (K : PySem.W.Frag) (mg : Str → Option Value) (x : Str) (d : D) : Prop := ∃ (v : V) (u : Value), mg x = some u ∧ RelV v u ∧ ∀ dr G, Rp K dr G v d
section
variable {X : Cx} {p : Pl} {e : Expr} {es : List Expr} {t : WA} {pos pf : Pos} {x : Str} {ps : List Str} {F : FT} {k : Nat}
theorem pd_const {d : D} (h : Gc X.K X.mg x d) (hg : Gl X x := by rfl) (hK : p.K = X.K := by rfl) (hd : (x == ("__debug__" : Str)) = false := by decide) : PE X (.Name x pos) (lift p (wC d)) := by
  obtain ⟨v, u, h1, h2, h3⟩ := h
  exact pd_glob hg h1 h2 (fun G => by
    have z := h3 p.dr G
    rw [← hK] at z
    exact z) hd
theorem pd_cl (D : Dn X.prog X.w X.K X.mg X.base k x ps F) {j : Nat} (hr : Room j X.A) (hj : k ≤ j) (hga : X.A.guards = some []) (ha : PA X (e :: es) (liftM p (List.replicate ps.length false) t)) (hK : p.K = X.K := by rfl) (hg : Gl X x := by rfl)
    (hdb : (x == ("__debug__" : Str)) = false := by decide) (he : starEach (e :: es) X.env = (false, eval e X.env) :: starEach es X.env := by rfl) (hpl : (backTo pos (starEach es X.env)).any (·.1) = false := by rfl) :
    PE X (.Call (.Name x pf) (e :: es) [] pos) (lift p (wCall F t)) := by
  obtain ⟨f, fd, h1, h2, h3, h4, h5⟩ := D.ex
  exact pd_callG (h5 p.dr) (hr.mono hj) hga h1 h2 h3 ha hK rfl hg hdb he hpl
theorem pd_clK (D : Dn X.prog X.w X.K X.mg X.base k x ps F) {j : Nat} {kws : List Keyword} (hr : Room j X.A) (hj : k ≤ j) (hga : X.A.guards = some []) (ha : PKd X p kws ps.length t) (hK : p.K = X.K := by rfl) (hg : Gl X x := by rfl)
    (hdb : (x == ("__debug__" : Str)) = false := by decide) (hall : (backToKw pos (keywordEach kws X.env)).all (·.1.isSome) = true := by rfl) (hks : (backToKw pos (keywordEach kws X.env)).filterMap (·.1) = ps := by rfl)
    (hpl : ((backTo pos (starEach [] X.env)).any (·.1) || (backToKw pos (keywordEach kws X.env)).any (·.1.isNone)) = false := by rfl) :
    PE X (.Call (.Name x pf) [] kws pos) (lift p (wCall F t)) := by
  obtain ⟨f, fd, h1, h2, h3, h4, h5⟩ := D.ex
  exact pd_callK (h5 p.dr) (hr.mono hj) hga h1 h2 h4 ha hK rfl hg hdb hall hks hpl
/-- {} -/
theorem pd_dict0 : PE X (.Dict [] [] pos) (lift p (wC .dic0)) := PE.imp pe_dnewK fun σ H Q ⟨G, s, R, k⟩ q hq => k _ _ _ (Same.upd (R.sub.none hq)) (R.alloc hq) (.dic0 upd_same)
/-- the law's block, where the draws' dict is new -/
def liftSX (K : PySem.W.Frag) (ws : WS) : TS := fun D σ H => ∃ a H0 G0, liftS ⟨K, some a, H0, G0⟩ ws D σ H
theorem pss_SX {sts : List Stmt} {ws : WS} {K : PySem.W.Frag} (h : ∀ a H0 G0, PSs X sts (liftS ⟨K, some a, H0, G0⟩ ws)) : PSs X sts (liftSX K ws) := ⟨fun pins s σ H D I ⟨a, H0, G0, k⟩ => (h a H0 G0).run pins s σ H D I k⟩
end
end DI
/-! What each part asks, as equations. -/
namespace DI
open PySem PySem.Spec PyProof.Rows L2
section
variable {w wa wb wc : W} {t u : WT} {a b v : WS} {ta : WA} {i j l : Nat} {d : D} {E : ED} {s : S} {n : Nat} {env : List Sl}
  {P : D → S → Prop} {PT : Bool → S → Prop} {PA : List D → S → Prop} {PO : Option Int → S → Prop} {c c' : D → D → Prop} {g g' : D → D → Option D}
theorem f_wC : (wC d).f s P = P d s := rfl
theorem f_wVar : (wVar i).f ⟨env, n⟩ P = (match env[i]? with
  | some (.val d) => P d ⟨env, n⟩
  | some (.own ds) => P (.lst ds) ⟨env.set i (.val (.lst ds)), n⟩
  | _ => False) := rfl
theorem f_wBin : (wBin c g wa wb).f s P = wa.f s fun d1 s1 => wb.f s1 fun d2 s2 => c d1 d2 ∧ get (g d1 d2) fun d => P d s2 := rfl
theorem f_wBinV : (wBinV c g i wb).f ⟨env, n⟩ P = get (vget env i) fun _ => wb.f ⟨env, n⟩ fun d2 s2 => get (vget s2.env i) fun d1 => c d1 d2 ∧ get (g d1 d2) fun d => P d s2 := rfl
theorem f_wBinR : (wBinR c g wa i).f s P = wa.f s fun d1 s1 => get (vget s1.env i) fun d2 => c d1 d2 ∧ get (g d1 d2) fun d => P d s1 := rfl
def blD : D → Option Bool
  | .bl b => some b
  | _ => none
def intD : D → Option Int
  | .int b => some b
  | _ => none
theorem bl_eq (d : D) : (match d with | .bl b => some b | _ => none) = blD d := by cases d <;> rfl
theorem int_eq (d : D) : (match d with | .int b => some b | _ => none) = intD d := by cases d <;> rfl
theorem f_wT : (wT w).f s PT = w.f s fun d s1 => get (blD d) fun b => PT b s1 := rfl
theorem f_wChain : (wChain c c' g g' wa wb wc).f s P = wa.f s fun d1 s1 => wb.f s1 fun d2 s2 => c d1 d2 ∧ get (g d1 d2) fun z => get (blD z) fun k => if k = true then wc.f s2 fun d3 s3 => c' d2 d3 ∧ get (g' d2 d3) fun y => P y s3 else P (.bl false) s2 := rfl
end
section
theorem f_wTru {w : W} {s P} : (wTru w).f s P = (w.f s fun d s1 => cTru d ∧ get (truD d) fun b => P b s1) := rfl
theorem f_wTruV {i : Nat} {s P} : (wTruV i).f s P = (get (vget s.env i) fun d => cTru d ∧ get (truD d) fun b => P b s) := rfl
theorem f_tAnd {t u : WT} {s P} : (tAndD t u).f s P = (t.f s fun b s1 => if b = true then u.f s1 P else P false s1) := rfl
theorem f_tOr {t u : WT} {s P} : (tOrD t u).f s P = (t.f s fun b s1 => if b = true then P true s1 else u.f s1 P) := rfl
theorem f_tNot {t : WT} {s P} : (tNotD t).f s P = (t.f s fun b s1 => P (!b) s1) := rfl
theorem f_andV {wa wb : W} {s P} : (wAndV wa wb).f s P = (wa.f s fun d s1 => get (blD d) fun b => if b = true then wb.f s1 P else P (.bl false) s1) := rfl
theorem f_orV {wa wb : W} {s P} : (wOrV wa wb).f s P = (wa.f s fun d s1 => get (blD d) fun b => if b = true then P (.bl true) s1 else wb.f s1 P) := rfl
theorem f_notV {wa : W} {s P} : (wNotV wa).f s P = (wa.f s fun d s1 => get (blD d) fun b => P (.bl (!b)) s1) := rfl
theorem f_if {t : WT} {wa wb : W} {s P} : (wIf t wa wb).f s P = (t.f s fun b s1 => if b = true then wa.f s1 P else wb.f s1 P) := rfl
theorem f_noPart {s P} : wNoPart.f s P = (P none s) := rfl
theorem f_part {w : W} {s P} : (wPart w).f s P = (w.f s fun d s1 => get (intD d) fun i => P (some i) s1) := rfl
theorem f_sl {wa : W} {lo hi : WO} {s P} : (wSl wa lo hi).f s P = (wa.f s fun d s1 => lo.f s1 fun l s2 => hi.f s2 fun h s3 => cSl d ∧ get (gSl d l h) fun z => P z s3) := rfl
theorem f_slV {i : Nat} {lo hi : WO} {s P} : (wSlV i lo hi).f s P = (get (vget s.env i) fun _ => lo.f s fun l s2 => hi.f s2 fun h s3 => get (vget s3.env i) fun d => cSl d ∧ get (gSl d l h) fun z => P z s3) := rfl
theorem f_nil {s P} : waNil.f s P = (P [] s) := rfl
theorem f_cons {w : W} {t : WA} {s P} : (waCons w t).f s P = (w.f s fun d s1 => t.f s1 fun ds s2 => P (d :: ds) s2) := rfl
theorem f_bor {i : Nat} {t : WA} {s P} : (waBor i t).f s P = (get (vget s.env i) fun _ => t.f s fun ds s2 => get (vget s2.env i) fun d => P (d :: ds) s2) := rfl
theorem f_tup {t : WA} {s P} : (wTup t).f s P = (t.f s fun ds s1 => ds.length ≤ sizeLine ∧ P (.tup ds) s1) := rfl
theorem f_lst {t : WA} {s P} : (wLst t).f s P = (t.f s fun ds s1 => ds.length ≤ sizeLine ∧ P (.lst ds) s1) := rfl
theorem f_fn {c : List D → Prop} {g : List D → Option D} {t : WA} {s P} : (wFn c g t).f s P = (t.f s fun ds s1 => c ds ∧ get (g ds) fun d => P d s1) := rfl
theorem f_isi {T : String} {w : W} {s P} : (wIsi T w).f s P = (w.f s fun d s1 => get (gIsi T d) fun z => P z s1) := rfl
theorem f_mt {c : Str → D → Prop} {g : Str → D → Option D} {wa wb : W} {s P} : (wMt c g wa wb).f s P = (wa.f s fun d1 s1 => get (strD d1) fun z => wb.f s1 fun d2 s2 => c z d2 ∧ get (g z d2) fun d => P d s2) := rfl
theorem f_call {F : FT} {t : WA} {s P} : (wCall F t).f s P = (t.f s fun ds s1 => F.f ds s1.n fun d m => P d { s1 with n := m }) := rfl
theorem f_next {E s} : wNext.f E s = (E.nx s) := rfl
theorem f_seq {u v : WS} {E s} : (wSeq u v).f E s = (u.f { E with nx := v.f E } s) := rfl
theorem f_break {E s} : wBreak.f E s = (E.bk s) := rfl
theorem f_cont {E s} : wCont.f E s = (E.ct s) := rfl
theorem f_drop {w : W} {E s} : (wDrop w).f E s = (w.f s fun _ s1 => E.nx s1) := rfl
theorem f_ret {w : W} {E s} : (wRet w).f E s = (w.f s fun d s1 => E.rt d s1) := rfl
theorem f_retN {E s} : wRetN.f E s = (E.rt .non s) := rfl
theorem f_ifS {t : WT} {u v : WS} {E s} : (wIfS t u v).f E s = (t.f s fun b s1 => if b = true then u.f E s1 else v.f E s1) := rfl
theorem f_set {i : Nat} {w : W} {E s} : (wSet i w).f E s = (w.f s fun d s1 => i < s1.env.length ∧ E.nx { s1 with env := s1.env.set i (.val d) }) := rfl
theorem f_ofL {w : WA} {s P} : (wOfL w).f s P = (w.f s fun ds s1 => P (.lst ds) s1) := rfl
theorem f_sz {t : WA} {s P} : (wsz t).f s P = (t.f s fun ds s1 => ds.length ≤ sizeLine ∧ P ds s1) := rfl
theorem f_own {i : Nat} {t : WA} {E s} : (wOwn i t).f E s = (t.f s fun ds s1 => i < s1.env.length ∧ E.nx { s1 with env := s1.env.set i (.own ds) }) := rfl
theorem f_par {i j : Nat} {t : WA} {E s} : (wPar i j t).f E s = (t.f s fun ds s1 => ∃ d1 d2, ds = [d1, d2] ∧ i < s1.env.length ∧ j < s1.env.length ∧ E.nx { s1 with env := (s1.env.set i (.val d1)).set j (.val d2) }) := rfl
theorem f_par3 {i j l : Nat} {t : WA} {E s} : (wPar3 i j l t).f E s = (t.f s fun ds s1 => ∃ d1 d2 d3, ds = [d1, d2, d3] ∧ i < s1.env.length ∧ j < s1.env.length ∧ l < s1.env.length ∧ E.nx { s1 with env := ((s1.env.set i (.val d1)).set j (.val d2)).set l (.val d3) }) := rfl
theorem f_asgT {g : D → List Sl → Option (List Sl)} {w : W} {E s} : (wAsgT g w).f E s = (w.f s fun d s1 => get (g d s1.env) fun env' => E.nx { s1 with env := env' }) := rfl
theorem f_iL {w : W} {s P} : (wiL w).f s P = (w.f s fun d s1 => get (lstD d) fun ds => P ds s1) := rfl
theorem f_iT {w : W} {s P} : (wiT w).f s P = (w.f s fun d s1 => get (tupD d) fun ds => P ds s1) := rfl
theorem f_iS {w : W} {s P} : (wiS w).f s P = (w.f s fun d s1 => get (strD d) fun z => P (chrs z) s1) := rfl
theorem f_iR1 {t : WA} {s P} : (wiR1 t).f s P = (t.f s fun ds s1 => ∃ j, ds = [.int j] ∧ -(2 ^ 62) ≤ j ∧ j < 2 ^ 62 ∧ P (rngD 0 j.toNat) s1) := rfl
theorem f_for {wi : WI} {g : D → List Sl → Option (List Sl)} {tb : WS} {E s} : (wForS wi g tb).f E s = (wi.f s fun ds s1 => forW g tb E ds s1) := rfl
theorem f_lc {wi : WI} {ge : D → List Sl → Option (List Sl)} {vs : List Nat} {tt : WT} {te : W} {s P} : (wLc wi ge vs tt te).f s P = (wi.f s fun ds s1 => lcGo ge vs tt te s1.env ds [] s1.n fun acc n => P acc { s1 with n := n }) := rfl
theorem f_yes {s P} : wtYes.f s P = (P true s) := rfl
theorem f_dgL {i : Nat} {s P} : (wDgL i).f s P = (vget s.env i = some .drw ∧ ∀ l : Int, P (.int l) s) := rfl
theorem f_dgA {i : Nat} {s P} : (wDgA i).f s P = (vget s.env i = some .drw ∧ ∀ l : Int, 0 ≤ l → l ≤ s.n → P (.int l) s) := rfl
theorem f_dgC {i : Nat} {s P} : (wDgC i).f s P = (vget s.env i = some .drw ∧ ∀ ns : List Int, 0 < ns.length → ns.length ≤ 64 → P (.lst (ns.map D.int)) s) := rfl
theorem f_dpL {i : Nat} {w : W} {E s} : (wDpL i w).f E s = (w.f s fun d s1 => vget s1.env i = some .drw ∧ ∃ (y : Int) (m : Nat), d = .int y ∧ s1.n ≤ m ∧ E.nx { s1 with n := m }) := rfl
theorem f_dpA {i : Nat} {w : W} {E s} : (wDpA i w).f E s = (w.f s fun d s1 => vget s1.env i = some .drw ∧ ∃ (y : Int), d = .int y ∧ 0 ≤ y ∧ y ≤ s1.n + 1 ∧ E.nx { s1 with n := s1.n + 1 }) := rfl
theorem f_app {i : Nat} {w : W} {E s} : (wApp i w).f E s = (get (ownE s.env i) fun _ => w.f s fun d s1 => get (ownE s1.env i) fun ds => ds.length < sizeLine ∧ E.nx { s1 with env := s1.env.set i (.own (ds ++ [d])) }) := rfl
theorem f_pop {i : Nat} {s P} : (wPop i).f s P = (get (ownE s.env i) fun ds => get ds[ds.length - 1]? fun d => P d { s with env := s.env.set i (.own ds.dropLast) }) := rfl
end
theorem get_if {α : Type} {c : Prop} [Decidable c] {x y : Option α} {P : α → Prop} : get (if c then x else y) P = if c then get x P else get y P := by split <;> rfl
theorem env0 {n : Nat} {ms : List Bool} {d : D} {ds : List D} : initE n (false :: ms) (d :: ds) = .val d :: initE (n - 1) ms ds := by
  show initSl false d :: _ = _
  cases d <;> rfl
theorem env1 {n : Nat} : initE n [] [] = List.replicate n .emp := rfl
theorem bl_bl {b : Bool} : blD (.bl b) = some b := rfl
theorem int_int {b : Int} : intD (.int b) = some b := rfl
theorem str_str {b : Str} : strD (.str b) = some b := rfl
theorem gNm_lt {i : Nat} {d : D} {env : List Sl} (h : i < env.length) : gNm i d env = some (env.set i (.val d)) := if_pos h
end DI
namespace K02
open PySem PySem.Spec PyProof.Rows L2 DI
def top (i : Nat) : Stmt := PySem.Challenge.pw_bookpack_k02_ids_links_and_tokens.main.body.getD i (.Pass ⟨0, 0, 0, 0⟩)
structure Txt (K : PySem.W.Frag) (mg : Str → Option Value) : Prop where
  isinstance : mg "isinstance" = none
  len : mg "len" = none
  all : mg "all" = none
  ord : mg "ord" = none
  str : mg "str" = none
  tuple : mg "tuple" = none
  list : mg "list" = none
  int : mg "int" = none
  range : mg "range" = none
  min : mg "min" = none
  repr : mg "repr" = none
structure Cn (K : PySem.W.Frag) (mg : Str → Option Value) : Prop where
  BOX_KINDS : Gc K mg "BOX_KINDS" (.tup [.str "section", .str "quote", .str "list", .str "item"])
  LINE_KINDS : Gc K mg "LINE_KINDS" (.tup [.str "head1", .str "head2", .str "head3", .str "para"])
  _LETTERS : Gc K mg "_LETTERS" (.str "abcdefghijklmnopqrstuvwxyz")
  _LETTERS_AND_DIGITS : Gc K mg "_LETTERS_AND_DIGITS" (.str "abcdefghijklmnopqrstuvwxyz0123456789")
  _PERCENT : Gc K mg "_PERCENT" (.int 37)
  _STYLE_ROWS : Gc K mg "_STYLE_ROWS" (.tup [.tup [], .tup [.str "code"], .tup [.str "slant"], .tup [.str "strong"], .tup [.str "code", .str "slant"], .tup [.str "code", .str "strong"], .tup [.str "slant", .str "strong"], .tup [.str "code", .str "slant", .str "strong"]])
theorem kit_str {K : PySem.W.Frag} : KitT K "str" := kit_all K (by intro t ht; simp only [List.mem_cons, List.not_mem_nil, or_false] at ht; rcases ht with h | h | h | h | h | h | h <;> subst h <;> rfl)
theorem kit_tuple {K : PySem.W.Frag} : KitT K "tuple" := kit_all K (by intro t ht; simp only [List.mem_cons, List.not_mem_nil, or_false] at ht; rcases ht with h | h | h | h | h | h | h <;> subst h <;> rfl)

/-! ### what the defs say, on data -/
def loC (c : Nat) : Bool := decide (97 ≤ c) && decide (c ≤ 122)
def ldC (c : Nat) : Bool := loC c || (decide (48 ≤ c) && decide (c ≤ 57))
def headB (f : Nat → Bool) : List Nat → Bool
  | c :: _ => f c
  | [] => false
def idL (l : List Nat) : Bool := decide (1 ≤ l.length) && decide (l.length ≤ 16) && headB loC l && l.all ldC
def idB : D → Bool
  | .str z => idL z.cps.toList
  | _ => false
/-- a text of signs that there are, without the percent sign -/
def okZ (z : Str) : Prop := PyData.strOk z = true ∧ ¬ 37 ∈ z.cps.toList
/-- what a function of one value is asked of -/
structure OkS (d : D) : Prop where
  nd : tyD d ≠ none
  st : ∀ z, d = .str z → z.length ≤ 1000
  ok : ∀ z, d = .str z → okZ z
def fB (c : D → Prop) (g : D → Bool) : FT := ⟨fun ds n Q => ∃ d, ds = [d] ∧ c d ∧ Q (.bl (g d)) n, fun ds n P P' h ⟨d, e, k, q⟩ => ⟨d, e, k, h _ _ q⟩⟩
def F_is_id : FT := fB OkS idB
/-! ### comprehensions -/
section
variable {ge : D → List Sl → Option (List Sl)} {vs : List Nat} {te : W} {tt : WT} {env : List Sl}
theorem lcGo_map {g : D → D} {n : Nat} {P : List D → Nat → Prop} : ∀ (ds acc : List D), (∀ d ∈ ds, ∀ P : D → S → Prop, (∀ s, s.n = n → P (g d) s) → get (ge d (innE vs env)) fun env' => te.f ⟨env', n⟩ P) → acc.length + ds.length ≤ sizeLine → P (acc ++ ds.map g) n → lcGo ge vs wtYes te env ds acc n P
  | [], acc, _, _, q => by
    show P acc n
    simpa using q
  | d :: ds, acc, h, hz, q => by
    have k := h d List.mem_cons_self (fun y s2 => acc.length < sizeLine ∧ lcGo ge vs wtYes te env ds (acc ++ [y]) s2.n P) (fun s e => by
      rw [e]
      refine ⟨by simp only [List.length_cons] at hz; omega, lcGo_map ds _ (fun d' hd => h d' (List.mem_cons_of_mem _ hd)) (by simp only [List.length_append, List.length_cons, List.length_nil] at hz ⊢; omega) (by simpa using q)⟩)
    exact get_mono (fun env' q => by
      simp only [wtYes, if_true]
      exact q) k
theorem lcGo_filter {b : D → Bool} {g : D → D} {n : Nat} {P : List D → Nat → Prop} : ∀ (ds acc : List D), (∀ d ∈ ds, ∀ (Q : Bool → S → Prop), (∀ s, s.n = n → (b d = true → ∀ P : D → S → Prop, (∀ s', s'.n = n → P (g d) s') → te.f s P) → Q (b d) s) → get (ge d (innE vs env)) fun env' => tt.f ⟨env', n⟩ Q) → acc.length + ds.length ≤ sizeLine → P (acc ++ (ds.filter b).map g) n → lcGo ge vs tt te env ds acc n P
  | [], acc, _, _, q => by
    show P acc n
    simpa using q
  | d :: ds, acc, h, hz, q => by
    refine h d List.mem_cons_self _ fun s e k => ?_
    have hz' : acc.length < sizeLine := by simp only [List.length_cons] at hz; omega
    cases hb : b d with
    | true =>
      rw [if_pos rfl]
      refine k hb _ fun s' e' => ⟨hz', ?_⟩
      rw [e']
      exact lcGo_filter ds _ (fun d' hd => h d' (List.mem_cons_of_mem _ hd)) (by simp only [List.length_append, List.length_cons, List.length_nil] at hz ⊢; omega) (by simpa [List.filter_cons, hb] using q)
    | false =>
      rw [if_neg (by simp)]
      rw [e]
      exact lcGo_filter ds _ (fun d' hd => h d' (List.mem_cons_of_mem _ hd)) (by simp only [List.length_cons] at hz; omega) (by simpa [List.filter_cons, hb] using q)
/-- drawn things -/
theorem lcGo_draw {R : D → Prop} {c N : Nat} {P : List D → Nat → Prop} : ∀ (ds acc : List D) (n : Nat), (∀ d ∈ ds, ∀ n, n ≤ N → ∀ P : D → S → Prop, (∀ y s, R y → n ≤ s.n → s.n ≤ n + c → P y s) → get (ge d (innE vs env)) fun env' => te.f ⟨env', n⟩ P) → acc.length + ds.length ≤ sizeLine → n + c * ds.length ≤ N →
    (∀ ys m, ys.length = ds.length → (∀ y ∈ ys, R y) → n ≤ m → m ≤ n + c * ds.length → P (acc ++ ys) m) → lcGo ge vs wtYes te env ds acc n P
  | [], acc, n, _, _, _, q => by
    have z := q [] n rfl (fun _ h => nomatch h) (Nat.le_refl _) (by simp)
    rw [List.append_nil] at z
    exact z
  | d :: ds, acc, n, h, hz, hn, q => by
    simp only [List.length_cons, Nat.mul_add, Nat.mul_one] at hn hz
    have k := h d List.mem_cons_self n (by omega) (fun y s2 => acc.length < sizeLine ∧ lcGo ge vs wtYes te env ds (acc ++ [y]) s2.n P) (fun y s hy h1 h2 => by
      refine ⟨by omega, lcGo_draw ds _ _ (fun d' hd => h d' (List.mem_cons_of_mem _ hd)) (by simp only [List.length_append, List.length_cons, List.length_nil]; omega) (by omega) fun ys m e1 e2 e3 e4 => ?_⟩
      have z := q (y :: ys) m (by simp [e1]) (fun x hx => by
        cases List.mem_cons.mp hx with
        | inl e => rw [e]; exact hy
        | inr e => exact e2 x e) (by omega) (by simp only [List.length_cons, Nat.mul_add, Nat.mul_one]; omega)
      simpa using z)
    exact get_mono (fun env' q => by
      simp only [wtYes, if_true]
      exact q) k
end
abbrev S26 : Str := "abcdefghijklmnopqrstuvwxyz"
abbrev S36 : Str := "abcdefghijklmnopqrstuvwxyz0123456789"
theorem in26 (c : Nat) : inStr ⟨#[c]⟩ S26 = loC c := by
  unfold inStr loC
  rw [StrLaws.found_one]
  have e : S26.cps.toList = [97, 98, 99, 100, 101, 102, 103, 104, 105, 106, 107, 108, 109, 110, 111, 112, 113, 114, 115, 116, 117, 118, 119, 120, 121, 122] := by decide +kernel
  rw [e]
  simp only [List.mem_cons, List.not_mem_nil, or_false, ← Bool.decide_and]
  exact decide_eq_decide.mpr (by omega)
theorem in36 (c : Nat) : inStr ⟨#[c]⟩ S36 = ldC c := by
  unfold inStr ldC loC
  rw [StrLaws.found_one]
  have e : S36.cps.toList = [97, 98, 99, 100, 101, 102, 103, 104, 105, 106, 107, 108, 109, 110, 111, 112, 113, 114, 115, 116, 117, 118, 119, 120, 121, 122, 48, 49, 50, 51, 52, 53, 54, 55, 56, 57] := by decide +kernel
  rw [e]
  simp only [List.mem_cons, List.not_mem_nil, or_false, ← Bool.decide_and, ← Bool.decide_or]
  exact decide_eq_decide.mpr (by omega)
theorem blsOf_map {α : Type} (f : α → Bool) : ∀ l : List α, blsOf (l.map fun x => D.bl (f x)) = some (l.map f)
  | [] => rfl
  | a :: l => by
    show (blsOf (l.map fun x => D.bl (f x))).map (f a :: ·) = _
    rw [blsOf_map f l]
    rfl
theorem slen (z : Str) : z.length = z.cps.toList.length := by show z.cps.size = _; simp
theorem line1000 : (1000 : Nat) ≤ sizeLine := by decide
theorem atI0 {α : Type} (a : α) (l : List α) : atI (a :: l) 0 = some a := by
  unfold atI ixN
  simp
theorem chrs_eq (z : Str) : chrs z = z.cps.toList.map fun c => .str ⟨#[c]⟩ := rfl
theorem all_map' {α : Type} (f : α → Bool) (l : List α) : (l.map f).all (fun b => b) = l.all f := by
  rw [List.all_map]
  rfl
/-- one sign is compared -/
theorem le_one (a b : Nat) : strLt ⟨#[a]⟩ ⟨#[b]⟩ = decide (a < b) := by
  unfold strLt
  refine decide_eq_decide.mpr ?_
  rw [List.cons_lt_cons_iff]
  simp
def plC (c : Nat) : Bool := decide (32 ≤ c) && decide (c ≤ 126) && decide (c ≠ 37)
/-- one sign -/
def F__is_plain : FT := ⟨fun ds n Q => ∃ c, ds = [.str ⟨#[c]⟩] ∧ Q (.bl (plC c)) n, fun ds n P P' h ⟨d, e, q⟩ => ⟨d, e, h _ _ q⟩⟩
def boxes : List Str := ["section", "quote", "list", "item"]
def lines : List Str := ["head1", "head2", "head3", "para"]
theorem eqD_str (x y : Str) : eqD (.str x) (.str y) = decide (x = y) := by
  unfold eqD
  simp only [toPy, PyData.eqv]
  by_cases h : x = y
  · subst h
    simp
  · simp [h]
theorem inD_strs (x : Str) : ∀ ys : List Str, inD (.str x) (ys.map D.str) = decide (x ∈ ys)
  | [] => rfl
  | y :: ys => by
    have h := inD_strs x ys
    unfold inD at h ⊢
    rw [List.map_cons, List.any_cons, h, eqD_str]
    by_cases e : y = x
    · subst e
      simp
    · have e' : ¬ x = y := fun z => e z.symm
      simp [e, e']
def kindD : D → D
  | .str x => if x ∈ boxes then .str "box" else if x ∈ lines then .str "line" else .non
  | _ => .non
def F_sort_of : FT := ⟨fun ds n Q => ∃ d, ds = [d] ∧ OkS d ∧ Q (kindD d) n, fun ds n P P' h ⟨d, e, k, q⟩ => ⟨d, e, k, h _ _ q⟩⟩
def rows : List (List Str) := [[], ["code"], ["slant"], ["strong"], ["code", "slant"], ["code", "strong"], ["slant", "strong"], ["code", "slant", "strong"]]
/-- a tuple that is asked after is one of texts -/
structure OkT (d : D) : Prop where
  s : OkS d
  t : ∀ es, d = .tup es → ∃ zs : List Str, es = zs.map D.str ∧ zs.length ≤ 20 ∧ ∀ z ∈ zs, PyData.strOk z = true
def tupS (zs : List Str) : D := .tup (zs.map D.str)
def stylB : D → Bool
  | .tup es => inD (.tup es) (rows.map tupS)
  | _ => false
def F__are_styles : FT := fB OkT stylB
def outL (l : List Nat) : Bool := decide (1 ≤ l.length) && decide (l.length ≤ 20) && l.all fun c => plC c && !decide (c ∈ ([32, 60, 62, 38] : List Nat))
def linkL (z : Str) : Bool := if Txt.startswith z "out:" then outL (cutS z (some 4) none).cps.toList else idL (Txt.partition z "#").1.cps.toList && idL (Txt.partition z "#").2.2.cps.toList
def linkB : D → Bool
  | .str z => linkL z
  | _ => false
def F_is_link : FT := fB OkS linkB
def signB : D → Bool
  | .str z => match z.cps.toList with
    | [c] => plC c
    | _ => false
  | _ => false
def nonD : D → Bool
  | .non => true
  | _ => false
def charB (c s l : D) : Bool := signB c && stylB s && (nonD l || linkB l)
def F__is_char : FT := ⟨fun ds n Q => ∃ c s l, ds = [c, s, l] ∧ OkS c ∧ OkT s ∧ OkS l ∧ Q (.bl (charB c s l)) n, fun ds n P P' h ⟨c, s, l, e, h1, h2, h3, q⟩ => ⟨c, s, l, e, h1, h2, h3, h _ _ q⟩⟩
/-- what is asked whether it is a token -/
structure OkK (d : D) : Prop where
  s : OkS d
  t : ∀ es, d = .tup es → es.length ≤ 20 ∧ ∀ e ∈ es, OkT e
def kinB (d : D) : Bool := !isNon (kindD d)
def tokB : D → Bool
  | .tup (.str x :: es) => if x = "char" then (match es with | [c, s, l] => charB c s l | _ => false) else match es with
    | [y] => if x = "open" ∨ x = "close" then kinB y else (decide (x = "anchor") || decide (x = "image")) && idB y
    | _ => false
  | _ => false
def F_is_token : FT := fB OkK tokB
def F__law_next : FT := fNext
def F__law_mixed : FT := fMix
theorem ch_sp : (" " : Str) = ⟨#[32]⟩ := by decide +kernel
theorem ch_ti : ("~" : Str) = ⟨#[126]⟩ := by decide +kernel
theorem ch_a : ("a" : Str) = ⟨#[97]⟩ := by decide +kernel
theorem ch_z : ("z" : Str) = ⟨#[122]⟩ := by decide +kernel
theorem ch_0 : ("0" : Str) = ⟨#[48]⟩ := by decide +kernel
theorem ch_9 : ("9" : Str) = ⟨#[57]⟩ := by decide +kernel
theorem ch_ex : ("!" : Str) = ⟨#[33]⟩ := by decide +kernel
theorem eqD_int (x y : Int) : eqD (.int x) (.int y) = decide (x = y) := by
  unfold eqD
  simp only [toPy, PyData.eqv]
  by_cases h : x = y
  · subst h
    simp
  · simp [h]
theorem plainA_strs : ∀ zs : List Str, plainA (zs.map D.str) = true
  | [] => rfl
  | z :: zs => by
    rw [List.map_cons]
    simp only [plainA, DI.plain, plainA_strs zs, Bool.true_and]
theorem lay_strs : ∀ zs : List Str, (∀ z ∈ zs, PyData.strOk z = true) → PyData.canLayAll0 (toPyA (zs.map D.str)) = true
  | [], _ => by simp only [List.map_nil, toPyA, PyData.canLayAll0]
  | z :: zs, h => by
    rw [List.map_cons]
    simp only [toPyA, toPy, PyData.canLayAll0, PyData.canLay0, h z List.mem_cons_self, lay_strs zs (fun y hy => h y (List.mem_cons_of_mem _ hy)), Bool.true_and]
theorem depth_strs : ∀ zs : List Str, PyData.depthAll (toPyA (zs.map D.str)) = 0
  | [] => by simp only [List.map_nil, toPyA, PyData.depthAll]
  | z :: zs => by
    rw [List.map_cons]
    simp [toPyA, toPy, PyData.depthAll, PyData.depth, depth_strs zs]
theorem shp_tupS (zs : List Str) (h : ∀ z ∈ zs, PyData.strOk z = true) : shp (.tup (zs.map D.str)) := by
  refine ⟨by simp only [DI.plain, plainA_strs], ?_⟩
  unfold SeqAt.shaped
  simp only [toPy, PyData.canLay0, lay_strs zs h, PyData.depth, depth_strs]
  rfl
theorem rows_eq : [D.tup [], .tup [.str "code"], .tup [.str "slant"], .tup [.str "strong"], .tup [.str "code", .str "slant"], .tup [.str "code", .str "strong"], .tup [.str "slant", .str "strong"], .tup [.str "code", .str "slant", .str "strong"]] = rows.map tupS := rfl
theorem shp_rows : shp (.tup (rows.map tupS)) := ⟨by decide +kernel, by decide +kernel⟩
theorem shp_rowsL : shp (.lst (rows.map tupS)) := ⟨by decide +kernel, by decide +kernel⟩
theorem one_of {z : Str} (h : z.length = 1) : ∃ c, z = ⟨#[c]⟩ := by
  obtain ⟨a⟩ := z
  obtain ⟨l⟩ := a
  cases l with
  | nil => cases h
  | cons c l =>
    cases l with
    | nil => exact ⟨c, rfl⟩
    | cons d l => simp [Str.length] at h
theorem signB_of {z : Str} (h : z.length ≠ 1) : signB (.str z) = false := by
  obtain ⟨a⟩ := z
  obtain ⟨l⟩ := a
  cases l with
  | nil => rfl
  | cons c l =>
    cases l with
    | nil => exact absurd rfl h
    | cons d l => rfl
theorem signB_one (c : Nat) : signB (.str ⟨#[c]⟩) = plC c := rfl
theorem in4 (c : Nat) : inStr ⟨#[c]⟩ " <>&" = decide (c ∈ ([32, 60, 62, 38] : List Nat)) := by
  unfold inStr
  rw [StrLaws.found_one]
  have e : (" <>&" : Str).cps.toList = [32, 60, 62, 38] := by decide +kernel
  rw [e]
theorem cutS_len (z : Str) (lo hi : Option Int) : (cutS z lo hi).cps.toList.length ≤ z.length := by
  unfold cutS
  simp only [List.length_take, List.length_drop, slen]
  omega
theorem app_len (a b : Str) : (a ++ b).length = a.length + b.length := by
  show (a.cps ++ b.cps).size = _
  rw [Array.size_append]
  rfl
theorem part_len {z a b c : Str} (h : a ++ b ++ c = z) : a.length ≤ z.length ∧ c.length ≤ z.length := by
  have e := congrArg Str.length h
  rw [app_len, app_len] at e
  omega
theorem okS_str {z : Str} (h : z.length ≤ 1000) (k : okZ z) : OkS (.str z) := OkS.mk (fun z => nomatch z) (fun y e => by cases e; exact h) (fun y e => by cases e; exact k)
theorem app_ok (a b : Str) : PyData.strOk (a ++ b) = (PyData.strOk a && PyData.strOk b) := by
  show (a.cps ++ b.cps).all _ = _
  rw [Array.all_append]
  rfl
theorem app_cps (a b : Str) : (a ++ b).cps.toList = a.cps.toList ++ b.cps.toList := by
  show (a.cps ++ b.cps).toList = _
  rw [Array.toList_append]
theorem okZ_app {a b : Str} : okZ (a ++ b) ↔ okZ a ∧ okZ b := by
  unfold okZ
  rw [app_ok, app_cps, Bool.and_eq_true, List.mem_append]
  constructor
  · rintro ⟨⟨h1, h2⟩, h3⟩
    exact ⟨⟨h1, fun z => h3 (.inl z)⟩, h2, fun z => h3 (.inr z)⟩
  · rintro ⟨⟨h1, h3⟩, h2, h4⟩
    exact ⟨⟨h1, h2⟩, fun z => z.elim h3 h4⟩
theorem part_ok {z a b c : Str} (h : a ++ b ++ c = z) (k : okZ z) : okZ a ∧ okZ c := by
  rw [← h, okZ_app, okZ_app] at k
  exact ⟨k.1.1, k.2⟩
theorem ok_list (z : Str) : PyData.strOk z = z.cps.toList.all fun c => decide (c < 1114112) := by
  show z.cps.all _ = _
  rw [← Array.all_toList]
theorem ok_one (c : Nat) : PyData.strOk ⟨#[c]⟩ = decide (c < 1114112) := by
  rw [ok_list]
  simp
theorem shp_lstS (zs : List Str) (h : ∀ z ∈ zs, PyData.strOk z = true) : shp (.lst (zs.map D.str)) := by
  refine ⟨by simp only [DI.plain, plainA_strs], ?_⟩
  unfold SeqAt.shaped
  simp only [toPy, PyData.canLay0, lay_strs zs h, PyData.depth, depth_strs]
  rfl
theorem eqD_nil (zs : List Str) : eqD (.lst (zs.map D.str)) (.lst []) = zs.isEmpty := by
  unfold eqD
  cases zs with
  | nil => simp [toPy, toPyA, PyData.eqv, PyData.eqvAll]
  | cons z zs => simp [toPy, toPyA, PyData.eqv, PyData.eqvAll]
theorem loC_law (c : Nat) : (!strLt ⟨#[c]⟩ "a" && !strLt "z" ⟨#[c]⟩) = loC c := by
  rw [ch_a, ch_z, le_one, le_one]
  unfold loC
  rw [← decide_not, ← decide_not]
  congr 1
  · exact decide_eq_decide.mpr (by omega)
  · exact decide_eq_decide.mpr (by omega)
theorem dgC_law (c : Nat) : (!strLt ⟨#[c]⟩ "0" && !strLt "9" ⟨#[c]⟩) = (decide (48 ≤ c) && decide (c ≤ 57)) := by
  rw [ch_0, ch_9, le_one, le_one]
  rw [← decide_not, ← decide_not]
  congr 1
  · exact decide_eq_decide.mpr (by omega)
  · exact decide_eq_decide.mpr (by omega)
def F__law_is_id : FT := fB OkS idB
theorem isi_str (d : D) (h : ∀ z, d ≠ .str z) {t : String} (e : tyD d = some t) : isT "str" t = false := by
  cases d <;> cases e <;> first | rfl | exact absurd rfl (h _)
theorem len20 {n : Nat} (h : n ≤ 20) : n ≤ sizeLine := Nat.le_trans h (by decide)
theorem cm_mod {a b m : Int} (h0 : 0 < m) (h1 : m ≤ 2 ^ 64) : CMul (a % m) b := by
  have h2 := Int.emod_nonneg a (Int.ne_of_gt h0)
  have h3 := Int.emod_lt_of_pos a h0
  exact .inl ⟨by omega, by omega⟩
theorem atI_lt {α : Type} {xs : List α} {i : Int} (h0 : 0 ≤ i) (h1 : i < (xs.length : Int)) : ∃ a, atI xs i = some a ∧ a ∈ xs := by
  have h2 : i.toNat < xs.length := by omega
  refine ⟨xs[i.toNat], ?_, List.getElem_mem h2⟩
  unfold atI ixN
  have e : (if i < 0 then i + (xs.length : Int) else i) = i := if_neg (by omega)
  simp [h0, h1, h2]
  try omega

abbrev hash : Str := "#"
theorem ch_hash : hash = ⟨#[35]⟩ := by decide +kernel
theorem zsz (z : Str) : z.length = z.cps.size := rfl
theorem At_hash (z : Str) (i : Nat) : StrLaws.At z hash z.length i ↔ z.cps.toList[i]? = some 35 := by
  rw [ch_hash]
  unfold StrLaws.At Builtin.Str.subAt
  show i + 1 ≤ z.cps.size ∧ (z.cps.extract i (i + 1) == #[35]) = true ↔ _
  constructor
  · rintro ⟨h1, h2⟩
    have h3 : i < z.cps.size := h1
    have h4 : z.cps.extract i (i + 1) = #[35] := by simpa using h2
    have h5 : (z.cps.extract i (i + 1))[0]? = some 35 := by rw [h4]; rfl
    rw [Array.getElem?_extract] at h5
    have h6 : 0 < min (i + 1) z.cps.size - i := by omega
    rw [if_pos h6] at h5
    simpa using h5
  · intro h
    have h1 : i < z.cps.size := by
      have := (List.getElem?_eq_some_iff.mp h).1
      simpa using this
    refine ⟨h1, ?_⟩
    have e : z.cps.extract i (i + 1) = #[35] := by
      apply Array.ext
      · simp; omega
      · intro k k1 k2
        have k0 : k = 0 := by simp at k2; omega
        subst k0
        have := (List.getElem?_eq_some_iff.mp h).2
        simpa using this
    rw [e]
    rfl
theorem kind_le (z : Str) : ¬ Builtin.Str.strKind z < Builtin.Str.strKind hash := by
  have e : Builtin.Str.strKind hash = 1 := by decide +kernel
  rw [e]
  unfold Builtin.Str.strKind
  split
  · omega
  · split <;> omega
theorem idL_nil : idL [] = false := rfl
theorem idL_hash {l : List Nat} (h : 35 ∈ l) : idL l = false := by
  unfold idL
  have : l.all ldC = false := by
    rw [List.all_eq_false]
    exact ⟨35, h, by decide⟩
  rw [this, Bool.and_false]
/-- the law's way of telling a link apart is the program's -/
theorem cut_hash (z : Str) : (Txt.count z hash = 1 ∧ Txt.split z hash = [(Txt.partition z hash).1, (Txt.partition z hash).2.2]) ∨ (Txt.count z hash ≠ 1 ∧ (idL (Txt.partition z hash).1.cps.toList && idL (Txt.partition z hash).2.2.cps.toList) = false) := by
  have hl : hash.length = 1 := by decide +kernel
  obtain ⟨f, hc, hf⟩ := StrLaws.occ_tight z hash (Nat.le_of_eq hl.symm)
  unfold Txt.count Txt.split Txt.partition
  rcases StrLaws.occ_head z hash 1 (Nat.le_refl 1) with ⟨e1, n1⟩ | ⟨i, r, e1, a1, n1⟩
  · right
    rcases StrLaws.occ_head z hash (z.length + 1) (by omega) with ⟨e2, n2⟩ | ⟨j, r, e2, a2, n2⟩
    · rw [e1, e2]
      refine ⟨by simp, ?_⟩
      show (idL z.cps.toList && idL []) = false
      rw [idL_nil, Bool.and_false]
    · exact absurd a2 (n1 j)
  · rcases StrLaws.occ_head z hash (z.length + 1) (by omega) with ⟨e2, n2⟩ | ⟨j, s, e2, a2, n2⟩
    · exact absurd a1 (n2 i)
    · have hij : i = j := by
        rcases Nat.lt_trichotomy i j with h | h | h
        · exact absurd a1 (n2 i h)
        · exact h
        · exact absurd a2 (n1 j h)
      subst hij
      rw [e2] at hc
      rw [e1, e2]
      have hi : i + 1 ≤ z.length := by
        have := a1.1
        rw [hl] at this
        exact this
      cases s with
      | nil =>
        left
        refine ⟨by simp, ?_⟩
        rw [if_neg (by
          simp only [Bool.or_eq_true, decide_eq_true_eq, hl]
          rintro (h | h)
          · omega
          · exact kind_le z h), if_neg (by simp)]
        simp [Builtin.Str.partsBetween, hl]
      | cons k s =>
        right
        refine ⟨by simp only [List.length_cons]; omega, ?_⟩
        simp only [StrLaws.ChainG, hl] at hc
        have hk : i + 1 ≤ k := hc.2.2.2.1
        have ak := (At_hash z k).mp hc.2.2.2.2.1
        show (idL _ && idL (Builtin.Str.strSub z (i + hash.length) z.length).cps.toList) = false
        rw [hl]
        have : 35 ∈ (Builtin.Str.strSub z (i + 1) z.length).cps.toList := by
          show 35 ∈ (z.cps.extract (i + 1) z.cps.size).toList
          rw [Array.toList_extract]
          rw [List.mem_iff_getElem?]
          have hk2 : k < z.cps.toList.length := (List.getElem?_eq_some_iff.mp ak).1
          rw [Array.length_toList] at hk2
          refine ⟨k - (i + 1), ?_⟩
          rw [List.extract_eq_take_drop, List.getElem?_take, if_pos (by omega), List.getElem?_drop]
          rw [show i + 1 + (k - (i + 1)) = k from by omega]
          exact ak
        rw [idL_hash this, Bool.and_false]
theorem out_cps : ("out:" : Str).cps = #[111, 117, 116, 58] := by decide +kernel
theorem out_law (z : Str) : decide (cutS z none (some 4) = "out:") = Txt.startswith z "out:" := by
  unfold Txt.startswith Builtin.Str.subAt cutS HT.sIx
  have e : ("out:" : Str).length = 4 := by decide +kernel
  rw [e]
  have key : (cutS z none (some 4) = "out:") ↔ z.cps.toList.take 4 = [111, 117, 116, 58] := by
    unfold cutS HT.sIx
    constructor
    · intro h
      have h2 := congrArg (fun s => s.cps.toList) h
      simp only [out_cps] at h2
      rw [slen] at h2
      simp at h2
      by_cases h4 : 4 ≤ z.cps.size
      · simpa [Nat.min_eq_left h4] using h2
      · rw [Nat.min_eq_right (by omega)] at h2
        rw [List.take_of_length_le (by simp; omega)]
        rw [List.take_of_length_le (by simp)] at h2
        exact h2
    · intro h
      have h4 : 4 ≤ z.cps.toList.length := by
        have := congrArg List.length h
        simp at this
        simp
        omega
      have h5 : (⟨#[111, 117, 116, 58]⟩ : Str) = "out:" := by decide +kernel
      rw [← h5]
      congr 1
      rw [slen]
      simp only [Int.reduceNeg, Int.reduceLT, if_false, Int.reduceToNat]
      rw [Nat.min_eq_left h4]
      simp [h]
  have key2 : ((decide (0 + 4 ≤ z.length) && (z.cps.extract 0 (0 + 4) == ("out:" : Str).cps)) = true) ↔ z.cps.toList.take 4 = [111, 117, 116, 58] := by
    rw [out_cps]
    simp only [Bool.and_eq_true, decide_eq_true_eq, beq_iff_eq]
    constructor
    · rintro ⟨h1, h2⟩
      have h3 := congrArg Array.toList h2
      rw [Array.toList_extract, List.extract_eq_take_drop] at h3
      simpa using h3
    · intro h
      have h4 : 4 ≤ z.cps.toList.length := by
        have := congrArg List.length h
        simp at this
        simp
        omega
      refine ⟨by rw [slen]; omega, ?_⟩
      apply Array.toList_inj.mp
      rw [Array.toList_extract, List.extract_eq_take_drop]
      simpa using h
  rw [Bool.eq_iff_iff, decide_eq_true_eq]
  exact key.trans key2.symm

def F__law_is_link : FT := fB OkS linkB
theorem cutS_ok {z : Str} (lo hi : Option Int) (k : okZ z) : okZ (cutS z lo hi) := by
  unfold okZ at k ⊢
  rw [ok_list] at k ⊢
  have sub : ∀ c, c ∈ (cutS z lo hi).cps.toList → c ∈ z.cps.toList := fun c h => by
    unfold cutS at h
    exact List.mem_of_mem_drop (List.mem_of_mem_take h)
  exact ⟨List.all_eq_true.mpr fun c h => List.all_eq_true.mp k.1 c (sub c h), fun h => k.2 (sub _ h)⟩
theorem in3 (c : Nat) : inStr ⟨#[c]⟩ "<>&" = decide (c ∈ ([60, 62, 38] : List Nat)) := by
  unfold inStr
  rw [StrLaws.found_one]
  have e : ("<>&" : Str).cps.toList = [60, 62, 38] := by decide +kernel
  rw [e]
theorem exti (c : Nat) : (!strLt ⟨#[c]⟩ "!" && !strLt "~" ⟨#[c]⟩) = (decide (33 ≤ c) && decide (c ≤ 126)) := by
  rw [ch_ex, ch_ti, le_one, le_one]
  rw [← decide_not, ← decide_not]
  congr 1
  · exact decide_eq_decide.mpr (by omega)
  · exact decide_eq_decide.mpr (by omega)
def outC (c : Nat) : Bool := plC c && !decide (c ∈ ([32, 60, 62, 38] : List Nat))
theorem outC_law {c : Nat} (h : c ≠ 37) : ((!(!strLt ⟨#[c]⟩ "!" && !strLt "~" ⟨#[c]⟩)) || inStr ⟨#[c]⟩ "<>&") = !outC c := by
  rw [exti, in3]
  unfold outC plC
  rw [Bool.eq_iff_iff]
  simp only [Bool.or_eq_true, Bool.not_eq_true', Bool.and_eq_false_iff, decide_eq_true_eq, decide_eq_false_iff_not, List.mem_cons, List.not_mem_nil, or_false, Bool.not_eq_false']
  omega
theorem filter_all {α : Type} (f : α → Bool) : ∀ m : List α, (m.filter fun c => !f c).isEmpty = m.all f
  | [] => rfl
  | a :: m => by
    have ih := filter_all f m
    rw [List.filter_cons, List.all_cons]
    cases h : f a
    · simp
    · simpa using ih
theorem atI1 {α : Type} (a b : α) (l : List α) : atI (a :: b :: l) 1 = some b := by
  unfold atI ixN
  simp
  rw [if_pos (by omega)]
  rfl
def F__law_is_token : FT := fB OkK tokB
theorem plC_law {c : Nat} (h : c ≠ 37) : (!strLt ⟨#[c]⟩ " " && !strLt "~" ⟨#[c]⟩) = plC c := by
  rw [ch_sp, ch_ti, le_one, le_one]
  unfold plC
  rw [← decide_not, ← decide_not, decide_eq_true h, Bool.and_true]
  congr 1
  · exact decide_eq_decide.mpr (by omega)
  · exact decide_eq_decide.mpr (by omega)
theorem kinB_str (x : Str) : kinB (.str x) = decide (x ∈ boxes ++ lines) := by
  show (!isNon (if x ∈ boxes then .str "box" else if x ∈ lines then .str "line" else .non)) = _
  by_cases h1 : x ∈ boxes
  · rw [if_pos h1]
    simp [h1, isNon]
  · rw [if_neg h1]
    by_cases h2 : x ∈ lines
    · rw [if_pos h2]
      simp [h1, h2, isNon]
    · rw [if_neg h2]
      simp [h1, h2, isNon]
theorem atI2 {α : Type} (a b c : α) (l : List α) : atI (a :: b :: c :: l) 2 = some c := by
  unfold atI ixN
  simp
  rw [if_pos (by omega)]
  rfl
theorem atI3 {α : Type} (a b c d : α) (l : List α) : atI (a :: b :: c :: d :: l) 3 = some d := by
  unfold atI ixN
  simp
  rw [if_pos (by omega)]
  rfl
theorem rowsL_eq : [D.tup [], .tup [.str "code"], .tup [.str "slant"], .tup [.str "strong"], .tup [.str "code", .str "slant"], .tup [.str "code", .str "strong"], .tup [.str "slant", .str "strong"]] ++ [.tup [.str "code", .str "slant", .str "strong"]] = rows.map tupS := rfl
/-- something drawn -/
def fDraw (c : Nat) (R : D → Prop) : FT := ⟨fun ds n Q => ds = [.drw] ∧ n < 2 ^ 50 ∧ ∀ d m, R d → n ≤ m → m ≤ n + c → Q d m, fun ds n P P' h ⟨e, k, q⟩ => ⟨e, k, fun d m r a b => h _ _ (q d m r a b)⟩⟩
/-- a text of at most so many signs -/
def TxtD (k : Nat) (d : D) : Prop := ∃ z, d = .str z ∧ z.length ≤ k ∧ okZ z
def F__law_word : FT := fDraw 60 (TxtD 40)
theorem next_of {b : Int} {n : Nat} {Q : D → Nat → Prop} (h : n < 2 ^ 60) (h0 : 0 < b) (h1 : b < 1073741824) (q : ∀ r : Int, 0 ≤ r → r < b → Q (.int r) (n + 2)) : F__law_next.f [.drw, .int b] n Q := ⟨b, rfl, h, h0, h1, q⟩
instance (z : Str) : Decidable (okZ z) := by unfold okZ; infer_instance
/-- one of a list by a drawn place -/
theorem pick_of {xs : List D} {P : D → Prop} {r : Int} {Q : D → Prop} (h0 : 0 ≤ r) (h1 : r < (xs.length : Int)) (h : ∀ x ∈ xs, P x) (q : ∀ x, P x → Q x) : get (atI xs r) Q := by
  obtain ⟨a, e, m⟩ := atI_lt h0 h1
  rw [e]
  exact q a (h a m)
theorem strsOf_map : ∀ ys : List Str, strsOf (ys.map D.str) = some ys
  | [] => rfl
  | y :: ys => by
    show (strsOf (ys.map D.str)).map (y :: ·) = _
    rw [strsOf_map ys]
    rfl
theorem pick_map {α : Type} {xs : List α} {f : α → D} {P : α → Prop} {r : Int} {Q : D → Prop} (h0 : 0 ≤ r) (h1 : r < (xs.length : Int)) (h : ∀ x ∈ xs, P x) (q : ∀ x, P x → Q (f x)) : get (Option.map f (atI xs r)) Q := by
  obtain ⟨a, e, m⟩ := atI_lt h0 h1
  rw [e]
  exact q a (h a m)
/-- a drawn sign of a written text -/
theorem pick_sign {z : Str} {r : Int} {Q : D → Prop} (h0 : 0 ≤ r) (h1 : r < (z.length : Int)) (h : okZ z) (q : ∀ y, y.length = 1 → okZ y → Q (.str y)) : get (Option.map (fun c => D.str ⟨#[c]⟩) (atI z.cps.toList r)) Q := by
  refine pick_map (P := fun c => okZ ⟨#[c]⟩) h0 (by rw [← slen]; exact h1) (fun c hc => ?_) fun c hc => q _ rfl hc
  refine ⟨?_, fun m => h.2 ?_⟩
  · have := h.1
    rw [ok_list] at this
    rw [ok_one]
    exact List.all_eq_true.mp this c hc
  · have e : 37 = c := List.mem_singleton.mp m
    rw [e]
    exact hc
theorem strs_all {k : Nat} : ∀ ys : List D, (∀ y ∈ ys, TxtD k y) → ∃ zs : List Str, ys = zs.map D.str ∧ ∀ z ∈ zs, z.length ≤ k ∧ okZ z
  | [], _ => ⟨[], rfl, fun _ h => nomatch h⟩
  | y :: ys, h => by
    obtain ⟨zs, e, hz⟩ := strs_all ys fun x hx => h x (List.mem_cons_of_mem _ hx)
    obtain ⟨z, rfl, h1, h2⟩ := h y List.mem_cons_self
    refine ⟨z :: zs, by rw [e]; rfl, fun x hx => ?_⟩
    cases List.mem_cons.mp hx with
    | inl e => rw [e]; exact ⟨h1, h2⟩
    | inr e => exact hz x e
theorem fold_ok : ∀ (l : List Str) (a : Array Nat), (∀ z ∈ l, z.length ≤ 1 ∧ okZ z) → okZ ⟨a⟩ → okZ ⟨List.foldl (fun acc (p : Str) => acc ++ ("" : Str).cps ++ p.cps) a l⟩ ∧ (List.foldl (fun acc (p : Str) => acc ++ ("" : Str).cps ++ p.cps) a l).size ≤ a.size + l.length
  | [], a, _, ha => ⟨ha, Nat.le_refl _⟩
  | z :: l, a, h, ha => by
    obtain ⟨h1, h2⟩ := h z List.mem_cons_self
    have e : ("" : Str).cps = #[] := by decide +kernel
    have := fold_ok l (a ++ ("" : Str).cps ++ z.cps) (fun y hy => h y (List.mem_cons_of_mem _ hy)) (by
      rw [e, Array.append_empty]
      exact okZ_app (a := ⟨a⟩) (b := z) |>.mpr ⟨ha, h2⟩)
    refine ⟨this.1, Nat.le_trans this.2 ?_⟩
    rw [e, Array.append_empty, Array.size_append, List.length_cons]
    have : z.cps.size ≤ 1 := h1
    omega
theorem join_ok {zs : List Str} (h : ∀ z ∈ zs, z.length ≤ 1 ∧ okZ z) : okZ (Txt.join "" zs) ∧ (Txt.join "" zs).length ≤ zs.length := by
  unfold Txt.join Builtin.Str.glued
  cases zs with
  | nil => exact ⟨by decide +kernel, by decide +kernel⟩
  | cons z zs =>
    obtain ⟨h1, h2⟩ := h z List.mem_cons_self
    have := fold_ok zs z.cps (fun y hy => h y (List.mem_cons_of_mem _ hy)) h2
    refine ⟨this.1, Nat.le_trans this.2 ?_⟩
    have : z.cps.size ≤ 1 := h1
    rw [List.length_cons]
    omega
theorem sum_le {zs : List Str} (h : ∀ z ∈ zs, z.length ≤ 1 ∧ okZ z) : (zs.map (·.length)).sum ≤ zs.length := by
  induction zs with
  | nil => exact Nat.le_refl _
  | cons z zs ih =>
    have h1 := (h z List.mem_cons_self).1
    have := ih fun y hy => h y (List.mem_cons_of_mem _ hy)
    simp only [List.map_cons, List.sum_cons, List.length_cons]
    omega
theorem cJoin_ok {zs : List Str} (h : ∀ z ∈ zs, z.length ≤ 1 ∧ okZ z) (hl : zs.length ≤ 1000) : cJoin "" (.lst (zs.map D.str)) := by
  intro ys e
  have e2 : some zs = some ys := by
    rw [← e]
    exact (strsOf_map zs).symm
  cases e2
  have := sum_le h
  have e0 : ("" : Str).length = 0 := by decide +kernel
  rw [e0]
  omega
theorem gJoin_eq (zs : List Str) : gJoin "" (.lst (zs.map D.str)) = some (.str (Txt.join "" zs)) := by
  show (strsOf (zs.map D.str)).map _ = _
  rw [strsOf_map]
  rfl
theorem line2 {n : Nat} (h : n ≤ 1000) : n ≤ sizeLine := Nat.le_trans h line1000
theorem rng_len (lo : Int) (n : Nat) : (rngD lo n).length = n := by
  unfold rngD
  simp
theorem cut_len (z : Str) (lo hi : Option Int) : (cutS z lo hi).length ≤ z.length := by
  rw [slen]
  exact cutS_len z lo hi
def fDraw2 (c : Nat) (R : D → Prop) : FT := ⟨fun ds n Q => ds = [.drw] ∧ n < 2 ^ 49 ∧ ∀ d m, R d → n ≤ m → m ≤ n + c → Q d m, fun ds n P P' h ⟨e, k, q⟩ => ⟨e, k, fun d m r a b => h _ _ (q d m r a b)⟩⟩
def F__law_text : FT := fDraw2 200 (TxtD 100)
theorem word_of {n : Nat} {Q : D → Nat → Prop} (h : n < 2 ^ 50) (q : ∀ z m, z.length ≤ 40 → okZ z → n ≤ m → m ≤ n + 60 → Q (.str z) m) : F__law_word.f [.drw] n Q :=
  ⟨rfl, h, fun d m ⟨z, e, h1, h2⟩ a b => by
    subst e
    exact q z m h1 h2 a b⟩
/-- a drawn thing -/
def F__law_value : FT := fDraw2 100 OkK
theorem okS_of {d : D} (h : tyD d ≠ none) (n : ∀ z, d ≠ .str z) : OkS d := OkS.mk h (fun z e => absurd e (n z)) (fun z e => absurd e (n z))
theorem okT_str {z : Str} (h : z.length ≤ 1000) (k : okZ z) : OkT (.str z) := ⟨okS_str h k, fun es e => nomatch e⟩
theorem okT_tup (zs : List Str) (h : zs.length ≤ 20) (k : ∀ z ∈ zs, PyData.strOk z = true) : OkT (.tup (zs.map D.str)) := ⟨okS_of (fun z => nomatch z) (fun _ z => nomatch z), fun es e => by cases e; exact ⟨zs, rfl, h, k⟩⟩
theorem okT_non : OkT .non := ⟨okS_of (fun z => nomatch z) (fun _ z => nomatch z), fun es e => nomatch e⟩
theorem okT_int (i : Int) : OkT (.int i) := ⟨okS_of (fun z => nomatch z) (fun _ z => nomatch z), fun es e => nomatch e⟩
theorem okT_bl (i : Bool) : OkT (.bl i) := ⟨okS_of (fun z => nomatch z) (fun _ z => nomatch z), fun es e => nomatch e⟩
theorem okT_dic : OkT .dic0 := ⟨okS_of (fun z => nomatch z) (fun _ z => nomatch z), fun es e => nomatch e⟩
theorem okT_lst (es : List D) : OkT (.lst es) := ⟨okS_of (fun z => nomatch z) (fun _ z => nomatch z), fun es e => nomatch e⟩
theorem okT_txt {k : Nat} {d : D} (hk : k ≤ 1000) (h : TxtD k d) : OkT d := by
  obtain ⟨z, rfl, h1, h2⟩ := h
  exact okT_str (Nat.le_trans h1 hk) h2
theorem okK_tup {es : List D} (h : es.length ≤ 20) (k : ∀ e ∈ es, OkT e) : OkK (.tup es) := ⟨okS_of (fun z => nomatch z) (fun _ z => nomatch z), fun es' e => by cases e; exact ⟨h, k⟩⟩
theorem okK_lst (es : List D) : OkK (.lst es) := ⟨okS_of (fun z => nomatch z) (fun _ z => nomatch z), fun es e => nomatch e⟩
theorem okK_s {d : D} (h : OkS d) (k : ∀ es, d ≠ .tup es) : OkK d := ⟨h, fun es e => absurd e (k es)⟩
theorem value_tail {es : List D} (hl : es.length ≤ 10) (he : ∀ e ∈ es, OkT e) {n : Nat} (hn : n < 2 ^ 59) {Q : D → Nat → Prop} (q : ∀ d m, OkK d → n ≤ m → m ≤ n + 4 → Q d m) :
    F__law_next.f [.drw, .int 3] n fun d m => get (gIx (.lst [.non, .tup [], .str "x"]) d) fun d => 1 ≤ sizeLine ∧ cAdd (.tup es) (.tup [d]) ∧ get (gAdd (.tup es) (.tup [d])) fun d => cSl (.tup es) ∧ get (gSl (.tup es) none (some (-1))) fun z => get (gList [.tup es]) fun d1 =>
      6 ≤ sizeLine ∧ F__law_next.f [.drw, .int 6] m fun d2 m => get (gIx (.lst [.tup es, .tup es, .tup es, d, z, d1]) d2) fun d => Q d m := by
  refine next_of (by omega) (by decide) (by decide) fun r r0 r1 => ?_
  refine pick_of (P := OkT) r0 (by simpa using r1) (by
    intro x hx
    simp only [List.mem_cons, List.not_mem_nil, or_false] at hx
    rcases hx with rfl | rfl | rfl
    · exact okT_non
    · exact okT_tup [] (by decide) (by decide +kernel)
    · exact okT_str (by decide +kernel) (by decide +kernel)) ?_
  intro more hmore
  refine ⟨by decide, line2 (by simp only [List.length_cons, List.length_nil]; omega), trivial, by decide, ?_⟩
  refine next_of (by omega) (by decide) (by decide) fun r r0 r1 => ?_
  refine pick_of (P := OkK) r0 (by simpa using r1) (by
    intro x hx
    simp only [List.mem_cons, List.not_mem_nil, or_false] at hx
    have h0 : OkK (.tup es) := okK_tup (by omega) he
    rcases hx with rfl | rfl | rfl | rfl | rfl | rfl
    · exact h0
    · exact h0
    · exact h0
    · refine okK_tup (by simp only [List.length_append, List.length_cons, List.length_nil]; omega) fun e h => ?_
      rcases List.mem_append.mp h with h | h
      · exact he e h
      · rw [List.mem_singleton.mp h]
        exact hmore
    · refine okK_tup ?_ fun e h => he e (List.mem_of_mem_drop (List.mem_of_mem_take h))
      unfold cutL
      simp only [List.length_take, List.length_drop]
      omega
    · exact okK_lst _) fun d hd => ?_
  exact q d _ hd (by omega) (by omega)
theorem text_of {n : Nat} {Q : D → Nat → Prop} (h : n < 2 ^ 49) (q : ∀ z m, z.length ≤ 100 → okZ z → n ≤ m → m ≤ n + 200 → Q (.str z) m) : F__law_text.f [.drw] n Q :=
  ⟨rfl, h, fun d m ⟨z, e, h1, h2⟩ a b => by
    subst e
    exact q z m h1 h2 a b⟩
theorem value_of {n : Nat} {Q : D → Nat → Prop} (h : n < 2 ^ 49) (q : ∀ d m, OkK d → n ≤ m → m ≤ n + 100 → Q d m) : F__law_value.f [.drw] n Q := ⟨rfl, h, q⟩
theorem okK_str {z : Str} (h : z.length ≤ 1000) (k : okZ z) : OkK (.str z) := okK_s (okS_str h k) fun es e => nomatch e
theorem sc_is_id : FnScope ["value", "c"] ["value"] (defScope (top 7)) := ⟨rfl, rfl, rfl, by decide +kernel, rfl, by decide +kernel, by decide +kernel⟩
theorem ok_is_id {P : Program} {w : World} {K : PySem.W.Frag} {mg : Str → Option Value} {base : Heap} (T : Txt K mg) (C : Cn K mg) {f : Addr} {fd : FuncData} (U : Fun K "is_id" "is_id" (top 7) f fd) (dr : Option Addr) :
    FnG P w K mg base 1 f fd ["value"] (SpD K dr [false] F_is_id) := by
  refine fnd_of (k := 0) U sc_is_id rfl (fun cdv A callers s0 H E G0 hr hga =>
    (sd_cons (sd_if (PW.pt (wd_or (td_not (td_val (pd_isi (pd_var 0 (pv 0)) rfl kit_str T.isinstance T.str))) (wd_or1 (td_not (td_chain cm_le cm_le pd_int (pd_bt bt_len T.len (ad_cons (pd_var 0 (pv 0)) ad_nil)) pd_int))))) (sd_one (sd_ret pd_bl)) sd_nil)
      (sd_one (sd_ret (pd_and (pd_cmp (cm_in) (pd_ix (pd_var 0 (pv 0)) pd_int) (pd_const C._LETTERS)) (pd_one (pd_bt bt_all T.all (ad_cons (pd_ofL (ld_lc (own := [("c", 1)]) sc_is_id.nd (id_str (pd_var 0 (pv 0))) (lct_name) (by change blkC ["value", "c"] (defScope (top 7)) _ _ = true; decide +kernel) (fun _ _ _ _ _ => pg_name (i := 1) sc_is_id.nd rfl (.inl rfl)) (fun _ _ _ _ _ _ _ => (pts_yes)) (fun _ _ _ _ _ _ _ => (pd_cmp (cm_in) (pd_var 1 (pv 1)) (pd_const C._LETTERS_AND_DIGITS))))) ad_nil)))))))) ?_
  intro ds n Q hl hF
  obtain ⟨d, rfl, ⟨hc1, hc2, hc3⟩, q⟩ := hF
  cases d
  case str z =>
    have hz := Nat.le_trans (hc2 z rfl) line1000
    simp (config := {maxSteps := 10000000}) only [↓f_wC, ↓f_wVar, ↓f_wBin, ↓f_wBinV, ↓f_wBinR, ↓f_wT, ↓f_wChain, ↓f_wTru, ↓f_wTruV, ↓f_tAnd, ↓f_tOr, ↓f_tNot, ↓f_andV, ↓f_orV, ↓f_notV, ↓f_if, ↓f_noPart, ↓f_part, ↓f_sl, ↓f_slV, ↓f_nil, ↓f_cons, ↓f_bor, ↓f_tup, ↓f_lst, ↓f_fn, ↓f_isi, ↓f_mt, ↓f_call, ↓f_next, ↓f_seq, ↓f_break, ↓f_cont, ↓f_drop, ↓f_ret, ↓f_retN, ↓f_ifS, ↓f_set, ↓f_ofL, ↓f_sz, ↓f_own, ↓f_par, ↓f_par3, ↓f_asgT, ↓f_iL, ↓f_iT, ↓f_iS, ↓f_iR1, ↓f_for, ↓f_lc, ↓f_yes, ↓f_dgL, ↓f_dgA, ↓f_dgC, ↓f_dpL, ↓f_dpA, ↓f_app, ↓f_pop, env0, env1, ↓bl_bl, ↓int_int, ↓str_str, ↓get_some, get_if, vget, ownE, List.length_cons, List.length_nil, List.replicate, List.getElem?_cons_zero, List.getElem?_cons_succ, List.set_cons_zero, List.set_cons_succ, Nat.zero_add, Nat.add_sub_cancel, Nat.reduceAdd, Nat.reduceSub, Nat.reduceLT, Nat.reduceLeDiff, true_and, if_true, if_false, Bool.false_eq_true, List.length_set, gLt, gLe, gGt, gGe, gIx, gLen, cLen, cT, cIx, gIsi, tyD, Option.map_some, gIn, gNin, cIn, gAll, c0, lstD, tupD, innE, wipeE, toBor, Bool.not_false, Bool.not_true, eq_self, List.map_cons, List.map_nil]
    simp only [idB, idL] at q
    rw [slen] at hz ⊢
    generalize hcs : z.cps.toList = cs at *
    rw [if_neg (by decide)]
    refine ⟨hz, ?_⟩
    by_cases h1 : (1 : Int) ≤ (cs.length : Int)
    · rw [if_pos (by simpa using h1)]
      by_cases h2 : (cs.length : Int) ≤ 16
      · rw [if_neg (by simpa using h2)]
        refine ⟨hz, ?_⟩
        cases cs with
        | nil => simp at h1
        | cons c l =>
          simp only [atI0, Option.map_some, get_some, bl_bl]
          rw [in26]
          cases hlo : loC c with
          | false =>
            rw [if_neg (by simp)]
            simpa [headB, hlo] using q
          | true =>
            rw [if_pos rfl]
            rw [chrs_eq, hcs]
            refine lcGo_map (g := fun d => .bl (match d with | .str y => inStr y S36 | _ => false)) _ _ (fun d hd P k => ?_) (by simp only [List.length_map, List.length_nil]; omega) ?_
            · obtain ⟨x, _, rfl⟩ := List.mem_map.mp hd
              rw [gNm_lt (by simp [innE_length])]
              simp (config := {maxSteps := 10000000}) only [↓f_wC, ↓f_wVar, ↓f_wBin, ↓f_wBinV, ↓f_wBinR, ↓f_wT, ↓f_wChain, ↓f_wTru, ↓f_wTruV, ↓f_tAnd, ↓f_tOr, ↓f_tNot, ↓f_andV, ↓f_orV, ↓f_notV, ↓f_if, ↓f_noPart, ↓f_part, ↓f_sl, ↓f_slV, ↓f_nil, ↓f_cons, ↓f_bor, ↓f_tup, ↓f_lst, ↓f_fn, ↓f_isi, ↓f_mt, ↓f_call, ↓f_next, ↓f_seq, ↓f_break, ↓f_cont, ↓f_drop, ↓f_ret, ↓f_retN, ↓f_ifS, ↓f_set, ↓f_ofL, ↓f_sz, ↓f_own, ↓f_par, ↓f_par3, ↓f_asgT, ↓f_iL, ↓f_iT, ↓f_iS, ↓f_iR1, ↓f_for, ↓f_lc, ↓f_yes, ↓f_dgL, ↓f_dgA, ↓f_dgC, ↓f_dpL, ↓f_dpA, ↓f_app, ↓f_pop, env0, env1, ↓bl_bl, ↓int_int, ↓str_str, ↓get_some, get_if, vget, ownE, List.length_cons, List.length_nil, List.replicate, List.getElem?_cons_zero, List.getElem?_cons_succ, List.set_cons_zero, List.set_cons_succ, Nat.zero_add, Nat.add_sub_cancel, Nat.reduceAdd, Nat.reduceSub, Nat.reduceLT, Nat.reduceLeDiff, true_and, if_true, if_false, Bool.false_eq_true, List.length_set, gLt, gLe, gGt, gGe, gIx, gLen, cLen, cT, cIx, gIsi, tyD, Option.map_some, gIn, gNin, cIn, gAll, c0, lstD, tupD, innE, wipeE, toBor, Bool.not_false, Bool.not_true, eq_self, List.map_cons, List.map_nil]
              exact k _ rfl
            · rw [List.nil_append, List.map_map]
              show DI.get (Option.map _ (blsOf (List.map (fun x => D.bl (inStr ⟨#[x]⟩ S36)) (c :: l)))) _
              rw [blsOf_map (fun x => inStr ⟨#[x]⟩ S36)]
              have e3 : (fun x => inStr ⟨#[x]⟩ S36) = ldC := funext in36
              simp only [Option.map_some, get_some]
              rw [e3, all_map']
              have e1 : decide (1 ≤ (c :: l).length) = true := by simp
              have e2 : decide ((c :: l).length ≤ 16) = true := by simp only [decide_eq_true_eq]; omega
              simp only [headB, hlo, e1, e2, Bool.true_and] at q
              exact q
      · rw [if_pos (by simpa using h2)]
        have e2 : decide (cs.length ≤ 16) = false := by simp only [decide_eq_false_iff_not]; omega
        simpa [e2] using q
    · rw [if_neg (by simpa using h1)]
      have e2 : decide (1 ≤ cs.length) = false := by simp only [decide_eq_false_iff_not]; omega
      simpa [e2] using q
  case drw => exact absurd rfl hc1
  all_goals
    simp (config := {maxSteps := 10000000}) only [↓f_wC, ↓f_wVar, ↓f_wBin, ↓f_wBinV, ↓f_wBinR, ↓f_wT, ↓f_wChain, ↓f_wTru, ↓f_wTruV, ↓f_tAnd, ↓f_tOr, ↓f_tNot, ↓f_andV, ↓f_orV, ↓f_notV, ↓f_if, ↓f_noPart, ↓f_part, ↓f_sl, ↓f_slV, ↓f_nil, ↓f_cons, ↓f_bor, ↓f_tup, ↓f_lst, ↓f_fn, ↓f_isi, ↓f_mt, ↓f_call, ↓f_next, ↓f_seq, ↓f_break, ↓f_cont, ↓f_drop, ↓f_ret, ↓f_retN, ↓f_ifS, ↓f_set, ↓f_ofL, ↓f_sz, ↓f_own, ↓f_par, ↓f_par3, ↓f_asgT, ↓f_iL, ↓f_iT, ↓f_iS, ↓f_iR1, ↓f_for, ↓f_lc, ↓f_yes, ↓f_dgL, ↓f_dgA, ↓f_dgC, ↓f_dpL, ↓f_dpA, ↓f_app, ↓f_pop, env0, env1, ↓bl_bl, ↓int_int, ↓str_str, ↓get_some, get_if, vget, ownE, List.length_cons, List.length_nil, List.replicate, List.getElem?_cons_zero, List.getElem?_cons_succ, List.set_cons_zero, List.set_cons_succ, Nat.zero_add, Nat.add_sub_cancel, Nat.reduceAdd, Nat.reduceSub, Nat.reduceLT, Nat.reduceLeDiff, true_and, if_true, if_false, Bool.false_eq_true, List.length_set, gLt, gLe, gGt, gGe, gIx, gLen, cLen, cT, cIx, gIsi, tyD, Option.map_some, gIn, gNin, cIn, gAll, c0, lstD, tupD, innE, wipeE, toBor, Bool.not_false, Bool.not_true, eq_self, List.map_cons, List.map_nil]
    exact q
theorem sc_sort_of : FnScope ["kind"] ["kind"] (defScope (top 10)) := ⟨rfl, rfl, rfl, by decide +kernel, rfl, by decide +kernel, by decide +kernel⟩
theorem ok_sort_of {P : Program} {w : World} {K : PySem.W.Frag} {mg : Str → Option Value} {base : Heap} (T : Txt K mg) (C : Cn K mg) {f : Addr} {fd : FuncData} (U : Fun K "sort_of" "sort_of" (top 10) f fd) (dr : Option Addr) :
    FnG P w K mg base 1 f fd ["kind"] (SpD K dr [false] F_sort_of) := by
  refine fnd_of (k := 0) U sc_sort_of rfl (fun cdv A callers s0 H E G0 hr hga =>
    (sd_cons (sd_if (td_not (td_val (pd_isi (pd_var 0 (pv 0)) rfl kit_str T.isinstance T.str))) (sd_one (sd_ret pd_non)) sd_nil)
      (sd_cons (sd_if (td_cmp (cm_in) (pd_var 0 (pv 0)) (pd_const C.BOX_KINDS)) (sd_one (sd_ret pd_str)) sd_nil)
      (sd_one (sd_ret (pd_ifExp (td_cmp (cm_in) (pd_var 0 (pv 0)) (pd_const C.LINE_KINDS)) pd_str pd_non)))))) ?_
  intro ds n Q hl hF
  obtain ⟨d, rfl, ⟨hc1, hc2, hc3⟩, q⟩ := hF
  cases d
  case str z =>
    simp (config := {maxSteps := 10000000}) only [↓f_wC, ↓f_wVar, ↓f_wBin, ↓f_wBinV, ↓f_wBinR, ↓f_wT, ↓f_wChain, ↓f_wTru, ↓f_wTruV, ↓f_tAnd, ↓f_tOr, ↓f_tNot, ↓f_andV, ↓f_orV, ↓f_notV, ↓f_if, ↓f_noPart, ↓f_part, ↓f_sl, ↓f_slV, ↓f_nil, ↓f_cons, ↓f_bor, ↓f_tup, ↓f_lst, ↓f_fn, ↓f_isi, ↓f_mt, ↓f_call, ↓f_next, ↓f_seq, ↓f_break, ↓f_cont, ↓f_drop, ↓f_ret, ↓f_retN, ↓f_ifS, ↓f_set, ↓f_ofL, ↓f_sz, ↓f_own, ↓f_par, ↓f_par3, ↓f_asgT, ↓f_iL, ↓f_iT, ↓f_iS, ↓f_iR1, ↓f_for, ↓f_lc, ↓f_yes, ↓f_dgL, ↓f_dgA, ↓f_dgC, ↓f_dpL, ↓f_dpA, ↓f_app, ↓f_pop, env0, env1, ↓bl_bl, ↓int_int, ↓str_str, ↓get_some, get_if, vget, ownE, List.length_cons, List.length_nil, List.replicate, List.getElem?_cons_zero, List.getElem?_cons_succ, List.set_cons_zero, List.set_cons_succ, Nat.zero_add, Nat.add_sub_cancel, Nat.reduceAdd, Nat.reduceSub, Nat.reduceLT, Nat.reduceLeDiff, true_and, if_true, if_false, Bool.false_eq_true, List.length_set, gLt, gLe, gGt, gGe, gIx, gLen, cLen, cT, cIx, gIsi, tyD, Option.map_some, gIn, gNin, cIn, gAll, c0, lstD, tupD, innE, wipeE, toBor, Bool.not_false, Bool.not_true, eq_self, List.map_cons, List.map_nil]
    rw [if_neg (by decide)]
    have e1 : [D.str "section", .str "quote", .str "list", .str "item"] = boxes.map D.str := rfl
    have e2 : [D.str "head1", .str "head2", .str "head3", .str "para"] = lines.map D.str := rfl
    rw [e1, e2, inD_strs, inD_strs]
    simp only [kindD] at q
    refine ⟨⟨rfl, by decide⟩, ?_⟩
    by_cases h1 : z ∈ boxes
    · simpa [h1] using q
    · rw [if_neg (by simpa using h1)]
      rw [if_neg h1] at q
      refine ⟨⟨rfl, by decide⟩, ?_⟩
      by_cases h2 : z ∈ lines
      · simpa [h2] using q
      · simpa [h2] using q
  case drw => exact absurd rfl hc1
  all_goals
    simp (config := {maxSteps := 10000000}) only [↓f_wC, ↓f_wVar, ↓f_wBin, ↓f_wBinV, ↓f_wBinR, ↓f_wT, ↓f_wChain, ↓f_wTru, ↓f_wTruV, ↓f_tAnd, ↓f_tOr, ↓f_tNot, ↓f_andV, ↓f_orV, ↓f_notV, ↓f_if, ↓f_noPart, ↓f_part, ↓f_sl, ↓f_slV, ↓f_nil, ↓f_cons, ↓f_bor, ↓f_tup, ↓f_lst, ↓f_fn, ↓f_isi, ↓f_mt, ↓f_call, ↓f_next, ↓f_seq, ↓f_break, ↓f_cont, ↓f_drop, ↓f_ret, ↓f_retN, ↓f_ifS, ↓f_set, ↓f_ofL, ↓f_sz, ↓f_own, ↓f_par, ↓f_par3, ↓f_asgT, ↓f_iL, ↓f_iT, ↓f_iS, ↓f_iR1, ↓f_for, ↓f_lc, ↓f_yes, ↓f_dgL, ↓f_dgA, ↓f_dgC, ↓f_dpL, ↓f_dpA, ↓f_app, ↓f_pop, env0, env1, ↓bl_bl, ↓int_int, ↓str_str, ↓get_some, get_if, vget, ownE, List.length_cons, List.length_nil, List.replicate, List.getElem?_cons_zero, List.getElem?_cons_succ, List.set_cons_zero, List.set_cons_succ, Nat.zero_add, Nat.add_sub_cancel, Nat.reduceAdd, Nat.reduceSub, Nat.reduceLT, Nat.reduceLeDiff, true_and, if_true, if_false, Bool.false_eq_true, List.length_set, gLt, gLe, gGt, gGe, gIx, gLen, cLen, cT, cIx, gIsi, tyD, Option.map_some, gIn, gNin, cIn, gAll, c0, lstD, tupD, innE, wipeE, toBor, Bool.not_false, Bool.not_true, eq_self, List.map_cons, List.map_nil]
    exact q
theorem sc__is_plain : FnScope ["c"] ["c"] (defScope (top 11)) := ⟨rfl, rfl, rfl, by decide +kernel, rfl, by decide +kernel, by decide +kernel⟩
theorem ok__is_plain {P : Program} {w : World} {K : PySem.W.Frag} {mg : Str → Option Value} {base : Heap} (T : Txt K mg) (C : Cn K mg) {f : Addr} {fd : FuncData} (U : Fun K "_is_plain" "_is_plain" (top 11) f fd) (dr : Option Addr) :
    FnG P w K mg base 1 f fd ["c"] (SpD K dr [false] F__is_plain) := by
  refine fnd_of (k := 0) U sc__is_plain rfl (fun cdv A callers s0 H E G0 hr hga =>
    (sd_one (sd_ret (pd_and (pd_chain cm_le cm_le pd_str (pd_var 0 (pv 0)) pd_str) (pd_one (pd_cmp (cm_ne hr) (pd_bt bt_ord T.ord (ad_cons (pd_var 0 (pv 0)) ad_nil)) (pd_const C._PERCENT))))))) ?_
  intro ds n Q hl hF
  obtain ⟨c, rfl, q⟩ := hF
  simp (config := {maxSteps := 10000000}) only [↓f_wC, ↓f_wVar, ↓f_wBin, ↓f_wBinV, ↓f_wBinR, ↓f_wT, ↓f_wChain, ↓f_wTru, ↓f_wTruV, ↓f_tAnd, ↓f_tOr, ↓f_tNot, ↓f_andV, ↓f_orV, ↓f_notV, ↓f_if, ↓f_noPart, ↓f_part, ↓f_sl, ↓f_slV, ↓f_nil, ↓f_cons, ↓f_bor, ↓f_tup, ↓f_lst, ↓f_fn, ↓f_isi, ↓f_mt, ↓f_call, ↓f_next, ↓f_seq, ↓f_break, ↓f_cont, ↓f_drop, ↓f_ret, ↓f_retN, ↓f_ifS, ↓f_set, ↓f_ofL, ↓f_sz, ↓f_own, ↓f_par, ↓f_par3, ↓f_asgT, ↓f_iL, ↓f_iT, ↓f_iS, ↓f_iR1, ↓f_for, ↓f_lc, ↓f_yes, ↓f_dgL, ↓f_dgA, ↓f_dgC, ↓f_dpL, ↓f_dpA, ↓f_app, ↓f_pop, env0, env1, ↓bl_bl, ↓int_int, ↓str_str, ↓get_some, get_if, vget, ownE, List.length_cons, List.length_nil, List.replicate, List.getElem?_cons_zero, List.getElem?_cons_succ, List.set_cons_zero, List.set_cons_succ, Nat.zero_add, Nat.add_sub_cancel, Nat.reduceAdd, Nat.reduceSub, Nat.reduceLT, Nat.reduceLeDiff, true_and, if_true, if_false, Bool.false_eq_true, List.length_set, gLt, gLe, gGt, gGe, gIx, gLen, cLen, cT, cIx, gIsi, tyD, Option.map_some, gIn, gNin, cIn, gAll, c0, lstD, tupD, innE, wipeE, toBor, Bool.not_false, Bool.not_true, eq_self, List.map_cons, List.map_nil]
  rw [ch_sp, ch_ti, le_one, le_one]
  simp only [gOrd, cOrd]
  unfold plC at q
  by_cases h1 : 32 ≤ c
  · rw [if_pos (by simpa using h1)]
    by_cases h2 : c ≤ 126
    · rw [if_pos (by simpa using h2)]
      refine ⟨?_, ?_⟩
      · rfl
      · simp only [gNe, get_some, eqD_int]
        have e : (decide ((c : Int) = 37)) = decide (c = 37) := decide_eq_decide.mpr (by omega)
        refine ⟨.inl rfl, ?_⟩
        simpa [h1, h2, e] using q
    · rw [if_neg (by simpa using h2)]
      simpa [h2] using q
  · rw [if_neg (by simpa using h1)]
    simpa [h1] using q
theorem sc__are_styles : FnScope ["value", "word"] ["value"] (defScope (top 13)) := ⟨rfl, rfl, rfl, by decide +kernel, rfl, by decide +kernel, by decide +kernel⟩
theorem ok__are_styles {P : Program} {w : World} {K : PySem.W.Frag} {mg : Str → Option Value} {base : Heap} (T : Txt K mg) (C : Cn K mg) {f : Addr} {fd : FuncData} (U : Fun K "_are_styles" "_are_styles" (top 13) f fd) (dr : Option Addr) :
    FnG P w K mg base 1 f fd ["value"] (SpD K dr [false] F__are_styles) := by
  refine fnd_of (k := 0) U sc__are_styles rfl (fun cdv A callers s0 H E G0 hr hga =>
    (sd_cons (sd_if (td_not (td_val (pd_isi (pd_var 0 (pv 0)) rfl kit_tuple T.isinstance T.tuple))) (sd_one (sd_ret pd_bl)) sd_nil)
      (sd_one (sd_ret (pd_and (pd_bt bt_all T.all (ad_cons (pd_ofL (ld_lc (own := [("word", 1)]) sc__are_styles.nd (id_tup (pd_var 0 (pv 0))) (lct_name) (by change blkC ["value", "word"] (defScope (top 13)) _ _ = true; decide +kernel) (fun _ _ _ _ _ => pg_name (i := 1) sc__are_styles.nd rfl (.inl rfl)) (fun _ _ _ _ _ _ _ => (pts_yes)) (fun _ _ _ _ _ _ _ => (pd_isi (pd_var 1 (pv 1)) rfl kit_str T.isinstance T.str)))) ad_nil)) (pd_one (pd_cmp (cm_inN hr) (pd_var 0 (pv 0)) (pd_const C._STYLE_ROWS)))))))) ?_
  intro ds n Q hl hF
  obtain ⟨d, rfl, ⟨⟨hc1, hc2, hc3⟩, ht⟩, q⟩ := hF
  cases d
  case tup es =>
    obtain ⟨zs, rfl, hz, hk⟩ := ht _ rfl
    simp (config := {maxSteps := 10000000}) only [↓f_wC, ↓f_wVar, ↓f_wBin, ↓f_wBinV, ↓f_wBinR, ↓f_wT, ↓f_wChain, ↓f_wTru, ↓f_wTruV, ↓f_tAnd, ↓f_tOr, ↓f_tNot, ↓f_andV, ↓f_orV, ↓f_notV, ↓f_if, ↓f_noPart, ↓f_part, ↓f_sl, ↓f_slV, ↓f_nil, ↓f_cons, ↓f_bor, ↓f_tup, ↓f_lst, ↓f_fn, ↓f_isi, ↓f_mt, ↓f_call, ↓f_next, ↓f_seq, ↓f_break, ↓f_cont, ↓f_drop, ↓f_ret, ↓f_retN, ↓f_ifS, ↓f_set, ↓f_ofL, ↓f_sz, ↓f_own, ↓f_par, ↓f_par3, ↓f_asgT, ↓f_iL, ↓f_iT, ↓f_iS, ↓f_iR1, ↓f_for, ↓f_lc, ↓f_yes, ↓f_dgL, ↓f_dgA, ↓f_dgC, ↓f_dpL, ↓f_dpA, ↓f_app, ↓f_pop, env0, env1, ↓bl_bl, ↓int_int, ↓str_str, ↓get_some, get_if, vget, ownE, List.length_cons, List.length_nil, List.replicate, List.getElem?_cons_zero, List.getElem?_cons_succ, List.set_cons_zero, List.set_cons_succ, Nat.zero_add, Nat.add_sub_cancel, Nat.reduceAdd, Nat.reduceSub, Nat.reduceLT, Nat.reduceLeDiff, true_and, if_true, if_false, Bool.false_eq_true, List.length_set, gLt, gLe, gGt, gGe, gIx, gLen, cLen, cT, cIx, gIsi, tyD, Option.map_some, gIn, gNin, cIn, gAll, c0, lstD, tupD, innE, wipeE, toBor, Bool.not_false, Bool.not_true, eq_self, List.map_cons, List.map_nil]
    rw [if_neg (by decide)]
    simp only [stylB] at q
    refine lcGo_map (g := fun _ => .bl true) _ _ (fun d hd P k => ?_) (by have := line1000; simp only [List.length_map, List.length_nil]; omega) ?_
    · obtain ⟨x, _, rfl⟩ := List.mem_map.mp hd
      rw [gNm_lt (by simp [innE_length])]
      simp (config := {maxSteps := 10000000}) only [↓f_wC, ↓f_wVar, ↓f_wBin, ↓f_wBinV, ↓f_wBinR, ↓f_wT, ↓f_wChain, ↓f_wTru, ↓f_wTruV, ↓f_tAnd, ↓f_tOr, ↓f_tNot, ↓f_andV, ↓f_orV, ↓f_notV, ↓f_if, ↓f_noPart, ↓f_part, ↓f_sl, ↓f_slV, ↓f_nil, ↓f_cons, ↓f_bor, ↓f_tup, ↓f_lst, ↓f_fn, ↓f_isi, ↓f_mt, ↓f_call, ↓f_next, ↓f_seq, ↓f_break, ↓f_cont, ↓f_drop, ↓f_ret, ↓f_retN, ↓f_ifS, ↓f_set, ↓f_ofL, ↓f_sz, ↓f_own, ↓f_par, ↓f_par3, ↓f_asgT, ↓f_iL, ↓f_iT, ↓f_iS, ↓f_iR1, ↓f_for, ↓f_lc, ↓f_yes, ↓f_dgL, ↓f_dgA, ↓f_dgC, ↓f_dpL, ↓f_dpA, ↓f_app, ↓f_pop, env0, env1, ↓bl_bl, ↓int_int, ↓str_str, ↓get_some, get_if, vget, ownE, List.length_cons, List.length_nil, List.replicate, List.getElem?_cons_zero, List.getElem?_cons_succ, List.set_cons_zero, List.set_cons_succ, Nat.zero_add, Nat.add_sub_cancel, Nat.reduceAdd, Nat.reduceSub, Nat.reduceLT, Nat.reduceLeDiff, true_and, if_true, if_false, Bool.false_eq_true, List.length_set, gLt, gLe, gGt, gGe, gIx, gLen, cLen, cT, cIx, gIsi, tyD, Option.map_some, gIn, gNin, cIn, gAll, c0, lstD, tupD, innE, wipeE, toBor, Bool.not_false, Bool.not_true, eq_self, List.map_cons, List.map_nil]
      exact k _ rfl
    · rw [List.nil_append, List.map_map]
      rw [show ((fun _ => D.bl true) ∘ D.str : Str → D) = (fun x => D.bl ((fun _ => true) x)) from rfl, blsOf_map (fun _ => true)]
      simp only [Option.map_some, get_some, all_map', bl_bl]
      rw [if_pos (by simp)]
      refine ⟨?_, ?_⟩
      · exact ⟨shp_tupS zs hk, shp_rows⟩
      · rw [rows_eq]
        exact q
  case drw => exact absurd rfl hc1
  all_goals
    simp (config := {maxSteps := 10000000}) only [↓f_wC, ↓f_wVar, ↓f_wBin, ↓f_wBinV, ↓f_wBinR, ↓f_wT, ↓f_wChain, ↓f_wTru, ↓f_wTruV, ↓f_tAnd, ↓f_tOr, ↓f_tNot, ↓f_andV, ↓f_orV, ↓f_notV, ↓f_if, ↓f_noPart, ↓f_part, ↓f_sl, ↓f_slV, ↓f_nil, ↓f_cons, ↓f_bor, ↓f_tup, ↓f_lst, ↓f_fn, ↓f_isi, ↓f_mt, ↓f_call, ↓f_next, ↓f_seq, ↓f_break, ↓f_cont, ↓f_drop, ↓f_ret, ↓f_retN, ↓f_ifS, ↓f_set, ↓f_ofL, ↓f_sz, ↓f_own, ↓f_par, ↓f_par3, ↓f_asgT, ↓f_iL, ↓f_iT, ↓f_iS, ↓f_iR1, ↓f_for, ↓f_lc, ↓f_yes, ↓f_dgL, ↓f_dgA, ↓f_dgC, ↓f_dpL, ↓f_dpA, ↓f_app, ↓f_pop, env0, env1, ↓bl_bl, ↓int_int, ↓str_str, ↓get_some, get_if, vget, ownE, List.length_cons, List.length_nil, List.replicate, List.getElem?_cons_zero, List.getElem?_cons_succ, List.set_cons_zero, List.set_cons_succ, Nat.zero_add, Nat.add_sub_cancel, Nat.reduceAdd, Nat.reduceSub, Nat.reduceLT, Nat.reduceLeDiff, true_and, if_true, if_false, Bool.false_eq_true, List.length_set, gLt, gLe, gGt, gGe, gIx, gLen, cLen, cT, cIx, gIsi, tyD, Option.map_some, gIn, gNin, cIn, gAll, c0, lstD, tupD, innE, wipeE, toBor, Bool.not_false, Bool.not_true, eq_self, List.map_cons, List.map_nil]
    exact q
theorem sc_is_link : FnScope ["value", "rest", "key", "_", "name", "c"] ["value"] (defScope (top 8)) := ⟨rfl, rfl, rfl, by decide +kernel, rfl, by decide +kernel, by decide +kernel⟩
theorem ok_is_link {P : Program} {w : World} {K : PySem.W.Frag} {mg : Str → Option Value} {base : Heap} (T : Txt K mg) (C : Cn K mg) (D_is_id : Dn P w K mg base 1 "is_id" ["value"] F_is_id) (D__is_plain : Dn P w K mg base 1 "_is_plain" ["c"] F__is_plain) {f : Addr} {fd : FuncData} (U : Fun K "is_link" "is_link" (top 8) f fd) (dr : Option Addr) :
    FnG P w K mg base 2 f fd ["value"] (SpD K dr [false] F_is_link) := by
  refine fnd_of (k := 1) U sc_is_link rfl (fun cdv A callers s0 H E G0 hr hga =>
    (sd_cons (sd_if (td_not (td_val (pd_isi (pd_var 0 (pv 0)) rfl kit_str T.isinstance T.str))) (sd_one (sd_ret pd_bl)) sd_nil)
      (sd_cons (sd_if (td_val (pd_mt mt_st (pd_var 0 (pv 0)) pd_str)) (sd_cons (sd_set 1 sc_is_link.nd (pd_sl (pd_var 0 (pv 0)) (od_some pd_int) od_none))
      (sd_one (sd_ret (pd_and (pd_chain cm_le cm_le pd_int (pd_bt bt_len T.len (ad_cons (pd_var 1 (pv 1)) ad_nil)) pd_int) (pd_one (pd_bt bt_all T.all (ad_cons (pd_ofL (ld_lc (own := [("c", 5)]) sc_is_link.nd (id_str (pd_var 1 (pv 1))) (lct_name) (by change blkC ["value", "rest", "key", "_", "name", "c"] (defScope (top 8)) _ _ = true; decide +kernel) (fun _ _ _ _ _ => pg_name (i := 5) sc_is_link.nd rfl (.inl rfl)) (fun _ _ _ _ _ _ _ => (pts_yes)) (fun _ _ _ _ _ _ _ => (pd_and (pd_cl D__is_plain hr (by decide) hga (ad_cons (pd_var 5 (pv 5)) ad_nil)) (pd_one (pd_cmp (cm_nin) (pd_var 5 (pv 5)) pd_str)))))) ad_nil))))))) sd_nil)
      (sd_cons (sd_asg (pd_mt mt_pt (pd_var 0 (pv 0)) pd_str) (gd_tup (n := 3) (gds_cons (gd_name 2 sc_is_link.nd) (gds_cons (gd_name 3 sc_is_link.nd) (gds_cons (gd_name 4 sc_is_link.nd) gds_nil)))))
      (sd_one (sd_ret (pd_and (pd_cl D_is_id hr (by decide) hga (ad_cons (pd_var 2 (pv 2)) ad_nil)) (pd_one (pd_cl D_is_id hr (by decide) hga (ad_cons (pd_var 4 (pv 4)) ad_nil)))))))))) ?_
  intro ds n Q hl hF
  obtain ⟨d, rfl, ⟨hc1, hc2, hc3⟩, q⟩ := hF
  cases d
  case str z =>
    have hz1 := hc2 z rfl
    have hz := Nat.le_trans hz1 line1000
    simp (config := {maxSteps := 10000000}) only [↓f_wC, ↓f_wVar, ↓f_wBin, ↓f_wBinV, ↓f_wBinR, ↓f_wT, ↓f_wChain, ↓f_wTru, ↓f_wTruV, ↓f_tAnd, ↓f_tOr, ↓f_tNot, ↓f_andV, ↓f_orV, ↓f_notV, ↓f_if, ↓f_noPart, ↓f_part, ↓f_sl, ↓f_slV, ↓f_nil, ↓f_cons, ↓f_bor, ↓f_tup, ↓f_lst, ↓f_fn, ↓f_isi, ↓f_mt, ↓f_call, ↓f_next, ↓f_seq, ↓f_break, ↓f_cont, ↓f_drop, ↓f_ret, ↓f_retN, ↓f_ifS, ↓f_set, ↓f_ofL, ↓f_sz, ↓f_own, ↓f_par, ↓f_par3, ↓f_asgT, ↓f_iL, ↓f_iT, ↓f_iS, ↓f_iR1, ↓f_for, ↓f_lc, ↓f_yes, ↓f_dgL, ↓f_dgA, ↓f_dgC, ↓f_dpL, ↓f_dpA, ↓f_app, ↓f_pop, env0, env1, ↓bl_bl, ↓int_int, ↓str_str, ↓get_some, get_if, vget, ownE, List.length_cons, List.length_nil, List.replicate, List.getElem?_cons_zero, List.getElem?_cons_succ, List.set_cons_zero, List.set_cons_succ, Nat.zero_add, Nat.add_sub_cancel, Nat.reduceAdd, Nat.reduceSub, Nat.reduceLT, Nat.reduceLeDiff, true_and, if_true, if_false, Bool.false_eq_true, List.length_set, gLt, gLe, gGt, gGe, gIx, gLen, cLen, cT, cIx, gIsi, tyD, Option.map_some, gIn, gNin, cIn, gAll, c0, lstD, tupD, innE, wipeE, toBor, Bool.not_false, Bool.not_true, eq_self, List.map_cons, List.map_nil]
    simp only [linkB, linkL] at q
    rw [if_neg (by decide)]
    simp only [cZ, gStarts, get_some, bl_bl, true_and]
    by_cases h1 : Txt.startswith z "out:" = true
    · rw [if_pos h1]
      rw [if_pos h1] at q
      have hk := cutS_len z (some 4) none
      simp only [gSl, cSl, get_some]
      refine ⟨hz, ?_⟩
      generalize cutS z (some 4) none = y at *
      have hy : y.length ≤ sizeLine := by rw [slen]; exact Nat.le_trans hk hz
      rw [slen] at hy ⊢
      unfold outL at q
      generalize hcs : y.cps.toList = cs at *
      refine ⟨hy, ?_⟩
      simp only [get_some, bl_bl]
      by_cases h2 : (1 : Int) ≤ (cs.length : Int)
      · rw [if_pos (by simpa using h2)]
        by_cases h3 : (cs.length : Int) ≤ 20
        · rw [if_pos (by simpa using h3)]
          simp only [str_str, get_some]
          rw [chrs_eq, hcs]
          refine lcGo_map (g := fun d => .bl (match d with | .str ⟨⟨[c]⟩⟩ => plC c && !decide (c ∈ ([32, 60, 62, 38] : List Nat)) | _ => false)) _ _ (fun d hd P k => ?_) (by simp only [List.length_map, List.length_nil]; omega) ?_
          · obtain ⟨x, _, rfl⟩ := List.mem_map.mp hd
            rw [gNm_lt (by simp [innE_length])]
            simp (config := {maxSteps := 10000000}) only [↓f_wC, ↓f_wVar, ↓f_wBin, ↓f_wBinV, ↓f_wBinR, ↓f_wT, ↓f_wChain, ↓f_wTru, ↓f_wTruV, ↓f_tAnd, ↓f_tOr, ↓f_tNot, ↓f_andV, ↓f_orV, ↓f_notV, ↓f_if, ↓f_noPart, ↓f_part, ↓f_sl, ↓f_slV, ↓f_nil, ↓f_cons, ↓f_bor, ↓f_tup, ↓f_lst, ↓f_fn, ↓f_isi, ↓f_mt, ↓f_call, ↓f_next, ↓f_seq, ↓f_break, ↓f_cont, ↓f_drop, ↓f_ret, ↓f_retN, ↓f_ifS, ↓f_set, ↓f_ofL, ↓f_sz, ↓f_own, ↓f_par, ↓f_par3, ↓f_asgT, ↓f_iL, ↓f_iT, ↓f_iS, ↓f_iR1, ↓f_for, ↓f_lc, ↓f_yes, ↓f_dgL, ↓f_dgA, ↓f_dgC, ↓f_dpL, ↓f_dpA, ↓f_app, ↓f_pop, env0, env1, ↓bl_bl, ↓int_int, ↓str_str, ↓get_some, get_if, vget, ownE, List.length_cons, List.length_nil, List.replicate, List.getElem?_cons_zero, List.getElem?_cons_succ, List.set_cons_zero, List.set_cons_succ, Nat.zero_add, Nat.add_sub_cancel, Nat.reduceAdd, Nat.reduceSub, Nat.reduceLT, Nat.reduceLeDiff, true_and, if_true, if_false, Bool.false_eq_true, List.length_set, gLt, gLe, gGt, gGe, gIx, gLen, cLen, cT, cIx, gIsi, tyD, Option.map_some, gIn, gNin, cIn, gAll, c0, lstD, tupD, innE, wipeE, toBor, Bool.not_false, Bool.not_true, eq_self, List.map_cons, List.map_nil]
            refine ⟨x, rfl, ?_⟩
            simp only [bl_bl, get_some]
            have k' : ∀ s, s.n = n → P (D.bl (plC x && !decide (x ∈ ([32, 60, 62, 38] : List Nat)))) s := k
            cases hp : plC x with
            | true =>
              rw [if_pos rfl]
              simp only [in4, get_some]
              rw [hp, Bool.true_and] at k'
              exact k' _ rfl
            | false =>
              rw [if_neg (by decide)]
              rw [hp, Bool.false_and] at k'
              exact k' _ rfl
          · rw [List.nil_append, List.map_map]
            show DI.get (Option.map _ (blsOf (List.map (fun c => D.bl (plC c && !decide (c ∈ ([32, 60, 62, 38] : List Nat)))) cs))) _
            rw [blsOf_map (fun c => plC c && !decide (c ∈ ([32, 60, 62, 38] : List Nat))) cs]
            simp only [Option.map_some, get_some, all_map']
            have e1 : decide (1 ≤ cs.length) = true := by simp only [decide_eq_true_eq]; omega
            have e2 : decide (cs.length ≤ 20) = true := by simp only [decide_eq_true_eq]; omega
            simp only [e1, e2, Bool.true_and] at q
            exact q
        · rw [if_neg (by simpa using h3)]
          have e2 : decide (cs.length ≤ 20) = false := by simp only [decide_eq_false_iff_not]; omega
          simpa [e2] using q
      · rw [if_neg (by simpa using h2)]
        have e2 : decide (1 ≤ cs.length) = false := by simp only [decide_eq_false_iff_not]; omega
        simpa [e2] using q
    · rw [if_neg h1]
      rw [if_neg h1] at q
      simp only [cPart, gPart, get_some]
      refine ⟨⟨by decide, hz⟩, ?_⟩
      have hs := StrLaws.partition_sum z "#"
      generalize Txt.partition z "#" = pp at *
      obtain ⟨a, b, c⟩ := pp
      simp only at hs q
      obtain ⟨la, lc⟩ := part_len hs
      obtain ⟨oa, oc⟩ := part_ok hs (hc3 z rfl)
      simp only [gTp, List.length_cons, List.length_nil, Nat.reduceAdd, if_true, gsCons, gsNil, gNm, List.length_replicate, Nat.reduceLT, Option.bind_some, List.length_set, List.set_cons_succ, List.set_cons_zero, get_some]
      simp (config := {maxSteps := 10000000}) only [↓f_wC, ↓f_wVar, ↓f_wBin, ↓f_wBinV, ↓f_wBinR, ↓f_wT, ↓f_wChain, ↓f_wTru, ↓f_wTruV, ↓f_tAnd, ↓f_tOr, ↓f_tNot, ↓f_andV, ↓f_orV, ↓f_notV, ↓f_if, ↓f_noPart, ↓f_part, ↓f_sl, ↓f_slV, ↓f_nil, ↓f_cons, ↓f_bor, ↓f_tup, ↓f_lst, ↓f_fn, ↓f_isi, ↓f_mt, ↓f_call, ↓f_next, ↓f_seq, ↓f_break, ↓f_cont, ↓f_drop, ↓f_ret, ↓f_retN, ↓f_ifS, ↓f_set, ↓f_ofL, ↓f_sz, ↓f_own, ↓f_par, ↓f_par3, ↓f_asgT, ↓f_iL, ↓f_iT, ↓f_iS, ↓f_iR1, ↓f_for, ↓f_lc, ↓f_yes, ↓f_dgL, ↓f_dgA, ↓f_dgC, ↓f_dpL, ↓f_dpA, ↓f_app, ↓f_pop, env0, env1, ↓bl_bl, ↓int_int, ↓str_str, ↓get_some, get_if, vget, ownE, List.length_cons, List.length_nil, List.replicate, List.getElem?_cons_zero, List.getElem?_cons_succ, List.set_cons_zero, List.set_cons_succ, Nat.zero_add, Nat.add_sub_cancel, Nat.reduceAdd, Nat.reduceSub, Nat.reduceLT, Nat.reduceLeDiff, true_and, if_true, if_false, Bool.false_eq_true, List.length_set, gLt, gLe, gGt, gGe, gIx, gLen, cLen, cT, cIx, gIsi, tyD, Option.map_some, gIn, gNin, cIn, gAll, c0, lstD, tupD, innE, wipeE, toBor, Bool.not_false, Bool.not_true, eq_self, List.map_cons, List.map_nil]
      refine ⟨_, rfl, okS_str (Nat.le_trans la hz1) oa, ?_⟩
      simp only [bl_bl, get_some]
      have ha : idB (.str a) = idL a.cps.toList := rfl
      cases h2 : idL a.cps.toList with
      | false =>
        rw [if_neg (by rw [ha, h2]; decide)]
        rw [h2] at q
        exact q
      | true =>
        rw [if_pos (by rw [ha, h2])]
        refine ⟨_, rfl, okS_str (Nat.le_trans lc hz1) oc, ?_⟩
        rw [h2] at q
        exact q
  case drw => exact absurd rfl hc1
  all_goals
    simp (config := {maxSteps := 10000000}) only [↓f_wC, ↓f_wVar, ↓f_wBin, ↓f_wBinV, ↓f_wBinR, ↓f_wT, ↓f_wChain, ↓f_wTru, ↓f_wTruV, ↓f_tAnd, ↓f_tOr, ↓f_tNot, ↓f_andV, ↓f_orV, ↓f_notV, ↓f_if, ↓f_noPart, ↓f_part, ↓f_sl, ↓f_slV, ↓f_nil, ↓f_cons, ↓f_bor, ↓f_tup, ↓f_lst, ↓f_fn, ↓f_isi, ↓f_mt, ↓f_call, ↓f_next, ↓f_seq, ↓f_break, ↓f_cont, ↓f_drop, ↓f_ret, ↓f_retN, ↓f_ifS, ↓f_set, ↓f_ofL, ↓f_sz, ↓f_own, ↓f_par, ↓f_par3, ↓f_asgT, ↓f_iL, ↓f_iT, ↓f_iS, ↓f_iR1, ↓f_for, ↓f_lc, ↓f_yes, ↓f_dgL, ↓f_dgA, ↓f_dgC, ↓f_dpL, ↓f_dpA, ↓f_app, ↓f_pop, env0, env1, ↓bl_bl, ↓int_int, ↓str_str, ↓get_some, get_if, vget, ownE, List.length_cons, List.length_nil, List.replicate, List.getElem?_cons_zero, List.getElem?_cons_succ, List.set_cons_zero, List.set_cons_succ, Nat.zero_add, Nat.add_sub_cancel, Nat.reduceAdd, Nat.reduceSub, Nat.reduceLT, Nat.reduceLeDiff, true_and, if_true, if_false, Bool.false_eq_true, List.length_set, gLt, gLe, gGt, gGe, gIx, gLen, cLen, cT, cIx, gIsi, tyD, Option.map_some, gIn, gNin, cIn, gAll, c0, lstD, tupD, innE, wipeE, toBor, Bool.not_false, Bool.not_true, eq_self, List.map_cons, List.map_nil]
    exact q
theorem sc__is_char : FnScope ["c", "styles", "link"] ["c", "styles", "link"] (defScope (top 12)) := ⟨rfl, rfl, rfl, by decide +kernel, rfl, by decide +kernel, by decide +kernel⟩
theorem ok__is_char {P : Program} {w : World} {K : PySem.W.Frag} {mg : Str → Option Value} {base : Heap} (T : Txt K mg) (C : Cn K mg) (D__are_styles : Dn P w K mg base 1 "_are_styles" ["value"] F__are_styles) (D_is_link : Dn P w K mg base 2 "is_link" ["value"] F_is_link) (D__is_plain : Dn P w K mg base 1 "_is_plain" ["c"] F__is_plain) {f : Addr} {fd : FuncData} (U : Fun K "_is_char" "_is_char" (top 12) f fd) (dr : Option Addr) :
    FnG P w K mg base 3 f fd ["c", "styles", "link"] (SpD K dr [false, false, false] F__is_char) := by
  refine fnd_of (k := 2) U sc__is_char rfl (fun cdv A callers s0 H E G0 hr hga =>
    (sd_cons (sd_if (PW.pt (wd_or (td_not (td_val (pd_isi (pd_var 0 (pv 0)) rfl kit_str T.isinstance T.str))) (wd_or (td_cmp (cm_ne hr) (pd_bt bt_len T.len (ad_cons (pd_var 0 (pv 0)) ad_nil)) pd_int) (wd_or1 (td_not (td_val (pd_cl D__is_plain hr (by decide) hga (ad_cons (pd_var 0 (pv 0)) ad_nil)))))))) (sd_one (sd_ret pd_bl)) sd_nil)
      (sd_cons (sd_if (td_not (td_val (pd_cl D__are_styles hr (by decide) hga (ad_cons (pd_var 1 (pv 1)) ad_nil)))) (sd_one (sd_ret pd_bl)) sd_nil)
      (sd_one (sd_ret (pd_or (pd_cmp cm_isN (pd_var 2 (pv 2)) pd_non) (pd_one (pd_cl D_is_link hr (by decide) hga (ad_cons (pd_var 2 (pv 2)) ad_nil))))))))) ?_
  intro ds n Q hl hF
  obtain ⟨c, s, l, rfl, ⟨hc1, hc2, hc3⟩, hs, hll, q⟩ := hF
  cases c
  case str z =>
    have hz := Nat.le_trans (hc2 z rfl) line1000
    simp (config := {maxSteps := 10000000}) only [↓f_wC, ↓f_wVar, ↓f_wBin, ↓f_wBinV, ↓f_wBinR, ↓f_wT, ↓f_wChain, ↓f_wTru, ↓f_wTruV, ↓f_tAnd, ↓f_tOr, ↓f_tNot, ↓f_andV, ↓f_orV, ↓f_notV, ↓f_if, ↓f_noPart, ↓f_part, ↓f_sl, ↓f_slV, ↓f_nil, ↓f_cons, ↓f_bor, ↓f_tup, ↓f_lst, ↓f_fn, ↓f_isi, ↓f_mt, ↓f_call, ↓f_next, ↓f_seq, ↓f_break, ↓f_cont, ↓f_drop, ↓f_ret, ↓f_retN, ↓f_ifS, ↓f_set, ↓f_ofL, ↓f_sz, ↓f_own, ↓f_par, ↓f_par3, ↓f_asgT, ↓f_iL, ↓f_iT, ↓f_iS, ↓f_iR1, ↓f_for, ↓f_lc, ↓f_yes, ↓f_dgL, ↓f_dgA, ↓f_dgC, ↓f_dpL, ↓f_dpA, ↓f_app, ↓f_pop, env0, env1, ↓bl_bl, ↓int_int, ↓str_str, ↓get_some, get_if, vget, ownE, List.length_cons, List.length_nil, List.replicate, List.getElem?_cons_zero, List.getElem?_cons_succ, List.set_cons_zero, List.set_cons_succ, Nat.zero_add, Nat.add_sub_cancel, Nat.reduceAdd, Nat.reduceSub, Nat.reduceLT, Nat.reduceLeDiff, true_and, if_true, if_false, Bool.false_eq_true, List.length_set, gLt, gLe, gGt, gGe, gIx, gLen, cLen, cT, cIx, gIsi, tyD, Option.map_some, gIn, gNin, cIn, gAll, c0, lstD, tupD, innE, wipeE, toBor, Bool.not_false, Bool.not_true, eq_self, List.map_cons, List.map_nil]
    rw [if_neg (by decide)]
    refine ⟨hz, .inl rfl, ?_⟩
    simp only [gNe, get_some, eqD_int, bl_bl]
    by_cases h1 : z.length = 1
    · rw [if_neg (by simp [h1])]
      obtain ⟨x, rfl⟩ := one_of h1
      refine ⟨x, rfl, ?_⟩
      simp only [bl_bl, get_some]
      unfold charB at q
      rw [signB_one] at q
      cases h2 : plC x with
      | false =>
        rw [if_pos (by rfl)]
        simpa [h2] using q
      | true =>
        rw [if_neg (by decide)]
        refine ⟨s, rfl, hs, ?_⟩
        simp only [bl_bl, get_some]
        cases h3 : stylB s with
        | false =>
          rw [if_pos (by rfl)]
          simpa [h2, h3] using q
        | true =>
          rw [if_neg (by decide)]
          simp only [h2, h3, Bool.true_and] at q
          cases l
          case non => exact q
          case drw => exact absurd rfl hll.nd
          all_goals
            simp only [gIsN, isNon, get_some, bl_bl]
            rw [if_neg (by decide)]
            exact ⟨_, rfl, hll, by simpa [nonD] using q⟩
    · rw [if_pos (by simpa using (by omega : ¬ (z.length : Int) = 1))]
      unfold charB at q
      rw [signB_of h1] at q
      exact q
  case drw => exact absurd rfl hc1
  all_goals
    simp (config := {maxSteps := 10000000}) only [↓f_wC, ↓f_wVar, ↓f_wBin, ↓f_wBinV, ↓f_wBinR, ↓f_wT, ↓f_wChain, ↓f_wTru, ↓f_wTruV, ↓f_tAnd, ↓f_tOr, ↓f_tNot, ↓f_andV, ↓f_orV, ↓f_notV, ↓f_if, ↓f_noPart, ↓f_part, ↓f_sl, ↓f_slV, ↓f_nil, ↓f_cons, ↓f_bor, ↓f_tup, ↓f_lst, ↓f_fn, ↓f_isi, ↓f_mt, ↓f_call, ↓f_next, ↓f_seq, ↓f_break, ↓f_cont, ↓f_drop, ↓f_ret, ↓f_retN, ↓f_ifS, ↓f_set, ↓f_ofL, ↓f_sz, ↓f_own, ↓f_par, ↓f_par3, ↓f_asgT, ↓f_iL, ↓f_iT, ↓f_iS, ↓f_iR1, ↓f_for, ↓f_lc, ↓f_yes, ↓f_dgL, ↓f_dgA, ↓f_dgC, ↓f_dpL, ↓f_dpA, ↓f_app, ↓f_pop, env0, env1, ↓bl_bl, ↓int_int, ↓str_str, ↓get_some, get_if, vget, ownE, List.length_cons, List.length_nil, List.replicate, List.getElem?_cons_zero, List.getElem?_cons_succ, List.set_cons_zero, List.set_cons_succ, Nat.zero_add, Nat.add_sub_cancel, Nat.reduceAdd, Nat.reduceSub, Nat.reduceLT, Nat.reduceLeDiff, true_and, if_true, if_false, Bool.false_eq_true, List.length_set, gLt, gLe, gGt, gGe, gIx, gLen, cLen, cT, cIx, gIsi, tyD, Option.map_some, gIn, gNin, cIn, gAll, c0, lstD, tupD, innE, wipeE, toBor, Bool.not_false, Bool.not_true, eq_self, List.map_cons, List.map_nil]
    exact q
theorem sc_is_token : FnScope ["value", "word"] ["value"] (defScope (top 9)) := ⟨rfl, rfl, rfl, by decide +kernel, rfl, by decide +kernel, by decide +kernel⟩
theorem ok_is_token {P : Program} {w : World} {K : PySem.W.Frag} {mg : Str → Option Value} {base : Heap} (T : Txt K mg) (C : Cn K mg) (D_is_id : Dn P w K mg base 1 "is_id" ["value"] F_is_id) (D__is_char : Dn P w K mg base 3 "_is_char" ["c", "styles", "link"] F__is_char) (D_sort_of : Dn P w K mg base 1 "sort_of" ["kind"] F_sort_of) {f : Addr} {fd : FuncData} (U : Fun K "is_token" "is_token" (top 9) f fd) (dr : Option Addr) :
    FnG P w K mg base 4 f fd ["value"] (SpD K dr [false] F_is_token) := by
  refine fnd_of (k := 3) U sc_is_token rfl (fun cdv A callers s0 H E G0 hr hga =>
    (sd_cons (sd_if (PW.pt (wd_or (td_not (td_val (pd_isi (pd_var 0 (pv 0)) rfl kit_tuple T.isinstance T.tuple))) (wd_or (td_not (td_truV 0 (pv 0))) (wd_or1 (td_not (td_val (pd_isi (pd_ix (pd_var 0 (pv 0)) pd_int) rfl kit_str T.isinstance T.str))))))) (sd_one (sd_ret pd_bl)) sd_nil)
      (sd_cons (sd_set 1 sc_is_token.nd (pd_ix (pd_var 0 (pv 0)) pd_int))
      (sd_cons (sd_if (td_cmp (cm_eq hr) (pd_var 1 (pv 1)) pd_str) (sd_one (sd_ret (pd_and (pd_cmp (cm_eq hr) (pd_bt bt_len T.len (ad_cons (pd_var 0 (pv 0)) ad_nil)) pd_int) (pd_one (pd_cl D__is_char hr (by decide) hga (ad_cons (pd_ix (pd_var 0 (pv 0)) pd_int) (ad_cons (pd_ix (pd_var 0 (pv 0)) pd_int) (ad_cons (pd_ix (pd_var 0 (pv 0)) pd_int) ad_nil)))))))) sd_nil)
      (sd_cons (sd_if (td_cmp (cm_ne hr) (pd_bt bt_len T.len (ad_cons (pd_var 0 (pv 0)) ad_nil)) pd_int) (sd_one (sd_ret pd_bl)) sd_nil)
      (sd_cons (sd_if (PW.pt (wd_or (td_cmp (cm_eq hr) (pd_var 1 (pv 1)) pd_str) (wd_or1 (td_cmp (cm_eq hr) (pd_var 1 (pv 1)) pd_str)))) (sd_one (sd_ret (pd_cmp cm_notN (pd_cl D_sort_of hr (by decide) hga (ad_cons (pd_ix (pd_var 0 (pv 0)) pd_int) ad_nil)) pd_non))) sd_nil)
      (sd_one (sd_ret (pd_and (pd_or (pd_cmp (cm_eq hr) (pd_var 1 (pv 1)) pd_str) (pd_one (pd_cmp (cm_eq hr) (pd_var 1 (pv 1)) pd_str))) (pd_one (pd_cl D_is_id hr (by decide) hga (ad_cons (pd_ix (pd_var 0 (pv 0)) pd_int) ad_nil)))))))))))) ?_
  intro ds n Q hl hF
  obtain ⟨d, rfl, ⟨⟨hc1, hc2, hc3⟩, ht⟩, q⟩ := hF
  cases d
  case tup es =>
    obtain ⟨hz, he⟩ := ht _ rfl
    simp (config := {maxSteps := 10000000}) only [↓f_wC, ↓f_wVar, ↓f_wBin, ↓f_wBinV, ↓f_wBinR, ↓f_wT, ↓f_wChain, ↓f_wTru, ↓f_wTruV, ↓f_tAnd, ↓f_tOr, ↓f_tNot, ↓f_andV, ↓f_orV, ↓f_notV, ↓f_if, ↓f_noPart, ↓f_part, ↓f_sl, ↓f_slV, ↓f_nil, ↓f_cons, ↓f_bor, ↓f_tup, ↓f_lst, ↓f_fn, ↓f_isi, ↓f_mt, ↓f_call, ↓f_next, ↓f_seq, ↓f_break, ↓f_cont, ↓f_drop, ↓f_ret, ↓f_retN, ↓f_ifS, ↓f_set, ↓f_ofL, ↓f_sz, ↓f_own, ↓f_par, ↓f_par3, ↓f_asgT, ↓f_iL, ↓f_iT, ↓f_iS, ↓f_iR1, ↓f_for, ↓f_lc, ↓f_yes, ↓f_dgL, ↓f_dgA, ↓f_dgC, ↓f_dpL, ↓f_dpA, ↓f_app, ↓f_pop, env0, env1, ↓bl_bl, ↓int_int, ↓str_str, ↓get_some, get_if, vget, ownE, List.length_cons, List.length_nil, List.replicate, List.getElem?_cons_zero, List.getElem?_cons_succ, List.set_cons_zero, List.set_cons_succ, Nat.zero_add, Nat.add_sub_cancel, Nat.reduceAdd, Nat.reduceSub, Nat.reduceLT, Nat.reduceLeDiff, true_and, if_true, if_false, Bool.false_eq_true, List.length_set, gLt, gLe, gGt, gGe, gIx, gLen, cLen, cT, cIx, gIsi, tyD, Option.map_some, gIn, gNin, cIn, gAll, c0, lstD, tupD, innE, wipeE, toBor, Bool.not_false, Bool.not_true, eq_self, List.map_cons, List.map_nil]
    rw [if_neg (by decide)]
    simp only [cTru, truD, get_some, true_and]
    cases es with
    | nil =>
      rw [if_pos (by rfl)]
      exact q
    | cons e es =>
      rw [if_neg (by simp)]
      simp only [atI0, get_some]
      cases e
      case str x =>
        simp only [tyD, Option.map_some, get_some, bl_bl]
        rw [if_neg (by decide)]
        simp only [eqD_str, gEq, get_some, bl_bl]
        refine ⟨.inl rfl, ?_⟩
        simp only [tokB] at q
        by_cases h1 : x = "char"
        · rw [if_pos (by simp [h1])]
          rw [if_pos h1] at q
          refine ⟨.inl rfl, ?_⟩
          simp only [eqD_int, get_some, bl_bl]
          match es, he, q with
          | [c, s, l], he, q =>
            rw [if_pos (by simp)]
            refine ⟨c, s, l, rfl, (he c (by simp)).s, he s (by simp), (he l (by simp)).s, q⟩
          | [], he, q => exact q
          | [_], he, q => exact q
          | [_, _], he, q => exact q
          | _ :: _ :: _ :: _ :: _, he, q =>
            rw [if_neg (by simp; omega)]
            exact q
        · rw [if_neg (by simpa using h1)]
          rw [if_neg h1] at q
          refine ⟨.inl rfl, ?_⟩
          simp only [eqD_int, gNe, get_some, bl_bl]
          match es, he, q with
          | [], he, q => exact q
          | _ :: _ :: _, he, q =>
            rw [if_pos (by simp; omega)]
            exact q
          | [y], he, q =>
            rw [if_neg (by simp)]
            refine ⟨.inl rfl, ?_⟩
            have q : Q (.bl (if x = "open" ∨ x = "close" then kinB y else (decide (x = "anchor") || decide (x = "image")) && idB y)) n := q
            by_cases h2 : x = "open"
            · rw [if_pos (by simp [h2])]
              rw [if_pos (Or.inl h2)] at q
              refine ⟨y, rfl, (he y (by simp)).s, ?_⟩
              exact q
            · rw [if_neg (by simpa using h2)]
              refine ⟨.inl rfl, ?_⟩
              by_cases h3 : x = "close"
              · rw [if_pos (by simp [h3])]
                rw [if_pos (Or.inr h3)] at q
                refine ⟨y, rfl, (he y (by simp)).s, ?_⟩
                exact q
              · rw [if_neg (by simpa using h3)]
                rw [if_neg (by simp [h2, h3])] at q
                refine ⟨.inl rfl, ?_⟩
                by_cases h4 : x = "anchor"
                · rw [if_pos (by simp [h4])]
                  refine ⟨y, rfl, (he y (by simp)).s, ?_⟩
                  simpa [h4] using q
                · rw [if_neg (by simpa using h4)]
                  refine ⟨.inl rfl, ?_⟩
                  by_cases h5 : x = "image"
                  · rw [if_pos (by simp [h5])]
                    refine ⟨y, rfl, (he y (by simp)).s, ?_⟩
                    simpa [h4, h5] using q
                  · rw [if_neg (by simpa using h5)]
                    simpa [h4, h5] using q
      case drw => exact absurd rfl (he .drw (by simp)).s.nd
      all_goals exact q
  case drw => exact absurd rfl hc1
  all_goals
    simp (config := {maxSteps := 10000000}) only [↓f_wC, ↓f_wVar, ↓f_wBin, ↓f_wBinV, ↓f_wBinR, ↓f_wT, ↓f_wChain, ↓f_wTru, ↓f_wTruV, ↓f_tAnd, ↓f_tOr, ↓f_tNot, ↓f_andV, ↓f_orV, ↓f_notV, ↓f_if, ↓f_noPart, ↓f_part, ↓f_sl, ↓f_slV, ↓f_nil, ↓f_cons, ↓f_bor, ↓f_tup, ↓f_lst, ↓f_fn, ↓f_isi, ↓f_mt, ↓f_call, ↓f_next, ↓f_seq, ↓f_break, ↓f_cont, ↓f_drop, ↓f_ret, ↓f_retN, ↓f_ifS, ↓f_set, ↓f_ofL, ↓f_sz, ↓f_own, ↓f_par, ↓f_par3, ↓f_asgT, ↓f_iL, ↓f_iT, ↓f_iS, ↓f_iR1, ↓f_for, ↓f_lc, ↓f_yes, ↓f_dgL, ↓f_dgA, ↓f_dgC, ↓f_dpL, ↓f_dpA, ↓f_app, ↓f_pop, env0, env1, ↓bl_bl, ↓int_int, ↓str_str, ↓get_some, get_if, vget, ownE, List.length_cons, List.length_nil, List.replicate, List.getElem?_cons_zero, List.getElem?_cons_succ, List.set_cons_zero, List.set_cons_succ, Nat.zero_add, Nat.add_sub_cancel, Nat.reduceAdd, Nat.reduceSub, Nat.reduceLT, Nat.reduceLeDiff, true_and, if_true, if_false, Bool.false_eq_true, List.length_set, gLt, gLe, gGt, gGe, gIx, gLen, cLen, cT, cIx, gIsi, tyD, Option.map_some, gIn, gNin, cIn, gAll, c0, lstD, tupD, innE, wipeE, toBor, Bool.not_false, Bool.not_true, eq_self, List.map_cons, List.map_nil]
    exact q
theorem sc__law_mixed : FnScope ["cell", "k", "mixed"] ["cell", "k"] (defScope (top 16)) := ⟨rfl, rfl, rfl, by decide +kernel, rfl, by decide +kernel, by decide +kernel⟩
theorem ok__law_mixed {P : Program} {w : World} {K : PySem.W.Frag} {mg : Str → Option Value} {base : Heap} (T : Txt K mg) (C : Cn K mg) {f : Addr} {fd : FuncData} (U : Fun K "_law_mixed" "_law_mixed" (top 16) f fd) (dr : Option Addr) :
    FnG P w K mg base 1 f fd ["cell", "k"] (SpD K dr [false, false] F__law_mixed) := by
  refine fnd_of (k := 0) U sc__law_mixed rfl (fun cdv A callers s0 H E G0 hr hga =>
    (sd_cons (sd_set 2 sc__law_mixed.nd (pd_mod (pd_bt bt_int T.int (ad_cons (pd_add (pd_add (pd_add (pd_mod (pd_bt bt_int T.int (ad_cons (pd_var 0 (pv 0)) ad_nil)) pd_int) (pd_mul (pd_mul pd_int (pd_var 1 (pv 1))) (pd_var 1 (pv 1)))) (pd_mul pd_int (pd_var 1 (pv 1)))) pd_int) ad_nil)) pd_int))
      (sd_cons (sd_set 2 sc__law_mixed.nd (pd_mod (pd_bt bt_int T.int (ad_cons (pd_mul (pd_mod (pd_bt bt_int T.int (ad_cons (pd_mul (pd_var 2 (pv 2)) (pd_var 2 (pv 2))) ad_nil)) pd_int) (pd_var 2 (pv 2))) ad_nil)) pd_int))
      (sd_one (sd_ret (pd_div (pd_mod (pd_bt bt_int T.int (ad_cons (pd_mul (pd_var 2 (pv 2)) (pd_add pd_int (pd_mul pd_int (pd_mod (pd_bt bt_int T.int (ad_cons (pd_var 1 (pv 1)) ad_nil)) pd_int)))) ad_nil)) pd_int) pd_int)))))) ?_
  intro ds n Q hl hF
  obtain ⟨c, k, rfl, h0, h1, q⟩ := hF
  simp (config := {maxSteps := 10000000}) only [↓f_wC, ↓f_wVar, ↓f_wBin, ↓f_wBinV, ↓f_wBinR, ↓f_wT, ↓f_wChain, ↓f_wTru, ↓f_wTruV, ↓f_tAnd, ↓f_tOr, ↓f_tNot, ↓f_andV, ↓f_orV, ↓f_notV, ↓f_if, ↓f_noPart, ↓f_part, ↓f_sl, ↓f_slV, ↓f_nil, ↓f_cons, ↓f_bor, ↓f_tup, ↓f_lst, ↓f_fn, ↓f_isi, ↓f_mt, ↓f_call, ↓f_next, ↓f_seq, ↓f_break, ↓f_cont, ↓f_drop, ↓f_ret, ↓f_retN, ↓f_ifS, ↓f_set, ↓f_ofL, ↓f_sz, ↓f_own, ↓f_par, ↓f_par3, ↓f_asgT, ↓f_iL, ↓f_iT, ↓f_iS, ↓f_iR1, ↓f_for, ↓f_lc, ↓f_yes, ↓f_dgL, ↓f_dgA, ↓f_dgC, ↓f_dpL, ↓f_dpA, ↓f_app, ↓f_pop, env0, env1, ↓bl_bl, ↓int_int, ↓str_str, ↓get_some, get_if, vget, ownE, List.length_cons, List.length_nil, List.replicate, List.getElem?_cons_zero, List.getElem?_cons_succ, List.set_cons_zero, List.set_cons_succ, Nat.zero_add, Nat.add_sub_cancel, Nat.reduceAdd, Nat.reduceSub, Nat.reduceLT, Nat.reduceLeDiff, true_and, if_true, if_false, Bool.false_eq_true, List.length_set, gLt, gLe, gGt, gGe, gIx, gLen, cLen, cT, cIx, gIsi, tyD, Option.map_some, gIn, gNin, cIn, gAll, c0, lstD, tupD, innE, wipeE, toBor, Bool.not_false, Bool.not_true, eq_self, List.map_cons, List.map_nil]
  simp only [gInt, get_some, gI, gMulI, cI, cMul, cMod, cDiv, gMod, gDiv, DI.gSub, gAdd, cAdd]
  have hm : ∀ {a b : Int}, CMul (a % 2147483647) b := cm_mod (by decide) (by decide)
  have hm2 : ∀ {a b : Int}, CMul (a % 2147483629) b := cm_mod (by decide) (by decide)
  exact ⟨by decide, .inl ⟨by decide, by decide⟩, .inr ⟨by omega, by omega⟩, trivial, .inl ⟨by decide, by decide⟩, trivial, trivial, by decide, hm, by decide, hm, by decide, by decide, .inl ⟨by decide, by decide⟩, trivial, hm2, by decide, ⟨by decide, by decide⟩, q _⟩
theorem sc__law_next : FnScope ["draw", "bound", "found", "every", "cell"] ["draw", "bound"] (defScope (top 17)) := ⟨rfl, rfl, rfl, by decide +kernel, rfl, by decide +kernel, by decide +kernel⟩
theorem ok__law_next {P : Program} {w : World} {K : PySem.W.Frag} {mg : Str → Option Value} {base : Heap} (T : Txt K mg) (C : Cn K mg) (D__law_mixed : Dn P w K mg base 1 "_law_mixed" ["cell", "k"] F__law_mixed) {f : Addr} {fd : FuncData} (U : Fun K "_law_next" "_law_next" (top 17) f fd) (dr : Option Addr) :
    FnG P w K mg base 2 f fd ["draw", "bound"] (SpD K dr [false, false] F__law_next) := by
  refine fnd_of (k := 1) U sc__law_next rfl (fun cdv A callers s0 H E G0 hr hga =>
    (sd_cons (sd_if (td_cmp cm_gt (dgL_of hr 0 (pv 0)) pd_int) (sd_cons (sd_set 2 sc__law_next.nd (pd_mod (pd_bt bt_int T.int (ad_cons (dgL_of hr 0 (pv 0)) ad_nil)) (pd_var 1 (pv 1))))
      (sd_cons (sdpL hr 0 (pv 0) (pd_div (dgL_of hr 0 (pv 0)) (pd_var 1 (pv 1))))
      (sd_one (sd_ret (pd_var 2 (pv 2)))))) sd_nil)
      (sd_cons (sd_set 3 sc__law_next.nd (dgC_of hr 0 (pv 0)))
      (sd_cons (sd_set 4 sc__law_next.nd (pd_ix (pd_var 3 (pv 3)) (pd_mod (pd_bt bt_int T.int (ad_cons (dgA_of hr 0 (pv 0)) ad_nil)) (pd_bt bt_len T.len (ad_cons (pd_var 3 (pv 3)) ad_nil)))))
      (sd_cons (sdpA hr 0 (pv 0) (pd_add (dgA_of hr 0 (pv 0)) pd_int))
      (sd_cons (sd_if (PW.pt (wd_and (td_cmp cm_ge (pd_var 4 (pv 4)) (pd_pow pd_int pd_int)) (wd_and1 (td_cmp cm_le (dgA_of hr 0 (pv 0)) (pd_bt bt_len T.len (ad_cons (pd_var 3 (pv 3)) ad_nil)))))) (sd_cons (sdpL hr 0 (pv 0) (pd_div (pd_var 4 (pv 4)) (pd_var 1 (pv 1))))
      (sd_one (sd_ret (pd_mod (pd_bt bt_int T.int (ad_cons (pd_var 4 (pv 4)) ad_nil)) (pd_var 1 (pv 1)))))) sd_nil)
      (sd_cons (sdpU hr 0 (pv 0) (pd_add (dgU_of hr 0 (pv 0)) pd_int))
      (sd_one (sd_ret (pd_mod (pd_bt bt_int T.int (ad_cons (pd_cl D__law_mixed hr (by decide) hga (ad_cons (pd_cl D__law_mixed hr (by decide) hga (ad_cons (pd_var 4 (pv 4)) (ad_cons (dgA_of hr 0 (pv 0)) ad_nil))) (ad_cons (dgU_of hr 0 (pv 0)) ad_nil))) ad_nil)) (pd_var 1 (pv 1)))))))))))) ?_
  intro ds n Q hl hF
  obtain ⟨b, rfl, hn, h0, h1, q⟩ := hF
  simp (config := {maxSteps := 10000000}) only [↓f_wC, ↓f_wVar, ↓f_wBin, ↓f_wBinV, ↓f_wBinR, ↓f_wT, ↓f_wChain, ↓f_wTru, ↓f_wTruV, ↓f_tAnd, ↓f_tOr, ↓f_tNot, ↓f_andV, ↓f_orV, ↓f_notV, ↓f_if, ↓f_noPart, ↓f_part, ↓f_sl, ↓f_slV, ↓f_nil, ↓f_cons, ↓f_bor, ↓f_tup, ↓f_lst, ↓f_fn, ↓f_isi, ↓f_mt, ↓f_call, ↓f_next, ↓f_seq, ↓f_break, ↓f_cont, ↓f_drop, ↓f_ret, ↓f_retN, ↓f_ifS, ↓f_set, ↓f_ofL, ↓f_sz, ↓f_own, ↓f_par, ↓f_par3, ↓f_asgT, ↓f_iL, ↓f_iT, ↓f_iS, ↓f_iR1, ↓f_for, ↓f_lc, ↓f_yes, ↓f_dgL, ↓f_dgA, ↓f_dgC, ↓f_dpL, ↓f_dpA, ↓f_app, ↓f_pop, env0, env1, ↓bl_bl, ↓int_int, ↓str_str, ↓get_some, get_if, vget, ownE, List.length_cons, List.length_nil, List.replicate, List.getElem?_cons_zero, List.getElem?_cons_succ, List.set_cons_zero, List.set_cons_succ, Nat.zero_add, Nat.add_sub_cancel, Nat.reduceAdd, Nat.reduceSub, Nat.reduceLT, Nat.reduceLeDiff, true_and, if_true, if_false, Bool.false_eq_true, List.length_set, gLt, gLe, gGt, gGe, gIx, gLen, cLen, cT, cIx, gIsi, tyD, Option.map_some, gIn, gNin, cIn, gAll, c0, lstD, tupD, innE, wipeE, toBor, Bool.not_false, Bool.not_true, eq_self, List.map_cons, List.map_nil]
  intro l
  have Qb : ∀ a : Int, Q (.int (a % b)) (n + 2) := fun a => q _ (Int.emod_nonneg _ (Int.ne_of_gt h0)) (Int.emod_lt_of_pos _ h0)
  split
  · intro l2
    simp only [gInt, get_some, gI, cI, cMod, cDiv, gMod, gDiv]
    exact ⟨h0, fun l3 => ⟨⟨h0, h1⟩, _, n + 2, rfl, by omega, Qb _⟩⟩
  · intro ns k1 k2 l2 l20 l21
    simp only [gInt, get_some, gI, cI, cMod, gMod, List.length_map]
    have kz : (0 : Int) < (ns.length : Int) := by omega
    refine ⟨kz, ?_⟩
    obtain ⟨a, ea, ma⟩ := atI_lt (xs := ns.map D.int) (i := l2 % (ns.length : Int)) (Int.emod_nonneg _ (by omega)) (by rw [List.length_map]; exact Int.emod_lt_of_pos _ kz)
    obtain ⟨c, _, rfl⟩ := List.mem_map.mp ma
    rw [ea]
    simp only [get_some]
    intro l3 l30 l31
    simp only [gAdd, cAdd, get_some, true_and]
    refine ⟨_, rfl, by omega, by omega, ?_⟩
    simp only [gPow, cPow, gI, cI, get_some]
    refine ⟨⟨by decide, by decide, by decide⟩, ?_⟩
    simp only [bl_bl, get_some]
    split
    · intro l4 l40 l41
      split
      · exact ⟨⟨h0, h1⟩, _, n + 2, rfl, by omega, h0, Qb _⟩
      · intro l5 l50 l51
        refine ⟨_, rfl, by omega, by omega, ?_⟩
        intro l6 l60 l61
        refine ⟨c, l6, rfl, l60, by omega, fun r => ?_⟩
        intro l7 l70 l71
        refine ⟨r, l7, rfl, l70, by omega, fun r2 => ?_⟩
        exact ⟨h0, Qb _⟩
    · intro l5 l50 l51
      refine ⟨_, rfl, by omega, by omega, ?_⟩
      intro l6 l60 l61
      refine ⟨c, l6, rfl, l60, by omega, fun r => ?_⟩
      intro l7 l70 l71
      refine ⟨r, l7, rfl, l70, by omega, fun r2 => ?_⟩
      exact ⟨h0, Qb _⟩
theorem sc__law_word : FnScope ["draw", "letters", "size", "found", "at", "way", "odd", "k"] ["draw"] (defScope (top 18)) := ⟨rfl, rfl, rfl, by decide +kernel, rfl, by decide +kernel, by decide +kernel⟩
theorem ok__law_word {P : Program} {w : World} {K : PySem.W.Frag} {mg : Str → Option Value} {base : Heap} (T : Txt K mg) (C : Cn K mg) (D__law_next : Dn P w K mg base 2 "_law_next" ["draw", "bound"] F__law_next) {f : Addr} {fd : FuncData} (U : Fun K "_law_word" "_law_word" (top 18) f fd) (dr : Option Addr) :
    FnG P w K mg base 3 f fd ["draw"] (SpD K dr [false] F__law_word) := by
  refine fnd_of (k := 2) U sc__law_word rfl (fun cdv A callers s0 H E G0 hr hga =>
    (sd_cons (sd_set 1 sc__law_word.nd pd_str)
      (sd_cons (sd_set 2 sc__law_word.nd (pd_ix (pd_lst (ad_cons pd_int (ad_cons pd_int (ad_cons pd_int (ad_cons pd_int (ad_cons pd_int (ad_cons pd_int ad_nil))))))) (pd_cl D__law_next hr (by decide) hga (ad_cons (pd_var 0 (pv 0)) (ad_cons pd_int ad_nil)))))
      (sd_cons (sd_set 3 sc__law_word.nd (pd_add (pd_ix pd_str (pd_cl D__law_next hr (by decide) hga (ad_cons (pd_var 0 (pv 0)) (ad_cons pd_int ad_nil)))) (pd_mt (mt_jn) pd_str (pd_ofL (ld_lc (own := [("k", 7)]) sc__law_word.nd (id_range1 (ad_cons (pd_sub (pd_var 2 (pv 2)) pd_int) ad_nil) T.range) (lct_name) (by change blkC ["draw", "letters", "size", "found", "at", "way", "odd", "k"] (defScope (top 18)) _ _ = true; decide +kernel) (fun _ _ _ _ _ => pg_name (i := 7) sc__law_word.nd rfl (.inl rfl)) (fun _ _ _ _ _ _ _ => (pts_yes)) (fun _ _ _ _ _ _ _ => (pd_ix (pd_var 1 (pv 1)) (pd_cl D__law_next hr (by decide) hga (ad_cons (pd_var 0 (pv 0)) (ad_cons pd_int ad_nil))))))))))
      (sd_cons (sd_par 4 5 sc__law_word.nd (ad_cons (pd_cl D__law_next hr (by decide) hga (ad_cons (pd_var 0 (pv 0)) (ad_cons (pd_var 2 (pv 2)) ad_nil))) (ad_cons (pd_cl D__law_next hr (by decide) hga (ad_cons (pd_var 0 (pv 0)) (ad_cons pd_int ad_nil))) ad_nil)))
      (sd_cons (sd_set 6 sc__law_word.nd (pd_ix (pd_lst (ad_cons pd_str (ad_cons pd_str (ad_cons pd_str (ad_cons pd_str (ad_cons pd_str (ad_cons pd_str ad_nil))))))) (pd_cl D__law_next hr (by decide) hga (ad_cons (pd_var 0 (pv 0)) (ad_cons pd_int ad_nil)))))
      (sd_one (sd_ret (pd_ix (pd_lst (ad_cons (pd_var 3 (pv 3)) (ad_cons (pd_var 3 (pv 3)) (ad_cons (pd_var 3 (pv 3)) (ad_cons (pd_add (pd_add (pd_sl (pd_var 3 (pv 3)) od_none (od_some (pd_var 4 (pv 4)))) (pd_var 6 (pv 6))) (pd_sl (pd_var 3 (pv 3)) (od_some (pd_add (pd_var 4 (pv 4)) pd_int)) od_none)) (ad_cons (pd_add pd_str (pd_var 3 (pv 3))) (ad_cons pd_str ad_nil))))))) (pd_var 5 (pv 5))))))))))) ?_
  intro ds n Q hl hF
  obtain ⟨rfl, hn, q⟩ := hF
  simp (config := {maxSteps := 10000000}) only [↓f_wC, ↓f_wVar, ↓f_wBin, ↓f_wBinV, ↓f_wBinR, ↓f_wT, ↓f_wChain, ↓f_wTru, ↓f_wTruV, ↓f_tAnd, ↓f_tOr, ↓f_tNot, ↓f_andV, ↓f_orV, ↓f_notV, ↓f_if, ↓f_noPart, ↓f_part, ↓f_sl, ↓f_slV, ↓f_nil, ↓f_cons, ↓f_bor, ↓f_tup, ↓f_lst, ↓f_fn, ↓f_isi, ↓f_mt, ↓f_call, ↓f_next, ↓f_seq, ↓f_break, ↓f_cont, ↓f_drop, ↓f_ret, ↓f_retN, ↓f_ifS, ↓f_set, ↓f_ofL, ↓f_sz, ↓f_own, ↓f_par, ↓f_par3, ↓f_asgT, ↓f_iL, ↓f_iT, ↓f_iS, ↓f_iR1, ↓f_for, ↓f_lc, ↓f_yes, ↓f_dgL, ↓f_dgA, ↓f_dgC, ↓f_dpL, ↓f_dpA, ↓f_app, ↓f_pop, env0, env1, ↓bl_bl, ↓int_int, ↓str_str, ↓get_some, get_if, vget, ownE, List.length_cons, List.length_nil, List.replicate, List.getElem?_cons_zero, List.getElem?_cons_succ, List.set_cons_zero, List.set_cons_succ, Nat.zero_add, Nat.add_sub_cancel, Nat.reduceAdd, Nat.reduceSub, Nat.reduceLT, Nat.reduceLeDiff, true_and, if_true, if_false, Bool.false_eq_true, List.length_set, gLt, gLe, gGt, gGe, gIx, gLen, cLen, cT, cIx, gIsi, tyD, Option.map_some, gIn, gNin, cIn, gAll, c0, lstD, tupD, innE, wipeE, toBor, Bool.not_false, Bool.not_true, eq_self, List.map_cons, List.map_nil]
  refine ⟨by decide, next_of (by omega) (by decide) (by decide) fun r r0 r1 => ?_⟩
  try dsimp only
  refine pick_of (P := fun d => ∃ s : Int, d = .int s ∧ 1 ≤ s ∧ s ≤ 17) r0 (by simpa using r1) (by
    intro x hx
    simp only [List.mem_cons, List.not_mem_nil, or_false] at hx
    rcases hx with rfl | rfl | rfl | rfl | rfl | rfl <;> exact ⟨_, rfl, by decide +kernel, by decide +kernel⟩) ?_
  rintro _ ⟨s, rfl, s1, s2⟩
  refine next_of (by omega) (by decide) (by decide) fun r r0 r1 => ⟨by decide, ?_⟩
  refine pick_sign r0 r1 (by decide +kernel) fun y0 hy0 ky0 => ?_
  simp only [DI.gSub, gI, get_some]
  refine ⟨s - 1, rfl, by omega, by omega, ?_⟩
  refine lcGo_draw (R := TxtD 1) (c := 2) (N := n + 60) _ _ _ (fun d hd n' hn' P k => ?_) (by rw [rng_len, List.length_nil]; exact line2 (by omega)) (by rw [rng_len]; omega) fun ys m e1 e2 e3 e4 => ?_
  · rw [gNm_lt (by simp [innE_length])]
    simp (config := {maxSteps := 10000000}) only [↓f_wC, ↓f_wVar, ↓f_wBin, ↓f_wBinV, ↓f_wBinR, ↓f_wT, ↓f_wChain, ↓f_wTru, ↓f_wTruV, ↓f_tAnd, ↓f_tOr, ↓f_tNot, ↓f_andV, ↓f_orV, ↓f_notV, ↓f_if, ↓f_noPart, ↓f_part, ↓f_sl, ↓f_slV, ↓f_nil, ↓f_cons, ↓f_bor, ↓f_tup, ↓f_lst, ↓f_fn, ↓f_isi, ↓f_mt, ↓f_call, ↓f_next, ↓f_seq, ↓f_break, ↓f_cont, ↓f_drop, ↓f_ret, ↓f_retN, ↓f_ifS, ↓f_set, ↓f_ofL, ↓f_sz, ↓f_own, ↓f_par, ↓f_par3, ↓f_asgT, ↓f_iL, ↓f_iT, ↓f_iS, ↓f_iR1, ↓f_for, ↓f_lc, ↓f_yes, ↓f_dgL, ↓f_dgA, ↓f_dgC, ↓f_dpL, ↓f_dpA, ↓f_app, ↓f_pop, env0, env1, ↓bl_bl, ↓int_int, ↓str_str, ↓get_some, get_if, vget, ownE, List.length_cons, List.length_nil, List.replicate, List.getElem?_cons_zero, List.getElem?_cons_succ, List.set_cons_zero, List.set_cons_succ, Nat.zero_add, Nat.add_sub_cancel, Nat.reduceAdd, Nat.reduceSub, Nat.reduceLT, Nat.reduceLeDiff, true_and, if_true, if_false, Bool.false_eq_true, List.length_set, gLt, gLe, gGt, gGe, gIx, gLen, cLen, cT, cIx, gIsi, tyD, Option.map_some, gIn, gNin, cIn, gAll, c0, lstD, tupD, innE, wipeE, toBor, Bool.not_false, Bool.not_true, eq_self, List.map_cons, List.map_nil]
    refine next_of (by omega) (by decide) (by decide) fun r r0 r1 => ⟨by decide, ?_⟩
    refine pick_sign r0 r1 (by decide +kernel) fun y hy ky => ?_
    exact k _ _ ⟨y, rfl, Nat.le_of_eq hy, ky⟩ (by simp only; omega) (by simp only; omega)
  rw [rng_len] at e1 e4
  obtain ⟨zs, rfl, hzs⟩ := strs_all ys e2
  rw [List.length_map] at e1
  rw [List.nil_append]
  refine ⟨cJoin_ok hzs (by omega), ?_⟩
  rw [gJoin_eq]
  obtain ⟨j1, j2⟩ := join_ok hzs
  generalize Txt.join "" zs = jj at *
  simp only [get_some, cAdd, gAdd]
  refine ⟨line2 (by omega), ?_⟩
  have kf : okZ (y0 ++ jj) := okZ_app.mpr ⟨ky0, j1⟩
  have lf : (y0 ++ jj).length ≤ 17 := by rw [app_len]; omega
  generalize y0 ++ jj = found at *
  refine next_of (by omega) (by omega) (by omega) fun at_ a0 a1 => ?_
  refine next_of (by omega) (by decide) (by decide) fun way w0 w1 => ?_
  refine ⟨_, _, rfl, by decide, ?_⟩
  refine next_of (by omega) (by decide) (by decide) fun r r0 r1 => ?_
  refine pick_of (P := TxtD 1) r0 (by simpa using r1) (by
    intro x hx
    simp only [List.mem_cons, List.not_mem_nil, or_false] at hx
    rcases hx with rfl | rfl | rfl | rfl | rfl | rfl <;> exact ⟨_, rfl, by decide +kernel, by decide +kernel⟩) ?_
  rintro _ ⟨odd, rfl, lo, ko⟩
  have l1 := cut_len found none (some at_)
  have l2 := cut_len found (some (at_ + 1)) none
  have k1 := cutS_ok none (some at_) kf
  have k2 := cutS_ok (some (at_ + 1)) none kf
  try simp only [int_int, get_some, gSl, cSl]
  try dsimp only
  generalize cutS found none (some at_) = c1 at *
  refine ⟨line2 (by omega), line2 (by omega), trivial, ?_⟩
  try simp only [int_int, get_some, gSl, cSl]
  generalize cutS found (some (at_ + 1)) none = c2 at *
  refine ⟨line2 (by omega), ?_, ?_, by decide, ?_⟩
  · rw [app_len]
    exact line2 (by omega)
  · have : ("7" : Str).length = 1 := by decide +kernel
    rw [this]
    exact line2 (by omega)
  refine pick_of (P := TxtD 40) w0 (by simpa using w1) (by
    intro x hx
    simp only [List.mem_cons, List.not_mem_nil, or_false] at hx
    have h7 : ("7" : Str).length = 1 := by decide +kernel
    have k7 : okZ "7" := by decide +kernel
    rcases hx with rfl | rfl | rfl | rfl | rfl | rfl
    · exact ⟨_, rfl, by omega, kf⟩
    · exact ⟨_, rfl, by omega, kf⟩
    · exact ⟨_, rfl, by omega, kf⟩
    · exact ⟨_, rfl, by rw [app_len, app_len]; omega, okZ_app.mpr ⟨okZ_app.mpr ⟨k1, ko⟩, k2⟩⟩
    · exact ⟨_, rfl, by rw [app_len]; omega, okZ_app.mpr ⟨k7, kf⟩⟩
    · exact ⟨_, rfl, by decide +kernel, by decide +kernel⟩) fun d hd => ?_
  exact q d _ hd (by omega) (by omega)
theorem sc__law_is_id : FnScope ["thing", "sign"] ["thing"] (defScope (top 19)) := ⟨rfl, rfl, rfl, by decide +kernel, rfl, by decide +kernel, by decide +kernel⟩
theorem ok__law_is_id {P : Program} {w : World} {K : PySem.W.Frag} {mg : Str → Option Value} {base : Heap} (T : Txt K mg) (C : Cn K mg) {f : Addr} {fd : FuncData} (U : Fun K "_law_is_id" "_law_is_id" (top 19) f fd) (dr : Option Addr) :
    FnG P w K mg base 1 f fd ["thing"] (SpD K dr [false] F__law_is_id) := by
  refine fnd_of (k := 0) U sc__law_is_id rfl (fun cdv A callers s0 H E G0 hr hga =>
    (sd_cons (sd_if (PW.pt (wd_or (td_not (td_val (pd_isi (pd_var 0 (pv 0)) rfl kit_str T.isinstance T.str))) (wd_or (td_not (td_chain cm_le cm_le pd_int (pd_bt bt_len T.len (ad_cons (pd_var 0 (pv 0)) ad_nil)) pd_int)) (wd_or1 (td_not (td_chain cm_le cm_le pd_str (pd_ix (pd_var 0 (pv 0)) pd_int) pd_str)))))) (sd_one (sd_ret pd_bl)) sd_nil)
      (sd_one (sd_ret (pd_cmp (cm_eq hr) (pd_ofL (ld_lc (own := [("sign", 1)]) sc__law_is_id.nd (id_str (pd_var 0 (pv 0))) (lct_name) (by change blkC ["thing", "sign"] (defScope (top 19)) _ _ = true; decide +kernel) (fun _ _ _ _ _ => pg_name (i := 1) sc__law_is_id.nd rfl (.inl rfl)) (fun _ _ _ _ _ _ _ => (pts_of (td_not (PW.pt (wd_or (td_chain cm_le cm_le pd_str (pd_var 1 (pv 1)) pd_str) (wd_or1 (td_chain cm_le cm_le pd_str (pd_var 1 (pv 1)) pd_str))))))) (fun _ _ _ _ _ _ _ => (pd_var 1 (pv 1))))) (pd_lst ad_nil)))))) ?_
  intro ds n Q hl hF
  obtain ⟨d, rfl, ⟨hc1, hc2, hc3⟩, q⟩ := hF
  cases d
  case str z =>
    have hz := Nat.le_trans (hc2 z rfl) line1000
    have hk := (hc3 z rfl).1
    simp (config := {maxSteps := 10000000}) only [↓f_wC, ↓f_wVar, ↓f_wBin, ↓f_wBinV, ↓f_wBinR, ↓f_wT, ↓f_wChain, ↓f_wTru, ↓f_wTruV, ↓f_tAnd, ↓f_tOr, ↓f_tNot, ↓f_andV, ↓f_orV, ↓f_notV, ↓f_if, ↓f_noPart, ↓f_part, ↓f_sl, ↓f_slV, ↓f_nil, ↓f_cons, ↓f_bor, ↓f_tup, ↓f_lst, ↓f_fn, ↓f_isi, ↓f_mt, ↓f_call, ↓f_next, ↓f_seq, ↓f_break, ↓f_cont, ↓f_drop, ↓f_ret, ↓f_retN, ↓f_ifS, ↓f_set, ↓f_ofL, ↓f_sz, ↓f_own, ↓f_par, ↓f_par3, ↓f_asgT, ↓f_iL, ↓f_iT, ↓f_iS, ↓f_iR1, ↓f_for, ↓f_lc, ↓f_yes, ↓f_dgL, ↓f_dgA, ↓f_dgC, ↓f_dpL, ↓f_dpA, ↓f_app, ↓f_pop, env0, env1, ↓bl_bl, ↓int_int, ↓str_str, ↓get_some, get_if, vget, ownE, List.length_cons, List.length_nil, List.replicate, List.getElem?_cons_zero, List.getElem?_cons_succ, List.set_cons_zero, List.set_cons_succ, Nat.zero_add, Nat.add_sub_cancel, Nat.reduceAdd, Nat.reduceSub, Nat.reduceLT, Nat.reduceLeDiff, true_and, if_true, if_false, Bool.false_eq_true, List.length_set, gLt, gLe, gGt, gGe, gIx, gLen, cLen, cT, cIx, gIsi, tyD, Option.map_some, gIn, gNin, cIn, gAll, c0, lstD, tupD, innE, wipeE, toBor, Bool.not_false, Bool.not_true, eq_self, List.map_cons, List.map_nil]
    simp only [idB, idL] at q
    rw [ok_list] at hk
    rw [slen] at hz ⊢
    generalize hcs : z.cps.toList = cs at *
    rw [if_neg (by decide)]
    refine ⟨hz, ?_⟩
    by_cases h1 : (1 : Int) ≤ (cs.length : Int)
    · rw [if_pos (by simpa using h1)]
      by_cases h2 : (cs.length : Int) ≤ 16
      · rw [if_neg (by simpa using h2)]
        refine ⟨hz, ?_⟩
        cases cs with
        | nil => simp at h1
        | cons c l =>
          simp only [atI0, Option.map_some, get_some, bl_bl]
          have e1 : decide (1 ≤ (c :: l).length) = true := by simp
          have e2 : decide ((c :: l).length ≤ 16) = true := by simp only [decide_eq_true_eq]; omega
          simp only [headB, e1, e2, Bool.true_and] at q
          rw [← loC_law] at q
          cases hA : (!strLt ⟨#[c]⟩ "a") with
          | false =>
            rw [if_neg (by decide)]
            rw [hA] at q
            exact q
          | true =>
            rw [if_pos rfl]
            cases hB : (!strLt "z" ⟨#[c]⟩) with
            | false =>
              rw [if_pos (by decide)]
              rw [hA, hB] at q
              exact q
            | true =>
              rw [if_neg (by decide)]
              rw [hA, hB] at q
              rw [chrs_eq, hcs]
              refine lcGo_filter (b := fun d => match d with | .str ⟨⟨[c]⟩⟩ => !ldC c | _ => false) (g := fun d => d) _ _ (fun d hd Q k => ?_) (by simp only [List.length_map, List.length_nil]; omega) ?_
              · obtain ⟨x, _, rfl⟩ := List.mem_map.mp hd
                rw [gNm_lt (by simp [innE_length])]
                have k' : ∀ s, s.n = n → (((!ldC x) = true → ∀ P : D → S → Prop, (∀ s', s'.n = n → P (.str ⟨#[x]⟩) s') → (wVar 1).f s P) → Q (!ldC x) s) := k
                simp (config := {maxSteps := 10000000}) only [↓f_wC, ↓f_wVar, ↓f_wBin, ↓f_wBinV, ↓f_wBinR, ↓f_wT, ↓f_wChain, ↓f_wTru, ↓f_wTruV, ↓f_tAnd, ↓f_tOr, ↓f_tNot, ↓f_andV, ↓f_orV, ↓f_notV, ↓f_if, ↓f_noPart, ↓f_part, ↓f_sl, ↓f_slV, ↓f_nil, ↓f_cons, ↓f_bor, ↓f_tup, ↓f_lst, ↓f_fn, ↓f_isi, ↓f_mt, ↓f_call, ↓f_next, ↓f_seq, ↓f_break, ↓f_cont, ↓f_drop, ↓f_ret, ↓f_retN, ↓f_ifS, ↓f_set, ↓f_ofL, ↓f_sz, ↓f_own, ↓f_par, ↓f_par3, ↓f_asgT, ↓f_iL, ↓f_iT, ↓f_iS, ↓f_iR1, ↓f_for, ↓f_lc, ↓f_yes, ↓f_dgL, ↓f_dgA, ↓f_dgC, ↓f_dpL, ↓f_dpA, ↓f_app, ↓f_pop, env0, env1, ↓bl_bl, ↓int_int, ↓str_str, ↓get_some, get_if, vget, ownE, List.length_cons, List.length_nil, List.replicate, List.getElem?_cons_zero, List.getElem?_cons_succ, List.set_cons_zero, List.set_cons_succ, Nat.zero_add, Nat.add_sub_cancel, Nat.reduceAdd, Nat.reduceSub, Nat.reduceLT, Nat.reduceLeDiff, true_and, if_true, if_false, Bool.false_eq_true, List.length_set, gLt, gLe, gGt, gGe, gIx, gLen, cLen, cT, cIx, gIsi, tyD, Option.map_some, gIn, gNin, cIn, gAll, c0, lstD, tupD, innE, wipeE, toBor, Bool.not_false, Bool.not_true, eq_self, List.map_cons, List.map_nil]
                have kk := k' ⟨[Sl.val (D.str z), .val (.str ⟨#[x]⟩)], n⟩ rfl (fun _ P h => h ⟨[Sl.val (D.str z), .val (.str ⟨#[x]⟩)], n⟩ rfl)
                unfold ldC at kk
                rw [← loC_law, ← dgC_law] at kk
                generalize (!strLt ⟨#[x]⟩ "a") = b1 at *
                generalize (!strLt "z" ⟨#[x]⟩) = b2 at *
                generalize (!strLt ⟨#[x]⟩ "0") = b3 at *
                generalize (!strLt "9" ⟨#[x]⟩) = b4 at *
                revert kk
                cases b1 <;> cases b2 <;> cases b3 <;> cases b4 <;> exact id
              · rw [List.nil_append, List.map_id']
                have e3 : ∀ l : List Nat, (l.map fun c => D.str ⟨#[c]⟩).filter (fun d => match d with | .str ⟨⟨[c]⟩⟩ => !ldC c | _ => false) = ((l.filter fun c => !ldC c).map fun c => (⟨#[c]⟩ : Str)).map D.str := by
                  intro l
                  rw [List.filter_map, List.map_map]
                  rfl
                rw [e3]
                refine ⟨by decide, .inr ⟨shp_lstS _ ?_, ⟨by decide +kernel, by decide +kernel⟩⟩, ?_⟩
                · intro y hy
                  obtain ⟨x, hx, rfl⟩ := List.mem_map.mp hy
                  rw [ok_one]
                  exact List.all_eq_true.mp hk x (List.mem_filter.mp hx).1
                · simp only [gEq, get_some, eqD_nil]
                  have e4 : ((List.filter (fun c => !ldC c) (c :: l)).map fun c => (⟨#[c]⟩ : Str)).isEmpty = (c :: l).all ldC := by
                    rw [List.isEmpty_map]
                    generalize c :: l = m
                    induction m with
                    | nil => rfl
                    | cons a m ih =>
                      rw [List.filter_cons, List.all_cons]
                      cases h : ldC a
                      · simp
                      · simpa using ih
                  rw [e4]
                  exact q
      · rw [if_pos (by simpa using h2)]
        have e2 : decide (cs.length ≤ 16) = false := by simp only [decide_eq_false_iff_not]; omega
        simpa [e2] using q
    · rw [if_neg (by simpa using h1)]
      have e2 : decide (1 ≤ cs.length) = false := by simp only [decide_eq_false_iff_not]; omega
      simpa [e2] using q
  case drw => exact absurd rfl hc1
  all_goals
    simp (config := {maxSteps := 10000000}) only [↓f_wC, ↓f_wVar, ↓f_wBin, ↓f_wBinV, ↓f_wBinR, ↓f_wT, ↓f_wChain, ↓f_wTru, ↓f_wTruV, ↓f_tAnd, ↓f_tOr, ↓f_tNot, ↓f_andV, ↓f_orV, ↓f_notV, ↓f_if, ↓f_noPart, ↓f_part, ↓f_sl, ↓f_slV, ↓f_nil, ↓f_cons, ↓f_bor, ↓f_tup, ↓f_lst, ↓f_fn, ↓f_isi, ↓f_mt, ↓f_call, ↓f_next, ↓f_seq, ↓f_break, ↓f_cont, ↓f_drop, ↓f_ret, ↓f_retN, ↓f_ifS, ↓f_set, ↓f_ofL, ↓f_sz, ↓f_own, ↓f_par, ↓f_par3, ↓f_asgT, ↓f_iL, ↓f_iT, ↓f_iS, ↓f_iR1, ↓f_for, ↓f_lc, ↓f_yes, ↓f_dgL, ↓f_dgA, ↓f_dgC, ↓f_dpL, ↓f_dpA, ↓f_app, ↓f_pop, env0, env1, ↓bl_bl, ↓int_int, ↓str_str, ↓get_some, get_if, vget, ownE, List.length_cons, List.length_nil, List.replicate, List.getElem?_cons_zero, List.getElem?_cons_succ, List.set_cons_zero, List.set_cons_succ, Nat.zero_add, Nat.add_sub_cancel, Nat.reduceAdd, Nat.reduceSub, Nat.reduceLT, Nat.reduceLeDiff, true_and, if_true, if_false, Bool.false_eq_true, List.length_set, gLt, gLe, gGt, gGe, gIx, gLen, cLen, cT, cIx, gIsi, tyD, Option.map_some, gIn, gNin, cIn, gAll, c0, lstD, tupD, innE, wipeE, toBor, Bool.not_false, Bool.not_true, eq_self, List.map_cons, List.map_nil]
    exact q
theorem sc__law_text : FnScope ["draw", "one", "other", "mark", "size", "out", "at", "odd", "some", "k"] ["draw"] (defScope (top 20)) := ⟨rfl, rfl, rfl, by decide +kernel, rfl, by decide +kernel, by decide +kernel⟩
theorem ok__law_text {P : Program} {w : World} {K : PySem.W.Frag} {mg : Str → Option Value} {base : Heap} (T : Txt K mg) (C : Cn K mg) (D__law_word : Dn P w K mg base 3 "_law_word" ["draw"] F__law_word) (D__law_next : Dn P w K mg base 2 "_law_next" ["draw", "bound"] F__law_next) {f : Addr} {fd : FuncData} (U : Fun K "_law_text" "_law_text" (top 20) f fd) (dr : Option Addr) :
    FnG P w K mg base 4 f fd ["draw"] (SpD K dr [false] F__law_text) := by
  refine fnd_of (k := 3) U sc__law_text rfl (fun cdv A callers s0 H E G0 hr hga =>
    (sd_cons (sd_par3 1 2 3 sc__law_text.nd (ad_cons (pd_cl D__law_word hr (by decide) hga (ad_cons (pd_var 0 (pv 0)) ad_nil)) (ad_cons (pd_cl D__law_word hr (by decide) hga (ad_cons (pd_var 0 (pv 0)) ad_nil)) (ad_cons (pd_ix (pd_lst (ad_cons pd_str (ad_cons pd_str (ad_cons pd_str (ad_cons pd_str (ad_cons pd_str ad_nil)))))) (pd_cl D__law_next hr (by decide) hga (ad_cons (pd_var 0 (pv 0)) (ad_cons pd_int ad_nil)))) ad_nil))))
      (sd_cons (sd_set 4 sc__law_text.nd (pd_ix (pd_lst (ad_cons pd_int (ad_cons pd_int (ad_cons pd_int (ad_cons pd_int (ad_cons pd_int (ad_cons pd_int ad_nil))))))) (pd_cl D__law_next hr (by decide) hga (ad_cons (pd_var 0 (pv 0)) (ad_cons pd_int ad_nil)))))
      (sd_cons (sd_set 5 sc__law_text.nd (pd_mt (mt_jn) pd_str (pd_ofL (ld_lc (own := [("k", 9)]) sc__law_text.nd (id_range1 (ad_cons (pd_var 4 (pv 4)) ad_nil) T.range) (lct_name) (by change blkC ["draw", "one", "other", "mark", "size", "out", "at", "odd", "some", "k"] (defScope (top 20)) _ _ = true; decide +kernel) (fun _ _ _ _ _ => pg_name (i := 9) sc__law_text.nd rfl (.inl rfl)) (fun _ _ _ _ _ _ _ => (pts_yes)) (fun _ _ _ _ _ _ _ => (pd_ix pd_str (pd_cl D__law_next hr (by decide) hga (ad_cons (pd_var 0 (pv 0)) (ad_cons pd_int ad_nil)))))))))
      (sd_cons (sd_par 6 7 sc__law_text.nd (ad_cons (pd_cl D__law_next hr (by decide) hga (ad_cons (pd_var 0 (pv 0)) (ad_cons (pd_add (pd_var 4 (pv 4)) pd_int) ad_nil))) (ad_cons (pd_ix (pd_lst (ad_cons pd_str (ad_cons pd_str (ad_cons pd_str (ad_cons pd_str (ad_cons pd_str (ad_cons pd_str ad_nil))))))) (pd_cl D__law_next hr (by decide) hga (ad_cons (pd_var 0 (pv 0)) (ad_cons pd_int ad_nil)))) ad_nil)))
      (sd_cons (sd_set 8 sc__law_text.nd (pd_lst (ad_cons (pd_add (pd_add (pd_var 1 (pv 1)) (pd_var 3 (pv 3))) (pd_var 2 (pv 2))) (ad_cons (pd_add pd_str (pd_var 5 (pv 5))) (ad_cons (pd_add (pd_add (pd_add pd_str (pd_sl (pd_var 5 (pv 5)) od_none (od_some (pd_var 6 (pv 6))))) (pd_var 7 (pv 7))) (pd_sl (pd_var 5 (pv 5)) (od_some (pd_add (pd_var 6 (pv 6)) pd_int)) od_none)) (ad_cons (pd_add pd_str (pd_var 5 (pv 5))) (ad_cons (pd_var 5 (pv 5)) (ad_cons (pd_var 1 (pv 1)) ad_nil))))))))
      (sd_one (sd_ret (pd_ix (pd_var 8 (pv 8)) (pd_cl D__law_next hr (by decide) hga (ad_cons (pd_var 0 (pv 0)) (ad_cons pd_int ad_nil)))))))))))) ?_
  intro ds n Q hl hF
  obtain ⟨rfl, hn, q⟩ := hF
  simp (config := {maxSteps := 10000000}) only [↓f_wC, ↓f_wVar, ↓f_wBin, ↓f_wBinV, ↓f_wBinR, ↓f_wT, ↓f_wChain, ↓f_wTru, ↓f_wTruV, ↓f_tAnd, ↓f_tOr, ↓f_tNot, ↓f_andV, ↓f_orV, ↓f_notV, ↓f_if, ↓f_noPart, ↓f_part, ↓f_sl, ↓f_slV, ↓f_nil, ↓f_cons, ↓f_bor, ↓f_tup, ↓f_lst, ↓f_fn, ↓f_isi, ↓f_mt, ↓f_call, ↓f_next, ↓f_seq, ↓f_break, ↓f_cont, ↓f_drop, ↓f_ret, ↓f_retN, ↓f_ifS, ↓f_set, ↓f_ofL, ↓f_sz, ↓f_own, ↓f_par, ↓f_par3, ↓f_asgT, ↓f_iL, ↓f_iT, ↓f_iS, ↓f_iR1, ↓f_for, ↓f_lc, ↓f_yes, ↓f_dgL, ↓f_dgA, ↓f_dgC, ↓f_dpL, ↓f_dpA, ↓f_app, ↓f_pop, env0, env1, ↓bl_bl, ↓int_int, ↓str_str, ↓get_some, get_if, vget, ownE, List.length_cons, List.length_nil, List.replicate, List.getElem?_cons_zero, List.getElem?_cons_succ, List.set_cons_zero, List.set_cons_succ, Nat.zero_add, Nat.add_sub_cancel, Nat.reduceAdd, Nat.reduceSub, Nat.reduceLT, Nat.reduceLeDiff, true_and, if_true, if_false, Bool.false_eq_true, List.length_set, gLt, gLe, gGt, gGe, gIx, gLen, cLen, cT, cIx, gIsi, tyD, Option.map_some, gIn, gNin, cIn, gAll, c0, lstD, tupD, innE, wipeE, toBor, Bool.not_false, Bool.not_true, eq_self, List.map_cons, List.map_nil]
  refine word_of (by omega) fun one m1 lone kone g1 g2 => ?_
  refine word_of (by omega) fun other m2 loth koth g3 g4 => ?_
  refine ⟨by decide, next_of (by omega) (by decide) (by decide) fun r r0 r1 => ?_⟩
  dsimp only
  refine pick_of (P := TxtD 2) r0 (by simpa using r1) (by
    intro x hx
    simp only [List.mem_cons, List.not_mem_nil, or_false] at hx
    rcases hx with rfl | rfl | rfl | rfl | rfl <;> exact ⟨_, rfl, by decide +kernel, by decide +kernel⟩) ?_
  rintro _ ⟨mark, rfl, lmk, kmk⟩
  refine ⟨_, _, _, rfl, by decide, ?_⟩
  refine next_of (by omega) (by decide) (by decide) fun r r0 r1 => ?_
  refine pick_of (P := fun d => ∃ s : Int, d = .int s ∧ 0 ≤ s ∧ s ≤ 21) r0 (by simpa using r1) (by
    intro x hx
    simp only [List.mem_cons, List.not_mem_nil, or_false] at hx
    rcases hx with rfl | rfl | rfl | rfl | rfl | rfl <;> exact ⟨_, rfl, by decide, by decide⟩) ?_
  rintro _ ⟨s, rfl, s1, s2⟩
  refine ⟨s, rfl, by omega, by omega, ?_⟩
  refine lcGo_draw (R := TxtD 1) (c := 2) (N := n + 180) _ _ _ (fun d hd n' hn' P k => ?_) (by rw [rng_len, List.length_nil]; exact line2 (by omega)) (by rw [rng_len]; omega) fun ys m e1 e2 e3 e4 => ?_
  · rw [gNm_lt (by simp [innE_length])]
    simp (config := {maxSteps := 10000000}) only [↓f_wC, ↓f_wVar, ↓f_wBin, ↓f_wBinV, ↓f_wBinR, ↓f_wT, ↓f_wChain, ↓f_wTru, ↓f_wTruV, ↓f_tAnd, ↓f_tOr, ↓f_tNot, ↓f_andV, ↓f_orV, ↓f_notV, ↓f_if, ↓f_noPart, ↓f_part, ↓f_sl, ↓f_slV, ↓f_nil, ↓f_cons, ↓f_bor, ↓f_tup, ↓f_lst, ↓f_fn, ↓f_isi, ↓f_mt, ↓f_call, ↓f_next, ↓f_seq, ↓f_break, ↓f_cont, ↓f_drop, ↓f_ret, ↓f_retN, ↓f_ifS, ↓f_set, ↓f_ofL, ↓f_sz, ↓f_own, ↓f_par, ↓f_par3, ↓f_asgT, ↓f_iL, ↓f_iT, ↓f_iS, ↓f_iR1, ↓f_for, ↓f_lc, ↓f_yes, ↓f_dgL, ↓f_dgA, ↓f_dgC, ↓f_dpL, ↓f_dpA, ↓f_app, ↓f_pop, env0, env1, ↓bl_bl, ↓int_int, ↓str_str, ↓get_some, get_if, vget, ownE, List.length_cons, List.length_nil, List.replicate, List.getElem?_cons_zero, List.getElem?_cons_succ, List.set_cons_zero, List.set_cons_succ, Nat.zero_add, Nat.add_sub_cancel, Nat.reduceAdd, Nat.reduceSub, Nat.reduceLT, Nat.reduceLeDiff, true_and, if_true, if_false, Bool.false_eq_true, List.length_set, gLt, gLe, gGt, gGe, gIx, gLen, cLen, cT, cIx, gIsi, tyD, Option.map_some, gIn, gNin, cIn, gAll, c0, lstD, tupD, innE, wipeE, toBor, Bool.not_false, Bool.not_true, eq_self, List.map_cons, List.map_nil]
    refine next_of (by omega) (by decide) (by decide) fun r r0 r1 => ⟨by decide, ?_⟩
    refine pick_sign r0 r1 (by decide +kernel) fun y hy ky => ?_
    exact k _ _ ⟨y, rfl, Nat.le_of_eq hy, ky⟩ (by simp only; omega) (by simp only; omega)
  rw [rng_len] at e1 e4
  obtain ⟨zs, rfl, hzs⟩ := strs_all ys e2
  rw [List.length_map] at e1
  rw [List.nil_append]
  refine ⟨cJoin_ok hzs (by omega), ?_⟩
  rw [gJoin_eq]
  obtain ⟨j1, j2⟩ := join_ok hzs
  generalize Txt.join "" zs = out at *
  simp only [get_some, cAdd, gAdd, true_and]
  refine next_of (by omega) (by omega) (by omega) fun at_ a0 a1 => ?_
  refine ⟨by decide, next_of (by omega) (by decide) (by decide) fun r r0 r1 => ?_⟩
  refine pick_of (P := TxtD 1) r0 (by simpa using r1) (by
    intro x hx
    simp only [List.mem_cons, List.not_mem_nil, or_false] at hx
    rcases hx with rfl | rfl | rfl | rfl | rfl | rfl <;> exact ⟨_, rfl, by decide +kernel, by decide +kernel⟩) ?_
  rintro _ ⟨odd, rfl, lo, ko⟩
  refine ⟨_, _, rfl, ?_⟩
  have l1 := cut_len out none (some at_)
  have l2 := cut_len out (some (at_ + 1)) none
  have k1 := cutS_ok none (some at_) j1
  have k2 := cutS_ok (some (at_ + 1)) none j1
  have h4 : ("out:" : Str).length = 4 := by decide +kernel
  have k4 : okZ "out:" := by decide +kernel
  have h5 : ("Out:" : Str).length = 4 := by decide +kernel
  have k5 : okZ "Out:" := by decide +kernel
  try simp only [int_int, get_some, gSl, cSl]
  generalize cutS out none (some at_) = c1 at *
  try dsimp only
  try simp only [int_int, get_some, gSl, cSl]
  generalize cutS out (some (at_ + 1)) none = c2 at *
  try dsimp only
  simp only [app_len, h4, h5]
  refine ⟨line2 (by omega), line2 (by omega), line2 (by omega), line2 (by omega), line2 (by omega), line2 (by omega), line2 (by omega), line2 (by omega), line2 (by omega), by decide, ?_⟩
  refine next_of (by omega) (by decide) (by decide) fun r r0 r1 => ?_
  refine pick_of (P := TxtD 100) r0 (by simpa using r1) (by
    intro x hx
    simp only [List.mem_cons, List.not_mem_nil, or_false] at hx
    rcases hx with rfl | rfl | rfl | rfl | rfl | rfl
    · exact ⟨_, rfl, by rw [app_len, app_len]; omega, okZ_app.mpr ⟨okZ_app.mpr ⟨kone, kmk⟩, koth⟩⟩
    · exact ⟨_, rfl, by rw [app_len, h4]; omega, okZ_app.mpr ⟨k4, j1⟩⟩
    · exact ⟨_, rfl, by rw [app_len, app_len, app_len, h4]; omega, okZ_app.mpr ⟨okZ_app.mpr ⟨okZ_app.mpr ⟨k4, k1⟩, ko⟩, k2⟩⟩
    · exact ⟨_, rfl, by rw [app_len, h5]; omega, okZ_app.mpr ⟨k5, j1⟩⟩
    · exact ⟨_, rfl, by omega, j1⟩
    · exact ⟨_, rfl, by omega, kone⟩) fun d hd => ?_
  exact q d _ hd (by omega) (by omega)
theorem sc__law_is_link : FnScope ["thing", "rest", "sign"] ["thing"] (defScope (top 21)) := ⟨rfl, rfl, rfl, by decide +kernel, rfl, by decide +kernel, by decide +kernel⟩
theorem ok__law_is_link {P : Program} {w : World} {K : PySem.W.Frag} {mg : Str → Option Value} {base : Heap} (T : Txt K mg) (C : Cn K mg) (D__law_is_id : Dn P w K mg base 1 "_law_is_id" ["thing"] F__law_is_id) {f : Addr} {fd : FuncData} (U : Fun K "_law_is_link" "_law_is_link" (top 21) f fd) (dr : Option Addr) :
    FnG P w K mg base 2 f fd ["thing"] (SpD K dr [false] F__law_is_link) := by
  refine fnd_of (k := 1) U sc__law_is_link rfl (fun cdv A callers s0 H E G0 hr hga =>
    (sd_cons (sd_if (td_not (td_val (pd_isi (pd_var 0 (pv 0)) rfl kit_str T.isinstance T.str))) (sd_one (sd_ret pd_bl)) sd_nil)
      (sd_cons (sd_if (td_cmp (cm_eq hr) (pd_sl (pd_var 0 (pv 0)) od_none (od_some pd_int)) pd_str) (sd_cons (sd_set 1 sc__law_is_link.nd (pd_sl (pd_var 0 (pv 0)) (od_some pd_int) od_none))
      (sd_one (sd_ret (pd_and (pd_chain cm_le cm_le pd_int (pd_bt bt_len T.len (ad_cons (pd_var 1 (pv 1)) ad_nil)) pd_int) (pd_one (pd_cmp (cm_eq hr) (pd_ofL (ld_lc (own := [("sign", 2)]) sc__law_is_link.nd (id_str (pd_var 1 (pv 1))) (lct_name) (by change blkC ["thing", "rest", "sign"] (defScope (top 21)) _ _ = true; decide +kernel) (fun _ _ _ _ _ => pg_name (i := 2) sc__law_is_link.nd rfl (.inl rfl)) (fun _ _ _ _ _ _ _ => (pts_of (PW.pt (wd_or (td_not (td_chain cm_le cm_le pd_str (pd_var 2 (pv 2)) pd_str)) (wd_or1 (td_cmp (cm_in) (pd_var 2 (pv 2)) pd_str)))))) (fun _ _ _ _ _ _ _ => (pd_var 2 (pv 2))))) (pd_lst ad_nil))))))) sd_nil)
      (sd_one (sd_ret (pd_and (pd_cmp (cm_eq hr) (pd_mt mt_ct (pd_var 0 (pv 0)) pd_str) pd_int) (pd_and (pd_cl D__law_is_id hr (by decide) hga (ad_cons (pd_ix (pd_mt mt_sp (pd_var 0 (pv 0)) pd_str) pd_int) ad_nil)) (pd_one (pd_cl D__law_is_id hr (by decide) hga (ad_cons (pd_ix (pd_mt mt_sp (pd_var 0 (pv 0)) pd_str) pd_int) ad_nil)))))))))) ?_
  intro ds n Q hl hF
  obtain ⟨d, rfl, ⟨hc1, hc2, hc3⟩, q⟩ := hF
  cases d
  case str z =>
    have hz1 := hc2 z rfl
    have hz := Nat.le_trans hz1 line1000
    have hk := hc3 z rfl
    simp (config := {maxSteps := 10000000}) only [↓f_wC, ↓f_wVar, ↓f_wBin, ↓f_wBinV, ↓f_wBinR, ↓f_wT, ↓f_wChain, ↓f_wTru, ↓f_wTruV, ↓f_tAnd, ↓f_tOr, ↓f_tNot, ↓f_andV, ↓f_orV, ↓f_notV, ↓f_if, ↓f_noPart, ↓f_part, ↓f_sl, ↓f_slV, ↓f_nil, ↓f_cons, ↓f_bor, ↓f_tup, ↓f_lst, ↓f_fn, ↓f_isi, ↓f_mt, ↓f_call, ↓f_next, ↓f_seq, ↓f_break, ↓f_cont, ↓f_drop, ↓f_ret, ↓f_retN, ↓f_ifS, ↓f_set, ↓f_ofL, ↓f_sz, ↓f_own, ↓f_par, ↓f_par3, ↓f_asgT, ↓f_iL, ↓f_iT, ↓f_iS, ↓f_iR1, ↓f_for, ↓f_lc, ↓f_yes, ↓f_dgL, ↓f_dgA, ↓f_dgC, ↓f_dpL, ↓f_dpA, ↓f_app, ↓f_pop, env0, env1, ↓bl_bl, ↓int_int, ↓str_str, ↓get_some, get_if, vget, ownE, List.length_cons, List.length_nil, List.replicate, List.getElem?_cons_zero, List.getElem?_cons_succ, List.set_cons_zero, List.set_cons_succ, Nat.zero_add, Nat.add_sub_cancel, Nat.reduceAdd, Nat.reduceSub, Nat.reduceLT, Nat.reduceLeDiff, true_and, if_true, if_false, Bool.false_eq_true, List.length_set, gLt, gLe, gGt, gGe, gIx, gLen, cLen, cT, cIx, gIsi, tyD, Option.map_some, gIn, gNin, cIn, gAll, c0, lstD, tupD, innE, wipeE, toBor, Bool.not_false, Bool.not_true, eq_self, List.map_cons, List.map_nil]
    simp only [linkB, linkL] at q
    rw [if_neg (by decide)]
    refine ⟨hz, ?_⟩
    simp only [gSl, cSl, get_some, eqD_str, gEq, bl_bl, out_law]
    refine ⟨.inl rfl, ?_⟩
    by_cases h1 : Txt.startswith z "out:" = true
    · rw [if_pos h1]
      rw [if_pos h1] at q
      have hlen := cutS_len z (some 4) none
      have hok := cutS_ok (some 4) none hk
      generalize cutS z (some 4) none = y at *
      have hy : y.length ≤ sizeLine := by rw [slen]; exact Nat.le_trans hlen hz
      refine ⟨hz, hy, ?_⟩
      unfold outL at q
      unfold okZ at hok
      rw [ok_list] at hok
      rw [slen] at hy ⊢
      generalize hcs : y.cps.toList = cs at *
      by_cases h2 : (1 : Int) ≤ (cs.length : Int)
      · rw [if_pos (by simpa using h2)]
        by_cases h3 : (cs.length : Int) ≤ 20
        · rw [if_pos (by simpa using h3)]
          simp only [str_str, get_some]
          rw [chrs_eq, hcs]
          have e1 : decide (1 ≤ cs.length) = true := by simp only [decide_eq_true_eq]; omega
          have e2 : decide (cs.length ≤ 20) = true := by simp only [decide_eq_true_eq]; omega
          simp only [e1, e2, Bool.true_and] at q
          refine lcGo_filter (b := fun d => match d with | .str ⟨⟨[c]⟩⟩ => !outC c | _ => false) (g := fun d => d) _ _ (fun d hd Q k => ?_) (by simp only [List.length_map, List.length_nil]; omega) ?_
          · obtain ⟨x, hx, rfl⟩ := List.mem_map.mp hd
            rw [gNm_lt (by simp [innE_length])]
            have k' : ∀ s, s.n = n → (((!outC x) = true → ∀ P : D → S → Prop, (∀ s', s'.n = n → P (.str ⟨#[x]⟩) s') → (wVar 2).f s P) → Q (!outC x) s) := k
            simp (config := {maxSteps := 10000000}) only [↓f_wC, ↓f_wVar, ↓f_wBin, ↓f_wBinV, ↓f_wBinR, ↓f_wT, ↓f_wChain, ↓f_wTru, ↓f_wTruV, ↓f_tAnd, ↓f_tOr, ↓f_tNot, ↓f_andV, ↓f_orV, ↓f_notV, ↓f_if, ↓f_noPart, ↓f_part, ↓f_sl, ↓f_slV, ↓f_nil, ↓f_cons, ↓f_bor, ↓f_tup, ↓f_lst, ↓f_fn, ↓f_isi, ↓f_mt, ↓f_call, ↓f_next, ↓f_seq, ↓f_break, ↓f_cont, ↓f_drop, ↓f_ret, ↓f_retN, ↓f_ifS, ↓f_set, ↓f_ofL, ↓f_sz, ↓f_own, ↓f_par, ↓f_par3, ↓f_asgT, ↓f_iL, ↓f_iT, ↓f_iS, ↓f_iR1, ↓f_for, ↓f_lc, ↓f_yes, ↓f_dgL, ↓f_dgA, ↓f_dgC, ↓f_dpL, ↓f_dpA, ↓f_app, ↓f_pop, env0, env1, ↓bl_bl, ↓int_int, ↓str_str, ↓get_some, get_if, vget, ownE, List.length_cons, List.length_nil, List.replicate, List.getElem?_cons_zero, List.getElem?_cons_succ, List.set_cons_zero, List.set_cons_succ, Nat.zero_add, Nat.add_sub_cancel, Nat.reduceAdd, Nat.reduceSub, Nat.reduceLT, Nat.reduceLeDiff, true_and, if_true, if_false, Bool.false_eq_true, List.length_set, gLt, gLe, gGt, gGe, gIx, gLen, cLen, cT, cIx, gIsi, tyD, Option.map_some, gIn, gNin, cIn, gAll, c0, lstD, tupD, innE, wipeE, toBor, Bool.not_false, Bool.not_true, eq_self, List.map_cons, List.map_nil]
            have kk := k' ⟨[Sl.val (D.str z), Sl.val (D.str y), .val (.str ⟨#[x]⟩)], n⟩ rfl (fun _ P h => h ⟨[Sl.val (D.str z), Sl.val (D.str y), .val (.str ⟨#[x]⟩)], n⟩ rfl)
            have hx37 : x ≠ 37 := fun z => hok.2 (by rw [← z]; exact hx)
            rw [← outC_law hx37] at kk
            generalize (!strLt ⟨#[x]⟩ "!") = b1 at *
            generalize (!strLt "~" ⟨#[x]⟩) = b2 at *
            generalize inStr ⟨#[x]⟩ "<>&" = b3 at *
            revert kk
            cases b1 <;> cases b2 <;> cases b3 <;> exact id
          · rw [List.nil_append, List.map_id']
            have e3 : ∀ l : List Nat, (l.map fun c => D.str ⟨#[c]⟩).filter (fun d => match d with | .str ⟨⟨[c]⟩⟩ => !outC c | _ => false) = ((l.filter fun c => !outC c).map fun c => (⟨#[c]⟩ : Str)).map D.str := by
              intro l
              rw [List.filter_map, List.map_map]
              rfl
            rw [e3]
            refine ⟨by decide, .inr ⟨shp_lstS _ ?_, ⟨by decide +kernel, by decide +kernel⟩⟩, ?_⟩
            · intro y hy
              obtain ⟨x, hx, rfl⟩ := List.mem_map.mp hy
              rw [ok_one]
              exact List.all_eq_true.mp hok.1 x (List.mem_filter.mp hx).1
            · rw [eqD_nil, List.isEmpty_map, filter_all]
              exact q
        · rw [if_neg (by simpa using h3)]
          have e2 : decide (cs.length ≤ 20) = false := by simp only [decide_eq_false_iff_not]; omega
          simpa [e2] using q
      · rw [if_neg (by simpa using h2)]
        have e2 : decide (1 ≤ cs.length) = false := by simp only [decide_eq_false_iff_not]; omega
        simpa [e2] using q
    · rw [if_neg h1]
      rw [if_neg h1] at q
      simp only [cZ, gCount, get_some, bl_bl, eqD_int, true_and]
      refine ⟨.inl rfl, ?_⟩
      have hs := StrLaws.partition_sum z hash
      obtain ⟨la, lc⟩ := part_len hs
      obtain ⟨oa, oc⟩ := part_ok hs hk
      have hsz : z.length + 2 ≤ sizeLine := Nat.le_trans (by omega : z.length + 2 ≤ 1002) (by decide)
      rcases cut_hash z with ⟨e1, e2⟩ | ⟨e1, e2⟩
      · rw [if_pos (by simpa using e1)]
        have gs : gSplit z (.str "#") = some (.lst [.str (Txt.partition z hash).1, .str (Txt.partition z hash).2.2]) := by
          show some (D.lst ((Txt.split z hash).map D.str)) = _
          rw [e2]
          rfl
        have cs : cSplit z (.str "#") := ⟨by decide, hsz⟩
        simp only [gs, get_some, atI0, atI1]
        refine ⟨cs, trivial, _, rfl, okS_str (Nat.le_trans la hz1) oa, ?_⟩
        simp only [bl_bl, get_some, idB]
        cases h2 : idL (Txt.partition z hash).1.cps.toList with
        | false =>
          rw [if_neg (by decide)]
          rw [h2] at q
          exact q
        | true =>
          rw [if_pos rfl]
          refine ⟨cs, trivial, _, rfl, okS_str (Nat.le_trans lc hz1) oc, ?_⟩
          rw [h2] at q
          exact q
      · rw [if_neg (by simpa using e1)]
        rw [e2] at q
        exact q
  case drw => exact absurd rfl hc1
  all_goals
    simp (config := {maxSteps := 10000000}) only [↓f_wC, ↓f_wVar, ↓f_wBin, ↓f_wBinV, ↓f_wBinR, ↓f_wT, ↓f_wChain, ↓f_wTru, ↓f_wTruV, ↓f_tAnd, ↓f_tOr, ↓f_tNot, ↓f_andV, ↓f_orV, ↓f_notV, ↓f_if, ↓f_noPart, ↓f_part, ↓f_sl, ↓f_slV, ↓f_nil, ↓f_cons, ↓f_bor, ↓f_tup, ↓f_lst, ↓f_fn, ↓f_isi, ↓f_mt, ↓f_call, ↓f_next, ↓f_seq, ↓f_break, ↓f_cont, ↓f_drop, ↓f_ret, ↓f_retN, ↓f_ifS, ↓f_set, ↓f_ofL, ↓f_sz, ↓f_own, ↓f_par, ↓f_par3, ↓f_asgT, ↓f_iL, ↓f_iT, ↓f_iS, ↓f_iR1, ↓f_for, ↓f_lc, ↓f_yes, ↓f_dgL, ↓f_dgA, ↓f_dgC, ↓f_dpL, ↓f_dpA, ↓f_app, ↓f_pop, env0, env1, ↓bl_bl, ↓int_int, ↓str_str, ↓get_some, get_if, vget, ownE, List.length_cons, List.length_nil, List.replicate, List.getElem?_cons_zero, List.getElem?_cons_succ, List.set_cons_zero, List.set_cons_succ, Nat.zero_add, Nat.add_sub_cancel, Nat.reduceAdd, Nat.reduceSub, Nat.reduceLT, Nat.reduceLeDiff, true_and, if_true, if_false, Bool.false_eq_true, List.length_set, gLt, gLe, gGt, gGe, gIx, gLen, cLen, cT, cIx, gIsi, tyD, Option.map_some, gIn, gNin, cIn, gAll, c0, lstD, tupD, innE, wipeE, toBor, Bool.not_false, Bool.not_true, eq_self, List.map_cons, List.map_nil]
    exact q
theorem sc__law_value : FnScope ["draw", "word", "kind", "sign", "styles", "link", "found", "more"] ["draw"] (defScope (top 22)) := ⟨rfl, rfl, rfl, by decide +kernel, rfl, by decide +kernel, by decide +kernel⟩
theorem ok__law_value {P : Program} {w : World} {K : PySem.W.Frag} {mg : Str → Option Value} {base : Heap} (T : Txt K mg) (C : Cn K mg) (D__law_next : Dn P w K mg base 2 "_law_next" ["draw", "bound"] F__law_next) (D__law_word : Dn P w K mg base 3 "_law_word" ["draw"] F__law_word) {f : Addr} {fd : FuncData} (U : Fun K "_law_value" "_law_value" (top 22) f fd) (dr : Option Addr) :
    FnG P w K mg base 4 f fd ["draw"] (SpD K dr [false] F__law_value) := by
  refine fnd_of (k := 3) U sc__law_value rfl (fun cdv A callers s0 H E G0 hr hga =>
    (sd_cons (sd_set 1 sc__law_value.nd (pd_ix (pd_lst (ad_cons pd_str (ad_cons pd_str (ad_cons pd_str (ad_cons pd_str (ad_cons pd_str (ad_cons pd_str (ad_cons pd_str (ad_cons pd_str (ad_cons pd_str ad_nil)))))))))) (pd_cl D__law_next hr (by decide) hga (ad_cons (pd_var 0 (pv 0)) (ad_cons pd_int ad_nil)))))
      (sd_cons (sd_set 2 sc__law_value.nd (pd_ix (pd_lst (ad_cons pd_str (ad_cons pd_str (ad_cons pd_str (ad_cons pd_str (ad_cons pd_str (ad_cons pd_str (ad_cons pd_str (ad_cons pd_str (ad_cons pd_str (ad_cons pd_str ad_nil))))))))))) (pd_cl D__law_next hr (by decide) hga (ad_cons (pd_var 0 (pv 0)) (ad_cons pd_int ad_nil)))))
      (sd_cons (sd_set 3 sc__law_value.nd (pd_ix (pd_lst (ad_cons pd_str (ad_cons pd_str (ad_cons pd_str (ad_cons pd_str (ad_cons pd_str (ad_cons pd_str (ad_cons pd_str (ad_cons pd_str (ad_cons pd_non (ad_cons pd_int ad_nil))))))))))) (pd_cl D__law_next hr (by decide) hga (ad_cons (pd_var 0 (pv 0)) (ad_cons pd_int ad_nil)))))
      (sd_cons (sd_set 4 sc__law_value.nd (pd_ix (pd_lst (ad_cons (pd_tup ad_nil) (ad_cons (pd_tup (ad_cons pd_str ad_nil)) (ad_cons (pd_tup (ad_cons pd_str (ad_cons pd_str (ad_cons pd_str ad_nil)))) (ad_cons (pd_tup (ad_cons pd_str (ad_cons pd_str ad_nil))) (ad_cons (pd_tup (ad_cons pd_str (ad_cons pd_str ad_nil))) (ad_cons (pd_lst (ad_cons pd_str ad_nil)) (ad_cons (pd_tup (ad_cons pd_str ad_nil)) (ad_cons pd_non ad_nil))))))))) (pd_cl D__law_next hr (by decide) hga (ad_cons (pd_var 0 (pv 0)) (ad_cons pd_int ad_nil)))))
      (sd_cons (sd_set 5 sc__law_value.nd (pd_ix (pd_lst (ad_cons pd_non (ad_cons pd_str (ad_cons pd_str (ad_cons pd_str (ad_cons pd_int (ad_cons pd_str ad_nil))))))) (pd_cl D__law_next hr (by decide) hga (ad_cons (pd_var 0 (pv 0)) (ad_cons pd_int ad_nil)))))
      (sd_cons (sd_if (td_cmp (cm_in) (pd_var 1 (pv 1)) (pd_tup (ad_cons pd_str (ad_cons pd_str (ad_cons pd_str ad_nil))))) (sd_one (sd_set 6 sc__law_value.nd (pd_tup (ad_cons (pd_var 1 (pv 1)) (ad_cons (pd_var 2 (pv 2)) ad_nil))))) (sd_one (sd_set 6 sc__law_value.nd (pd_ifExp (td_cmp (cm_eq hr) (pd_var 1 (pv 1)) pd_str) (pd_tup (ad_cons (pd_var 1 (pv 1)) (ad_cons (pd_var 3 (pv 3)) (ad_cons (pd_var 4 (pv 4)) (ad_cons (pd_var 5 (pv 5)) ad_nil))))) (pd_tup (ad_cons (pd_var 1 (pv 1)) (ad_cons (pd_cl D__law_word hr (by decide) hga (ad_cons (pd_var 0 (pv 0)) ad_nil)) ad_nil)))))))
      (sd_cons (sd_set 7 sc__law_value.nd (pd_ix (pd_lst (ad_cons pd_non (ad_cons (pd_tup ad_nil) (ad_cons pd_str ad_nil)))) (pd_cl D__law_next hr (by decide) hga (ad_cons (pd_var 0 (pv 0)) (ad_cons pd_int ad_nil)))))
      (sd_one (sd_ret (pd_ix (pd_lst (ad_cons (pd_var 6 (pv 6)) (ad_cons (pd_var 6 (pv 6)) (ad_cons (pd_var 6 (pv 6)) (ad_cons (pd_add (pd_var 6 (pv 6)) (pd_tup (ad_cons (pd_var 7 (pv 7)) ad_nil))) (ad_cons (pd_sl (pd_var 6 (pv 6)) od_none (od_some (pd_neg pd_int))) (ad_cons (pd_bt bt_list T.list (ad_cons (pd_var 6 (pv 6)) ad_nil)) ad_nil))))))) (pd_cl D__law_next hr (by decide) hga (ad_cons (pd_var 0 (pv 0)) (ad_cons pd_int ad_nil)))))))))))))) ?_
  intro ds n Q hl hF
  obtain ⟨rfl, hn, q⟩ := hF
  simp (config := {maxSteps := 10000000}) only [↓f_wC, ↓f_wVar, ↓f_wBin, ↓f_wBinV, ↓f_wBinR, ↓f_wT, ↓f_wChain, ↓f_wTru, ↓f_wTruV, ↓f_tAnd, ↓f_tOr, ↓f_tNot, ↓f_andV, ↓f_orV, ↓f_notV, ↓f_if, ↓f_noPart, ↓f_part, ↓f_sl, ↓f_slV, ↓f_nil, ↓f_cons, ↓f_bor, ↓f_tup, ↓f_lst, ↓f_fn, ↓f_isi, ↓f_mt, ↓f_call, ↓f_next, ↓f_seq, ↓f_break, ↓f_cont, ↓f_drop, ↓f_ret, ↓f_retN, ↓f_ifS, ↓f_set, ↓f_ofL, ↓f_sz, ↓f_own, ↓f_par, ↓f_par3, ↓f_asgT, ↓f_iL, ↓f_iT, ↓f_iS, ↓f_iR1, ↓f_for, ↓f_lc, ↓f_yes, ↓f_dgL, ↓f_dgA, ↓f_dgC, ↓f_dpL, ↓f_dpA, ↓f_app, ↓f_pop, env0, env1, ↓bl_bl, ↓int_int, ↓str_str, ↓get_some, get_if, vget, ownE, List.length_cons, List.length_nil, List.replicate, List.getElem?_cons_zero, List.getElem?_cons_succ, List.set_cons_zero, List.set_cons_succ, Nat.zero_add, Nat.add_sub_cancel, Nat.reduceAdd, Nat.reduceSub, Nat.reduceLT, Nat.reduceLeDiff, true_and, if_true, if_false, Bool.false_eq_true, List.length_set, gLt, gLe, gGt, gGe, gIx, gLen, cLen, cT, cIx, gIsi, tyD, Option.map_some, gIn, gNin, cIn, gAll, c0, lstD, tupD, innE, wipeE, toBor, Bool.not_false, Bool.not_true, eq_self, List.map_cons, List.map_nil]
  refine ⟨by decide, next_of (by omega) (by decide) (by decide) fun r r0 r1 => ?_⟩
  dsimp only
  refine pick_of (P := TxtD 6) r0 (by simpa using r1) (by
    intro x hx
    simp only [List.mem_cons, List.not_mem_nil, or_false] at hx
    rcases hx with rfl | rfl | rfl | rfl | rfl | rfl | rfl | rfl | rfl <;> exact ⟨_, rfl, by decide +kernel, by decide +kernel⟩) ?_
  rintro _ ⟨word, rfl, lw, kw⟩
  refine ⟨by decide, next_of (by omega) (by decide) (by decide) fun r r0 r1 => ?_⟩
  refine pick_of (P := TxtD 10) r0 (by simpa using r1) (by
    intro x hx
    simp only [List.mem_cons, List.not_mem_nil, or_false] at hx
    rcases hx with rfl | rfl | rfl | rfl | rfl | rfl | rfl | rfl | rfl | rfl <;> exact ⟨_, rfl, by decide +kernel, by decide +kernel⟩) ?_
  rintro _ ⟨kind, rfl, lk, kk⟩
  refine ⟨by decide, next_of (by omega) (by decide) (by decide) fun r r0 r1 => ?_⟩
  refine pick_of (P := OkT) r0 (by simpa using r1) (by
    intro x hx
    simp only [List.mem_cons, List.not_mem_nil, or_false] at hx
    rcases hx with rfl | rfl | rfl | rfl | rfl | rfl | rfl | rfl | rfl | rfl <;> first | exact okT_non | exact okT_int _ | exact okT_str (by decide +kernel) (by decide +kernel)) ?_
  intro sign hsign
  refine ⟨by decide, by decide, by decide, by decide, by decide, by decide, by decide, by decide, next_of (by omega) (by decide) (by decide) fun r r0 r1 => ?_⟩
  refine pick_of (P := OkT) r0 (by simpa using r1) (by
    intro x hx
    simp only [List.mem_cons, List.not_mem_nil, or_false] at hx
    rcases hx with rfl | rfl | rfl | rfl | rfl | rfl | rfl | rfl
    · exact okT_tup [] (by decide) (by decide +kernel)
    · exact okT_tup ["code"] (by decide) (by decide +kernel)
    · exact okT_tup ["code", "slant", "strong"] (by decide) (by decide +kernel)
    · exact okT_tup ["strong", "code"] (by decide) (by decide +kernel)
    · exact okT_tup ["slant", "slant"] (by decide) (by decide +kernel)
    · exact okT_lst _
    · exact okT_tup ["bold"] (by decide) (by decide +kernel)
    · exact okT_non) ?_
  intro styles hstyles
  refine ⟨by decide, next_of (by omega) (by decide) (by decide) fun r r0 r1 => ?_⟩
  refine pick_of (P := OkT) r0 (by simpa using r1) (by
    intro x hx
    simp only [List.mem_cons, List.not_mem_nil, or_false] at hx
    rcases hx with rfl | rfl | rfl | rfl | rfl | rfl <;> first | exact okT_non | exact okT_int _ | exact okT_str (by decide +kernel) (by decide +kernel)) ?_
  intro link hlink
  have hword : OkT (.str word) := okT_str (by omega) kw
  have hkind : OkT (.str kind) := okT_str (by omega) kk
  refine ⟨by decide, ⟨rfl, by decide⟩, ?_⟩
  split
  · refine ⟨by decide, by decide, by decide, ?_⟩
    exact value_tail (es := [.str word, .str kind]) (by simp) (fun e h => by
      simp only [List.mem_cons, List.not_mem_nil, or_false] at h
      rcases h with rfl | rfl <;> assumption) (by omega) fun d m hd a b => q d m hd (by omega) (by omega)
  · refine ⟨.inl rfl, ?_⟩
    simp only [gEq, get_some, bl_bl]
    split
    · refine ⟨by decide, by decide, by decide, ?_⟩
      exact value_tail (es := [.str word, sign, styles, link]) (by simp) (fun e h => by
        simp only [List.mem_cons, List.not_mem_nil, or_false] at h
        rcases h with rfl | rfl | rfl | rfl <;> assumption) (by omega) fun d m hd a b => q d m hd (by omega) (by omega)
    · refine word_of (by omega) fun z m hz kz a b => ?_
      have hz' : OkT (.str z) := okT_str (by omega) kz
      refine ⟨by decide, by decide, by decide, ?_⟩
      exact value_tail (es := [.str word, .str z]) (by simp) (fun e h => by
        simp only [List.mem_cons, List.not_mem_nil, or_false] at h
        rcases h with rfl | rfl <;> assumption) (by omega) fun d m hd a b => q d m hd (by omega) (by omega)
theorem sc__law_is_token : FnScope ["thing", "some", "is_styled", "kinds"] ["thing"] (defScope (top 23)) := ⟨rfl, rfl, rfl, by decide +kernel, rfl, by decide +kernel, by decide +kernel⟩
theorem ok__law_is_token {P : Program} {w : World} {K : PySem.W.Frag} {mg : Str → Option Value} {base : Heap} (T : Txt K mg) (C : Cn K mg) (D__law_is_id : Dn P w K mg base 1 "_law_is_id" ["thing"] F__law_is_id) (D__law_is_link : Dn P w K mg base 2 "_law_is_link" ["thing"] F__law_is_link) {f : Addr} {fd : FuncData} (U : Fun K "_law_is_token" "_law_is_token" (top 23) f fd) (dr : Option Addr) :
    FnG P w K mg base 3 f fd ["thing"] (SpD K dr [false] F__law_is_token) := by
  refine fnd_of (k := 2) U sc__law_is_token rfl (fun cdv A callers s0 H E G0 hr hga =>
    (sd_cons (sd_if (PW.pt (wd_or (td_not (td_val (pd_isi (pd_var 0 (pv 0)) rfl kit_tuple T.isinstance T.tuple))) (wd_or (td_cmp cm_lt (pd_bt bt_len T.len (ad_cons (pd_var 0 (pv 0)) ad_nil)) pd_int) (wd_or1 (td_not (td_val (pd_isi (pd_ix (pd_var 0 (pv 0)) pd_int) rfl kit_str T.isinstance T.str))))))) (sd_one (sd_ret pd_bl)) sd_nil)
      (sd_cons (sd_if (td_cmp (cm_eq hr) (pd_ix (pd_var 0 (pv 0)) pd_int) pd_str) (sd_cons (sd_if (PW.pt (wd_or (td_cmp (cm_ne hr) (pd_bt bt_len T.len (ad_cons (pd_var 0 (pv 0)) ad_nil)) pd_int) (wd_or (td_not (td_val (pd_isi (pd_ix (pd_var 0 (pv 0)) pd_int) rfl kit_str T.isinstance T.str))) (wd_or (td_cmp (cm_ne hr) (pd_bt bt_len T.len (ad_cons (pd_ix (pd_var 0 (pv 0)) pd_int) ad_nil)) pd_int) (wd_or1 (td_not (td_chain cm_le cm_le pd_str (pd_ix (pd_var 0 (pv 0)) pd_int) pd_str))))))) (sd_one (sd_ret pd_bl)) sd_nil)
      (sd_cons (sd_set 1 sc__law_is_token.nd (pd_lst (ad_cons (pd_tup ad_nil) (ad_cons (pd_tup (ad_cons pd_str ad_nil)) (ad_cons (pd_tup (ad_cons pd_str ad_nil)) (ad_cons (pd_tup (ad_cons pd_str ad_nil)) (ad_cons (pd_tup (ad_cons pd_str (ad_cons pd_str ad_nil))) (ad_cons (pd_tup (ad_cons pd_str (ad_cons pd_str ad_nil))) (ad_cons (pd_tup (ad_cons pd_str (ad_cons pd_str ad_nil))) ad_nil)))))))))
      (sd_cons (sd_set 2 sc__law_is_token.nd (pd_and (pd_isi (pd_ix (pd_var 0 (pv 0)) pd_int) rfl kit_tuple T.isinstance T.tuple) (pd_one (pd_cmp (cm_inN hr) (pd_ix (pd_var 0 (pv 0)) pd_int) (pd_add (pd_var 1 (pv 1)) (pd_lst (ad_cons (pd_tup (ad_cons pd_str (ad_cons pd_str (ad_cons pd_str ad_nil)))) ad_nil)))))))
      (sd_one (sd_ret (pd_and (pd_var 2 (pv 2)) (pd_one (pd_or (pd_cmp cm_isN (pd_ix (pd_var 0 (pv 0)) pd_int) pd_non) (pd_one (pd_cl D__law_is_link hr (by decide) hga (ad_cons (pd_ix (pd_var 0 (pv 0)) pd_int) ad_nil))))))))))) sd_nil)
      (sd_cons (sd_if (td_cmp (cm_ne hr) (pd_bt bt_len T.len (ad_cons (pd_var 0 (pv 0)) ad_nil)) pd_int) (sd_one (sd_ret pd_bl)) sd_nil)
      (sd_cons (sd_if (td_cmp (cm_in) (pd_ix (pd_var 0 (pv 0)) pd_int) (pd_tup (ad_cons pd_str (ad_cons pd_str ad_nil)))) (sd_cons (sd_set 3 sc__law_is_token.nd (pd_lst (ad_cons pd_str (ad_cons pd_str (ad_cons pd_str (ad_cons pd_str (ad_cons pd_str (ad_cons pd_str (ad_cons pd_str (ad_cons pd_str ad_nil))))))))))
      (sd_one (sd_ret (pd_and (pd_isi (pd_ix (pd_var 0 (pv 0)) pd_int) rfl kit_str T.isinstance T.str) (pd_one (pd_cmp (cm_in) (pd_ix (pd_var 0 (pv 0)) pd_int) (pd_var 3 (pv 3)))))))) sd_nil)
      (sd_one (sd_ret (pd_and (pd_cmp (cm_in) (pd_ix (pd_var 0 (pv 0)) pd_int) (pd_tup (ad_cons pd_str (ad_cons pd_str ad_nil)))) (pd_one (pd_cl D__law_is_id hr (by decide) hga (ad_cons (pd_ix (pd_var 0 (pv 0)) pd_int) ad_nil))))))))))) ?_
  intro ds n Q hl hF
  obtain ⟨d, rfl, ⟨⟨hc1, hc2, hc3⟩, ht⟩, q⟩ := hF
  cases d
  case tup es =>
    obtain ⟨hz, he⟩ := ht _ rfl
    simp (config := {maxSteps := 10000000}) only [↓f_wC, ↓f_wVar, ↓f_wBin, ↓f_wBinV, ↓f_wBinR, ↓f_wT, ↓f_wChain, ↓f_wTru, ↓f_wTruV, ↓f_tAnd, ↓f_tOr, ↓f_tNot, ↓f_andV, ↓f_orV, ↓f_notV, ↓f_if, ↓f_noPart, ↓f_part, ↓f_sl, ↓f_slV, ↓f_nil, ↓f_cons, ↓f_bor, ↓f_tup, ↓f_lst, ↓f_fn, ↓f_isi, ↓f_mt, ↓f_call, ↓f_next, ↓f_seq, ↓f_break, ↓f_cont, ↓f_drop, ↓f_ret, ↓f_retN, ↓f_ifS, ↓f_set, ↓f_ofL, ↓f_sz, ↓f_own, ↓f_par, ↓f_par3, ↓f_asgT, ↓f_iL, ↓f_iT, ↓f_iS, ↓f_iR1, ↓f_for, ↓f_lc, ↓f_yes, ↓f_dgL, ↓f_dgA, ↓f_dgC, ↓f_dpL, ↓f_dpA, ↓f_app, ↓f_pop, env0, env1, ↓bl_bl, ↓int_int, ↓str_str, ↓get_some, get_if, vget, ownE, List.length_cons, List.length_nil, List.replicate, List.getElem?_cons_zero, List.getElem?_cons_succ, List.set_cons_zero, List.set_cons_succ, Nat.zero_add, Nat.add_sub_cancel, Nat.reduceAdd, Nat.reduceSub, Nat.reduceLT, Nat.reduceLeDiff, true_and, if_true, if_false, Bool.false_eq_true, List.length_set, gLt, gLe, gGt, gGe, gIx, gLen, cLen, cT, cIx, gIsi, tyD, Option.map_some, gIn, gNin, cIn, gAll, c0, lstD, tupD, innE, wipeE, toBor, Bool.not_false, Bool.not_true, eq_self, List.map_cons, List.map_nil]
    rw [if_neg (by decide)]
    have short : ∀ e, tokB (.tup [e]) = false := fun e => by
      cases e <;> try rfl
      rename_i x
      simp only [tokB]
      split <;> rfl
    match es, hz, he, q with
    | [], hz, he, q => exact q
    | [e], hz, he, q =>
      rw [short] at q
      exact q
    | e :: f :: es, hz, he, q =>
      rw [if_neg (by simp; omega)]
      simp only [atI0, atI1, get_some]
      cases e
      case str x =>
        simp only [tyD, Option.map_some, get_some, bl_bl]
        rw [if_neg (by decide)]
        simp only [eqD_str, gEq, get_some, bl_bl]
        refine ⟨.inl rfl, ?_⟩
        simp only [tokB] at q
        by_cases h1 : x = "char"
        · rw [if_pos (by simp [h1])]
          rw [if_pos h1] at q
          simp only [eqD_int, gNe, get_some, bl_bl]
          refine ⟨.inl rfl, ?_⟩
          match es, he, q with
          | [s, l], he, q0 =>
            have q : Q (.bl (charB f s l)) n := q0
            clear q0
            rw [if_neg (by simp)]
            have hf := (he f (by simp)).s
            have hs := he s (by simp)
            have hll := (he l (by simp)).s
            unfold charB at q
            cases f with
            | str z =>
              have hz1 := Nat.le_trans (hf.st z rfl) line1000
              dsimp only [Option.map_some]
              simp only [get_some, bl_bl]
              rw [if_neg (by decide)]
              refine ⟨hz1, .inl rfl, ?_⟩
              rw [eqD_int]
              by_cases h2 : z.length = 1
              · rw [if_neg (by simp [h2])]
                obtain ⟨c, rfl⟩ := one_of h2
                have hc : c ≠ 37 := fun e => (hf.ok _ rfl).2 (by rw [e]; exact List.mem_cons_self)
                rw [signB_one, ← plC_law hc] at q
                cases hA : (!strLt ⟨#[c]⟩ " ") with
                | false =>
                  rw [if_neg (by decide)]
                  rw [hA] at q
                  exact q
                | true =>
                  rw [if_pos rfl]
                  cases hB : (!strLt "~" ⟨#[c]⟩) with
                  | false =>
                    rw [if_pos (by decide)]
                    rw [hA, hB] at q
                    exact q
                  | true =>
                    rw [if_neg (by decide)]
                    rw [hA, hB, Bool.true_and, Bool.true_and] at q
                    refine ⟨by decide, by decide, by decide, by decide, by decide, by decide, by decide, by decide, ?_⟩
                    simp only [atI2, atI3, get_some]
                    cases s
                    case tup ss =>
                      obtain ⟨zs, rfl, hzs, hzk⟩ := hs.t _ rfl
                      dsimp only [Option.map_some]
                      simp only [get_some, bl_bl]
                      rw [if_pos (by decide)]
                      refine ⟨by decide, by decide, by first | exact trivial | (show (_ : Nat) ≤ _; decide), ?_⟩
                      show cInN _ (.lst (_ ++ _)) ∧ _
                      rw [rowsL_eq]
                      refine ⟨⟨shp_tupS zs hzk, shp_rowsL⟩, ?_⟩
                      simp only [stylB] at q
                      dsimp only
                      simp only [get_some, bl_bl]
                      cases hI : inD (.tup (zs.map D.str)) (rows.map tupS) with
                      | false =>
                        rw [if_neg (by decide)]
                        rw [hI] at q
                        exact q
                      | true =>
                        rw [if_pos rfl]
                        rw [hI, Bool.true_and] at q
                        cases l with
                        | non => exact q
                        | drw => exact absurd rfl hll.nd
                        | _ =>
                          simp only [gIsN, isNon, get_some, bl_bl]
                          rw [if_neg (by decide)]
                          exact ⟨_, rfl, hll, by simpa [nonD] using q⟩
                    case drw => exact absurd rfl hs.s.nd
                    all_goals exact q
              · rw [if_pos (by simpa using (by omega : ¬ (z.length : Int) = 1))]
                rw [signB_of h2] at q
                exact q
            | drw => exact absurd rfl hf.nd
            | _ => exact q
          | [], he, q =>
            rw [if_pos (by simp)]
            exact q
          | [_], he, q =>
            rw [if_pos (by simp)]
            exact q
          | _ :: _ :: _ :: _, he, q =>
            rw [if_pos (by simp; omega)]
            exact q
        · rw [if_neg (by simpa using h1)]
          rw [if_neg h1] at q
          simp only [eqD_int, gNe, get_some, bl_bl]
          refine ⟨.inl rfl, ?_⟩
          match es, he, q with
          | _ :: _, he, q =>
            rw [if_pos (by simp; omega)]
            exact q
          | [], he, q =>
            have q : Q (.bl (if x = "open" ∨ x = "close" then kinB f else (decide (x = "anchor") || decide (x = "image")) && idB f)) n := q
            have hf := (he f (by simp)).s
            rw [if_neg (by simp)]
            have inT : ∀ a b : Str, inD (.str x) [.str a, .str b] = decide (x = a ∨ x = b) := fun a b => by
              rw [show [D.str a, .str b] = [a, b].map D.str from rfl, inD_strs]
              simp
            refine ⟨by decide, ⟨rfl, by decide⟩, ?_⟩
            rw [inT]
            by_cases h2 : x = "open" ∨ x = "close"
            · rw [if_pos (by simpa using h2)]
              rw [if_pos h2] at q
              refine ⟨by decide, ?_⟩
              cases f
              case str y =>
                dsimp only [Option.map_some]
                simp only [get_some, bl_bl]
                rw [if_pos (by decide)]
                refine ⟨⟨rfl, by decide⟩, ?_⟩
                rw [kinB_str] at q
                rw [show [D.str "section", .str "quote", .str "list", .str "item", .str "head1", .str "head2", .str "head3", .str "para"] = (boxes ++ lines).map D.str from rfl, inD_strs]
                exact q
              case drw => exact absurd rfl hf.nd
              all_goals exact q
            · rw [if_neg (by simpa using h2)]
              rw [if_neg h2] at q
              refine ⟨by decide, ⟨rfl, by decide⟩, ?_⟩
              rw [inT]
              by_cases h3 : x = "anchor" ∨ x = "image"
              · rw [if_pos (by simpa using h3)]
                have e : (decide (x = "anchor") || decide (x = "image")) = true := by simpa using h3
                rw [e, Bool.true_and] at q
                exact ⟨f, rfl, hf, q⟩
              · rw [if_neg (by simpa using h3)]
                have e : (decide (x = "anchor") || decide (x = "image")) = false := by simpa using h3
                rw [e, Bool.false_and] at q
                exact q
      case drw => exact absurd rfl (he .drw (by simp)).s.nd
      all_goals exact q
  case drw => exact absurd rfl hc1
  all_goals
    simp (config := {maxSteps := 10000000}) only [↓f_wC, ↓f_wVar, ↓f_wBin, ↓f_wBinV, ↓f_wBinR, ↓f_wT, ↓f_wChain, ↓f_wTru, ↓f_wTruV, ↓f_tAnd, ↓f_tOr, ↓f_tNot, ↓f_andV, ↓f_orV, ↓f_notV, ↓f_if, ↓f_noPart, ↓f_part, ↓f_sl, ↓f_slV, ↓f_nil, ↓f_cons, ↓f_bor, ↓f_tup, ↓f_lst, ↓f_fn, ↓f_isi, ↓f_mt, ↓f_call, ↓f_next, ↓f_seq, ↓f_break, ↓f_cont, ↓f_drop, ↓f_ret, ↓f_retN, ↓f_ifS, ↓f_set, ↓f_ofL, ↓f_sz, ↓f_own, ↓f_par, ↓f_par3, ↓f_asgT, ↓f_iL, ↓f_iT, ↓f_iS, ↓f_iR1, ↓f_for, ↓f_lc, ↓f_yes, ↓f_dgL, ↓f_dgA, ↓f_dgC, ↓f_dpL, ↓f_dpA, ↓f_app, ↓f_pop, env0, env1, ↓bl_bl, ↓int_int, ↓str_str, ↓get_some, get_if, vget, ownE, List.length_cons, List.length_nil, List.replicate, List.getElem?_cons_zero, List.getElem?_cons_succ, List.set_cons_zero, List.set_cons_succ, Nat.zero_add, Nat.add_sub_cancel, Nat.reduceAdd, Nat.reduceSub, Nat.reduceLT, Nat.reduceLeDiff, true_and, if_true, if_false, Bool.false_eq_true, List.length_set, gLt, gLe, gGt, gGe, gIx, gLen, cLen, cT, cIx, gIsi, tyD, Option.map_some, gIn, gNin, cIn, gAll, c0, lstD, tupD, innE, wipeE, toBor, Bool.not_false, Bool.not_true, eq_self, List.map_cons, List.map_nil]
    exact q
theorem merge_drw (q : Addr) : mergeK [] [((Sum.inr "cells" : Key), V.ref q), (Sum.inr "at", .int 0), (Sum.inr "left", .int 0), (Sum.inr "used", .int 0)] = drwK q 0 0 0 := by
  obtain ⟨h1, h2, h3, h4, h5, h6⟩ := kAt
  simp [mergeK, putK, drwK, h1, h2, h3, h4, h5, h6]
/-! ### the draws are begun -/
def spBegin (K : PySem.W.Frag) : Sp := fun vs H Q _ => ∃ (a : Addr) (ns : List Int), vs = [.ref a] ∧ SqL K H a (ns.map V.int) ∧ ns.length ≤ 63 ∧
  ∀ (p L : Addr) (H' : Hp), H p = none → H L = none → L ≠ p → (∀ b o, H b = some o → H' b = some o) → H' p = some (.dK (drwK L 0 0 0)) → H' L = some (.lst ((ns ++ [0]).map V.int)) → Q (.ref p) H'
theorem sc__law_begin : FnScope ["script"] ["script"] (defScope (top 15)) := ⟨rfl, rfl, rfl, by decide +kernel, rfl, by decide +kernel, by decide +kernel⟩
theorem ok__law_begin {P : Program} {w : World} {K : PySem.W.Frag} {mg : Str → Option Value} {base : Heap} {f : Addr} {fd : FuncData} (U : Fun K "_law_begin" "_law_begin" (top 15) f fd) : FnOk P w K mg base CX0 1 f fd ["script"] (spBegin K) := by
  refine U.ok sc__law_begin (fun vs H Q E h => ?_) (fun cdv A outer s H vs Q E hr h => ?_)
  · obtain ⟨a, ns, rfl, _⟩ := h
    rfl
  · obtain ⟨a, ns, rfl, hS, hl, k⟩ := h
    refine ⟨_, pss_one (ps_ret (pe_disp (pps_cons pe_str (pe_op op_catS (pv 0) (pe_lst (pa_cons pe_int pa_nil))) (pps_cons pe_str pe_int (pps_cons pe_str pe_int (pps_cons pe_str pe_int pps_nil)))) (by rfl) (by rfl) (fun z => by cases z) (by decide))), ?_⟩
    intro p hp
    have s0 : Same H (upd H p (.dK [])) := Same.upd hp
    refine ⟨_, rfl, by decide, fun l hl' => ?_⟩
    have npl : p ≠ l := fun z => by
      rw [z, upd_same] at hl'
      cases hl'
    have s1 : Same H (upd (upd H p (.dK [])) l (.lst [.int 0])) := s0.trans (Same.upd hl')
    refine ⟨a, l, _, _, rfl, rfl, s1.seq hS, SqL.of upd_same, ?_, fun q hq => ?_⟩
    · have e : (ns.map V.int).length = ns.length := List.length_map _
      rw [e]
      exact line2 (by simp only [List.length_cons, List.length_nil]; omega)
    have nql : q ≠ l := fun z => by
      rw [z, upd_same] at hq
      cases hq
    have nqp : q ≠ p := fun z => by
      rw [z, upd_ne npl, upd_same] at hq
      cases hq
    have hpp : (upd (upd (upd H p (.dK [])) l (.lst [.int 0])) q (.lst (ns.map V.int ++ [.int 0]))) p = some (.dK []) := by
      rw [upd_ne nqp.symm, upd_ne npl, upd_same]
    refine ⟨hpp, [(Sum.inr "cells", .ref q), (Sum.inr "at", .int 0), (Sum.inr "left", .int 0), (Sum.inr "used", .int 0)], rfl, by simp, ?_⟩
    have hqH : H q = none := s1.free hq
    refine k p q _ hp hqH nqp (fun b o e => ?_) ?_ ?_
    · rw [upd_ne (ne_of_none e hp)]
      rw [upd_ne (ne_of_none e hqH)]
      exact s1 b o e
    · rw [upd_same, merge_drw]
    · rw [upd_ne nqp, upd_same, List.map_append]
      rfl
/-! ### the law -/
theorem sd_forC {C : L2.St → Hp → Prop} {X : Cx} {p : Pl} {e tg : Expr} {pos : Pos} {wi : WI} {g : D → List Sl → Option (List Sl)} {tb : WS} {body : List Stmt} (hi : PI X tg e (fun σ H Rr => C σ H ∧ liftI p wi σ H Rr)) (hg : PG X tg (liftG p g)) (hb : PSs X body (liftS p tb)) (hp : PassesOwn (model X.prog X.w) X.A X.env X.xe := by exact PassesOwn.never) (hc : X.calm = true := by rfl) (hs : ∀ x, foldedSetIterable e X.env x = pure x := by intro _; rfl) :
    PS X (.For tg e body [] pos) (fun D σ H => C σ H ∧ liftS p (wForS wi g tb) D σ H) := PS.imp (ps_for hp hc hi hg hb hs) fun D σ H ⟨hC, G, s, E, R, k, q⟩ => ⟨hC, G, s, R, wi.mono _ _ _ (fun ds s1 k1 J H1 G1 e1 R1 src => by
    refine ⟨fun i m σ' H' => m = ds.length - i ∧ i ≤ ds.length ∧ ∃ G' s', Same G1 G' ∧ p.Rs σ' H' G' s' ∧ forW g tb E (ds.drop i) s', ⟨ds.length, by simp, Nat.zero_le _, G1, s1, Same.refl G1, R1, by simpa using k1⟩, ?_⟩
    rintro i m σ' H' ⟨rfl, hi, G', s', e2, R2, k2⟩
    obtain ⟨s1', s2'⟩ := src i H' G' e2 R2.sub
    by_cases hlt : i < ds.length
    · right
      have hd : ds[i]? = some ds[i] := List.getElem?_eq_getElem hlt
      obtain ⟨go, yl⟩ := s1' _ hd
      rw [List.drop_eq_getElem_cons hlt] at k2
      obtain ⟨env', eg, k3⟩ := get_of k2
      refine ⟨go, fun σ2 H2 => ∃ G2 s2, Same G1 G2 ∧ p.Rs σ2 H2 G2 s2 ∧ forW g tb E (ds.drop (i + 1)) s2, fun σ2 H2 ⟨G2, s2, z1, z2, z3⟩ => ⟨ds.length - (i + 1), by omega, rfl, hlt, G2, s2, z1, z2, z3⟩, fun x H'' y => ?_⟩
      have cm : ∀ {G3 : Hp}, Same G1 G3 → Cmp p G3 { nx := forW g tb E (ds.drop (i + 1)), rt := E.rt, bk := E.nx, ct := forW g tb E (ds.drop (i + 1)) } { D with nx := fun σ2 H2 => ∃ G2 s2, Same G1 G2 ∧ p.Rs σ2 H2 G2 s2 ∧ forW g tb E (ds.drop (i + 1)) s2, ct := fun σ2 H2 => ∃ G2 s2, Same G1 G2 ∧ p.Rs σ2 H2 G2 s2 ∧ forW g tb E (ds.drop (i + 1)) s2, bk := D.nx } := fun {G3} e3 =>
        ⟨fun σ4 H4 G4 s4 a R4 k4 => ⟨G4, s4, e3.trans a, R4, k4⟩, fun v σ4 H4 G4 d4 s4 a R4 r4 k4 => q.rt v σ4 H4 G4 d4 s4 (e1.trans (e3.trans a)) R4 r4 k4, fun σ4 H4 G4 s4 a R4 k4 => q.nx σ4 H4 G4 s4 (e1.trans (e3.trans a)) R4 k4, fun σ4 H4 G4 s4 a R4 k4 => ⟨G4, s4, e3.trans a, R4, k4⟩⟩
      rcases yl x H'' y with ⟨rfl, rx⟩ | ⟨q1, o, hq, rfl, rfl, rx⟩
      · exact ⟨G', s', _, env', R2, rx, eg, fun σ3 H3 G3 e3 R3 => ⟨G3, _, _, R3, k3, cm (e2.trans e3)⟩⟩
      · have e4 : Same G' (upd G' q1 o) := Same.upd (R2.sub.none hq)
        exact ⟨_, s', _, env', R2.alloc hq, rx, eg, fun σ3 H3 G3 e3 R3 => ⟨G3, _, _, R3, k3, cm ((e2.trans e4).trans e3)⟩⟩
    · left
      have e0 : i = ds.length := by omega
      subst e0
      rw [List.drop_length] at k2
      exact ⟨s2' (Nat.le_refl _), q.nx σ' H' G' s' (e1.trans e2) R2 k2⟩) k⟩

/-- script is a list of whole numbers -/
def ScrAt (K : PySem.W.Frag) : L2.St → Hp → Prop := fun σ H => ∃ (a : Addr) (ns : List Int), σ[0]? = some (some (.ref a)) ∧ SqL K H a (ns.map V.int) ∧ ns.length ≤ 63
/-- a number of turns up to thirty -/
def wiTurns : WI := ⟨fun s P => ∀ k : Nat, k ≤ 30 → P (rngD 0 k) s, fun s P P' h q k hk => h _ _ (q k hk)⟩
def spLaw (K : PySem.W.Frag) : Sp := fun vs H Q _ => ∃ (a : Addr) (ns : List Int), vs = [.ref a] ∧ SqL K H a (ns.map V.int) ∧ ns.length ≤ 63 ∧ ∀ H', Q (.bl true) H'
theorem sc_law : FnScope ["script", "draw", "turn", "odd", "thing", "due"] ["script"] (defScope (top 24)) := ⟨rfl, rfl, rfl, by decide +kernel, rfl, by decide +kernel, by decide +kernel⟩
def wsOdds : W := wLst (waCons (wC .non) (waCons (wC (.int 5)) (waCons (wC (.bl true)) (waCons (wTup waNil) (waCons (wLst (waCons (wC (.str "a")) waNil)) (waCons (wC .dic0) (waCons (wTup (waCons (wC (.str "open")) waNil)) (waCons (wBin cPow gPow (wC (.int 10)) (wC (.int 20))) (waCons (wTup (waCons (wLst waNil) (waCons (wC (.str "para")) waNil))) (waCons (wTup (waCons (wC .dic0) (waCons (wC (.str "x")) (waCons (wTup waNil) (waCons (wC .non) waNil))))) waNil))))))))))
def wsAsk : W := wLst (waCons (wCall F_is_id (waCons (wVar 4) waNil)) (waCons (wCall F_is_link (waCons (wVar 4) waNil)) (waCons (wCall F_is_token (waCons (wVar 4) waNil)) waNil)))
def wsIf : WS := wIfS (wT (wBin cEq gNe (wFn cRepr gRepr (waCons wsAsk waNil)) (wFn cRepr gRepr (waCons (wVar 5) waNil)))) (wRet (wC (.bl false))) wNext
def wsThing : WS := wSeq (wSet 5 (wLst (waCons (wCall F__law_is_id (waCons (wVar 4) waNil)) (waCons (wCall F__law_is_link (waCons (wVar 4) waNil)) (waCons (wCall F__law_is_token (waCons (wVar 4) waNil)) waNil))))) (wSeq wsIf wsIf)
def wsTurn : WS := wSeq (wSet 3 wsOdds) (wSeq (wSet 3 (wBin cIx gIx (wVar 3) (wCall F__law_next (waCons (wVar 1) (waCons (wC (.int 10)) waNil)))))
  (wForS (wiL (wLst (waCons (wCall F__law_word (waCons (wVar 1) waNil)) (waCons (wCall F__law_text (waCons (wVar 1) waNil)) (waCons (wCall F__law_value (waCons (wVar 1) waNil)) (waCons (wCall F__law_value (waCons (wVar 1) waNil)) (waCons (wVar 3) waNil))))))) (gNm 4) wsThing))
def wsLaw : WS := wSeq (wForS wiTurns (gNm 2) wsTurn) (wRet (wC (.bl true)))
theorem ask_eq (a b c : Bool) : cRepr [.lst [.bl a, .bl b, .bl c]] := by
  refine ⟨rfl, by simp [toPy, toPyA, PyData.showable, PyData.showableAll], by simp [toPy, toPyA, PyData.hasDict, PyData.hasDictAll], by simp [toPy, toPyA, PyData.depth, PyData.depthAll], Nat.le_trans ?_ line1000⟩
  cases a <;> cases b <;> cases c <;> decide +kernel
theorem if_wp {E : ED} {x2 x3 : Sl} {t : D} {n : Nat} (ht : OkK t) (h : E.nx ⟨[.emp, .val .drw, x2, x3, .val t, .val (.lst [.bl (idB t), .bl (linkB t), .bl (tokB t)])], n⟩) : wsIf.f E ⟨[.emp, .val .drw, x2, x3, .val t, .val (.lst [.bl (idB t), .bl (linkB t), .bl (tokB t)])], n⟩ := by
  unfold wsIf wsAsk
  simp (config := {maxSteps := 10000000}) only [↓f_wC, ↓f_wVar, ↓f_wBin, ↓f_wBinV, ↓f_wBinR, ↓f_wT, ↓f_wChain, ↓f_wTru, ↓f_wTruV, ↓f_tAnd, ↓f_tOr, ↓f_tNot, ↓f_andV, ↓f_orV, ↓f_notV, ↓f_if, ↓f_noPart, ↓f_part, ↓f_sl, ↓f_slV, ↓f_nil, ↓f_cons, ↓f_bor, ↓f_tup, ↓f_lst, ↓f_fn, ↓f_isi, ↓f_mt, ↓f_call, ↓f_next, ↓f_seq, ↓f_break, ↓f_cont, ↓f_drop, ↓f_ret, ↓f_retN, ↓f_ifS, ↓f_set, ↓f_ofL, ↓f_sz, ↓f_own, ↓f_par, ↓f_par3, ↓f_asgT, ↓f_iL, ↓f_iT, ↓f_iS, ↓f_iR1, ↓f_for, ↓f_lc, ↓f_yes, ↓f_dgL, ↓f_dgA, ↓f_dgC, ↓f_dpL, ↓f_dpA, ↓f_app, ↓f_pop, env0, env1, ↓bl_bl, ↓int_int, ↓str_str, ↓get_some, get_if, vget, ownE, List.length_cons, List.length_nil, List.replicate, List.getElem?_cons_zero, List.getElem?_cons_succ, List.set_cons_zero, List.set_cons_succ, Nat.zero_add, Nat.add_sub_cancel, Nat.reduceAdd, Nat.reduceSub, Nat.reduceLT, Nat.reduceLeDiff, true_and, if_true, if_false, Bool.false_eq_true, List.length_set, gLt, gLe, gGt, gGe, gIx, gLen, cLen, cT, cIx, gIsi, tyD, Option.map_some, gIn, gNin, cIn, gAll, c0, lstD, tupD, innE, wipeE, toBor, Bool.not_false, Bool.not_true, eq_self, List.map_cons, List.map_nil]
  refine ⟨t, rfl, ht.s, t, rfl, ht.s, t, rfl, ht, by decide, ask_eq _ _ _, ?_⟩
  simp only [gRepr, get_some]
  refine ⟨ask_eq _ _ _, .inl rfl, ?_⟩
  simp only [gNe, get_some, bl_bl, eqD_str, decide_true]
  rw [if_neg (by decide)]
  exact h
theorem thing_wp {E : ED} {x2 x3 x5 : Sl} {t : D} {n : Nat} (ht : OkK t) (h : ∀ x5, E.nx ⟨[.emp, .val .drw, x2, x3, .val t, x5], n⟩) : wsThing.f E ⟨[.emp, .val .drw, x2, x3, .val t, x5], n⟩ := by
  unfold wsThing
  simp (config := {maxSteps := 10000000}) only [↓f_wC, ↓f_wVar, ↓f_wBin, ↓f_wBinV, ↓f_wBinR, ↓f_wT, ↓f_wChain, ↓f_wTru, ↓f_wTruV, ↓f_tAnd, ↓f_tOr, ↓f_tNot, ↓f_andV, ↓f_orV, ↓f_notV, ↓f_if, ↓f_noPart, ↓f_part, ↓f_sl, ↓f_slV, ↓f_nil, ↓f_cons, ↓f_bor, ↓f_tup, ↓f_lst, ↓f_fn, ↓f_isi, ↓f_mt, ↓f_call, ↓f_next, ↓f_seq, ↓f_break, ↓f_cont, ↓f_drop, ↓f_ret, ↓f_retN, ↓f_ifS, ↓f_set, ↓f_ofL, ↓f_sz, ↓f_own, ↓f_par, ↓f_par3, ↓f_asgT, ↓f_iL, ↓f_iT, ↓f_iS, ↓f_iR1, ↓f_for, ↓f_lc, ↓f_yes, ↓f_dgL, ↓f_dgA, ↓f_dgC, ↓f_dpL, ↓f_dpA, ↓f_app, ↓f_pop, env0, env1, ↓bl_bl, ↓int_int, ↓str_str, ↓get_some, get_if, vget, ownE, List.length_cons, List.length_nil, List.replicate, List.getElem?_cons_zero, List.getElem?_cons_succ, List.set_cons_zero, List.set_cons_succ, Nat.zero_add, Nat.add_sub_cancel, Nat.reduceAdd, Nat.reduceSub, Nat.reduceLT, Nat.reduceLeDiff, true_and, if_true, if_false, Bool.false_eq_true, List.length_set, gLt, gLe, gGt, gGe, gIx, gLen, cLen, cT, cIx, gIsi, tyD, Option.map_some, gIn, gNin, cIn, gAll, c0, lstD, tupD, innE, wipeE, toBor, Bool.not_false, Bool.not_true, eq_self, List.map_cons, List.map_nil]
  refine ⟨t, rfl, ht.s, t, rfl, ht.s, t, rfl, ht, by decide, ?_⟩
  refine if_wp ht ?_
  exact if_wp ht (h _)
theorem things_wp {E : ED} {x2 x3 : Sl} {n : Nat} (h : ∀ x4 x5, E.nx ⟨[.emp, .val .drw, x2, x3, x4, x5], n⟩) : ∀ (ts : List D), (∀ t ∈ ts, OkK t) → ∀ x4 x5, forW (gNm 4) wsThing E ts ⟨[.emp, .val .drw, x2, x3, x4, x5], n⟩
  | [], _, x4, x5 => h x4 x5
  | t :: ts, ht, x4, x5 => by
    exact thing_wp (E := { nx := forW (gNm 4) wsThing E ts, rt := E.rt, bk := E.nx, ct := forW (gNm 4) wsThing E ts }) (ht t List.mem_cons_self) fun x5 => things_wp h ts (fun u hu => ht u (List.mem_cons_of_mem _ hu)) _ x5
theorem odds_wp {P : D → S → Prop} {s : S} (h : ∀ ds : List D, ds.length = 10 → (∀ d ∈ ds, OkK d) → P (.lst ds) s) : wsOdds.f s P := by
  unfold wsOdds
  simp only [f_lst, f_cons, f_nil, f_wC, f_tup, f_wBin]
  refine ⟨by decide, by decide, by decide, ⟨by decide, by decide, by decide⟩, by decide, by simp only [List.length_cons, List.length_nil]; decide, by decide, by simp only [List.length_cons, List.length_nil]; decide, by simp only [List.length_cons, List.length_nil]; decide, ?_⟩
  refine h _ rfl ?_
  intro x hx
  simp only [List.mem_cons, List.not_mem_nil, or_false] at hx
  rcases hx with rfl | rfl | rfl | rfl | rfl | rfl | rfl | rfl | rfl | rfl
  · exact okK_s okT_non.s fun es e => nomatch e
  · exact okK_s (okT_int _).s fun es e => nomatch e
  · exact okK_s (okT_bl _).s fun es e => nomatch e
  · exact okK_tup (by decide) fun e h => nomatch h
  · exact okK_lst _
  · exact okK_s okT_dic.s fun es e => nomatch e
  · refine okK_tup (by decide) fun e h => ?_
    rw [List.mem_singleton.mp h]
    exact okT_str (by decide +kernel) (by decide +kernel)
  · exact okK_s (okT_int _).s fun es e => nomatch e
  · refine okK_tup (by decide) fun e h => ?_
    simp only [List.mem_cons, List.not_mem_nil, or_false] at h
    rcases h with rfl | rfl
    · exact okT_lst _
    · exact okT_str (by decide +kernel) (by decide +kernel)
  · refine okK_tup (by simp) fun e h => ?_
    simp only [List.mem_cons, List.not_mem_nil, or_false] at h
    rcases h with rfl | rfl | rfl | rfl
    · exact okT_dic
    · exact okT_str (by decide +kernel) (by decide +kernel)
    · exact okT_tup [] (by decide) (by decide +kernel)
    · exact okT_non
def wsWalk : WS := wForS (wiL (wLst (waCons (wCall F__law_word (waCons (wVar 1) waNil)) (waCons (wCall F__law_text (waCons (wVar 1) waNil)) (waCons (wCall F__law_value (waCons (wVar 1) waNil)) (waCons (wCall F__law_value (waCons (wVar 1) waNil)) (waCons (wVar 3) waNil))))))) (gNm 4) wsThing
theorem walk_wp {E : ED} {x2 x4 x5 : Sl} {n : Nat} {o : D} (ho : OkK o) (hn : n < 2 ^ 42) (h : ∀ x4 x5 m, n ≤ m → m ≤ n + 900 → E.nx ⟨[.emp, .val .drw, x2, .val o, x4, x5], m⟩) : wsWalk.f E ⟨[.emp, .val .drw, x2, .val o, x4, x5], n⟩ := by
  unfold wsWalk
  simp only [↓f_for, ↓f_iL, ↓f_lst, ↓f_cons, ↓f_nil, ↓f_call, ↓f_wVar, List.getElem?_cons_zero, List.getElem?_cons_succ]
  refine word_of (by omega) fun z1 m1 l1 k1 a1 b1 => ?_
  refine text_of (by omega) fun z2 m2 l2 k2 a2 b2 => ?_
  refine value_of (by omega) fun v3 m3 k3 a3 b3 => ?_
  refine value_of (by omega) fun v4 m4 k4 a4 b4 => ?_
  refine ⟨by simp only [List.length_cons, List.length_nil]; decide, ?_⟩
  refine things_wp (fun x4 x5 => h x4 x5 m4 (by omega) (by omega)) _ ?_ x4 x5
  intro t ht
  simp only [List.mem_cons, List.not_mem_nil, or_false] at ht
  rcases ht with rfl | rfl | rfl | rfl | rfl
  · exact okK_str (by omega) k1
  · exact okK_str (by omega) k2
  · exact k3
  · exact k4
  · exact ho
theorem turn_wp {E : ED} {x2 x3 x4 x5 : Sl} {n : Nat} (hn : n < 2 ^ 41) (h : ∀ x3 x4 x5 m, n ≤ m → m ≤ n + 1000 → E.nx ⟨[.emp, .val .drw, x2, x3, x4, x5], m⟩) : wsTurn.f E ⟨[.emp, .val .drw, x2, x3, x4, x5], n⟩ := by
  unfold wsTurn
  rw [f_seq, f_set]
  refine odds_wp fun ds hl hk => ⟨(by show 3 < 6; decide), ?_⟩
  show (wSeq (wSet 3 (wBin cIx gIx (wVar 3) (wCall F__law_next (waCons (wVar 1) (waCons (wC (.int 10)) waNil))))) wsWalk).f E ⟨[.emp, .val .drw, x2, .val (.lst ds), x4, x5], n⟩
  rw [f_seq, f_set, f_wBin, f_wVar]
  show F__law_next.f [.drw, .int 10] n fun d m => cIx (.lst ds) d ∧ get (gIx (.lst ds) d) fun o => 3 < 6 ∧ wsWalk.f E ⟨[.emp, .val .drw, x2, .val o, x4, x5], m⟩
  refine next_of (by omega) (by decide) (by decide) fun r r0 r1 => ⟨trivial, ?_⟩
  refine pick_of (P := OkK) r0 (by rw [hl]; exact r1) hk fun o ho => ⟨(by show 3 < 6; decide), ?_⟩
  exact walk_wp ho (by omega) fun x4 x5 m h1 h2 => h _ x4 x5 m (by omega) (by omega)
theorem law_wp : ∀ (ds : List D) (x2 x3 x4 x5 : Sl) (n : Nat), n + 1000 * ds.length ≤ 2 ^ 40 → forW (gNm 2) wsTurn { nx := (wRet (wC (.bl true))).f { nx := fun _ => False, rt := fun d _ => d = .bl true }, rt := fun d _ => d = .bl true } ds ⟨[.emp, .val .drw, x2, x3, x4, x5], n⟩
  | [], x2, x3, x4, x5, n, _ => rfl
  | d :: ds, x2, x3, x4, x5, n, hn => by
    simp only [List.length_cons, Nat.mul_add, Nat.mul_one] at hn
    exact turn_wp (x2 := .val d) (n := n) (by omega) fun x3 x4 x5 m h1 h2 => law_wp ds _ x3 x4 x5 m (by omega)
theorem ok_law {P : Program} {w : World} {K : PySem.W.Frag} {mg : Str → Option Value} {base : Heap} (T : Txt K mg) {fB : Addr} {fdB : FuncData} (UB : Fun K "_law_begin" "_law_begin" (top 15) fB fdB) (mB : mg "_law_begin" = some (.ref fB)) (bB : Binds K fdB ["script"] []) (D__law_next : Dn P w K mg base 2 "_law_next" ["draw", "bound"] F__law_next) (D__law_word : Dn P w K mg base 3 "_law_word" ["draw"] F__law_word) (D__law_text : Dn P w K mg base 4 "_law_text" ["draw"] F__law_text) (D__law_value : Dn P w K mg base 4 "_law_value" ["draw"] F__law_value) (D__law_is_id : Dn P w K mg base 1 "_law_is_id" ["thing"] F__law_is_id) (D__law_is_link : Dn P w K mg base 2 "_law_is_link" ["thing"] F__law_is_link) (D__law_is_token : Dn P w K mg base 3 "_law_is_token" ["thing"] F__law_is_token) (D_is_id : Dn P w K mg base 1 "is_id" ["value"] F_is_id) (D_is_link : Dn P w K mg base 2 "is_link" ["value"] F_is_link) (D_is_token : Dn P w K mg base 4 "is_token" ["value"] F_is_token) {f : Addr} {fd : FuncData} (U : Fun K "law" "law" (top 24) f fd) :
    FnG P w K mg base 5 f fd ["script"] (spLaw K) := by
  have GB : FnOk P w K mg base CX0 1 fB fdB ["script"] (spBegin K) := ok__law_begin UB
  obtain ⟨oc, od, kV, doc, pm, an, cdv, ct, osl, rfl, lk, hcd⟩ := U.ex
  refine fng_of (k := 4) lk hcd sc_law (fun vs H Q E h => ?_) fun A callers s0 H vs Q E hr hga hsp => ?_
  · obtain ⟨a, ns, rfl, _⟩ := h
    rfl
  · obtain ⟨a, ns, rfl, hS, hl, k⟩ := hsp
    have hr1 : Room 1 _ := hr.mono (by decide)
    have main : ∀ (d : Addr) (H0 G0 : Hp), PSs (cxOf CX0 P w K mg base ["script", "draw", "turn", "odd", "thing", "due"] "law" (defScope (top 24)) f cdv A callers s0 H E).nox (((defBody (top 24)).drop 1)) (fun D σ H => ScrAt K σ H ∧ liftS ⟨K, some d, H0, G0⟩ wsLaw D σ H) := by
      intro d H0 G0
      refine PSs.imp (pss_cons (sd_forC (p := ⟨K, some d, H0, G0⟩) (wi := wiTurns) (g := gNm 2) (tb := wsTurn) (C := ScrAt K) (PI.imp (pi_range1 rfl T.range (pa_cons (pe_callB (call_min2 rfl) (by rfl) T.min (by decide +kernel) (pa_cons pe_int (pa_cons (pe_op op_add pe_int (pe_callB call_len_seq (by rfl) T.len PySem.boot_len (pa_cons (pv 0) pa_nil))) pa_nil))) pa_nil)) ?_) (gd_name 2 sc_law.nd) ((sd_cons (sd_set 3 sc_law.nd (pd_lst (ad_cons pd_non (ad_cons pd_int (ad_cons pd_bl (ad_cons (pd_tup ad_nil) (ad_cons (pd_lst (ad_cons pd_str ad_nil)) (ad_cons pd_dict0 (ad_cons (pd_tup (ad_cons pd_str ad_nil)) (ad_cons (pd_pow pd_int pd_int) (ad_cons (pd_tup (ad_cons (pd_lst ad_nil) (ad_cons pd_str ad_nil))) (ad_cons (pd_tup (ad_cons pd_dict0 (ad_cons pd_str (ad_cons (pd_tup ad_nil) (ad_cons pd_non ad_nil))))) ad_nil))))))))))))
      (sd_cons (sd_set 3 sc_law.nd (pd_ix (pd_var 3 (pv 3)) (pd_cl D__law_next hr (by decide) hga (ad_cons (pd_var 1 (pv 1)) (ad_cons pd_int ad_nil)))))
      (sd_one (sd_for (id_list (pd_lst (ad_cons (pd_cl D__law_word hr (by decide) hga (ad_cons (pd_var 1 (pv 1)) ad_nil)) (ad_cons (pd_cl D__law_text hr (by decide) hga (ad_cons (pd_var 1 (pv 1)) ad_nil)) (ad_cons (pd_cl D__law_value hr (by decide) hga (ad_cons (pd_var 1 (pv 1)) ad_nil)) (ad_cons (pd_cl D__law_value hr (by decide) hga (ad_cons (pd_var 1 (pv 1)) ad_nil)) (ad_cons (pd_var 3 (pv 3)) ad_nil))))))) (gd_name 4 sc_law.nd) (sd_cons (sd_set 5 sc_law.nd (pd_lst (ad_cons (pd_cl D__law_is_id hr (by decide) hga (ad_cons (pd_var 4 (pv 4)) ad_nil)) (ad_cons (pd_cl D__law_is_link hr (by decide) hga (ad_cons (pd_var 4 (pv 4)) ad_nil)) (ad_cons (pd_cl D__law_is_token hr (by decide) hga (ad_cons (pd_var 4 (pv 4)) ad_nil)) ad_nil)))))
      (sd_cons (sd_if (td_cmp (cm_ne hr) (pd_bt (bt_repr hr hga) T.repr (ad_cons (pd_lst (ad_cons (pd_cl D_is_id hr (by decide) hga (ad_cons (pd_var 4 (pv 4)) ad_nil)) (ad_cons (pd_cl D_is_link hr (by decide) hga (ad_cons (pd_var 4 (pv 4)) ad_nil)) (ad_cons (pd_cl D_is_token hr (by decide) hga (ad_cons (pd_var 4 (pv 4)) ad_nil)) ad_nil)))) ad_nil)) (pd_bt (bt_repr hr hga) T.repr (ad_cons (pd_var 5 (pv 5)) ad_nil))) (sd_one (sd_ret pd_bl)) sd_nil)
      (sd_one (sd_if (td_cmp (cm_ne hr) (pd_bt (bt_repr hr hga) T.repr (ad_cons (pd_lst (ad_cons (pd_clK D_is_id hr (by decide) hga (kd_cons (pd_var 4 (pv 4)) kd_nil)) (ad_cons (pd_clK D_is_link hr (by decide) hga (kd_cons (pd_var 4 (pv 4)) kd_nil)) (ad_cons (pd_clK D_is_token hr (by decide) hga (kd_cons (pd_var 4 (pv 4)) kd_nil)) ad_nil)))) ad_nil)) (pd_bt (bt_repr hr hga) T.repr (ad_cons (pd_var 5 (pv 5)) ad_nil))) (sd_one (sd_ret pd_bl)) sd_nil)))))))))) (sd_one (sd_ret (p := ⟨K, some d, H0, G0⟩) pd_bl))) ?_
      · rintro σ H1 R ⟨⟨a, ns, ea, hS, hl⟩, G, s, Rr, k⟩
        refine ⟨_, ea, a, _, rfl, .inl hS, _, _, rfl, rfl, _, _, rfl, ?_⟩
        have e : ((ns.map V.int).length : Int) = (ns.length : Int) := by rw [List.length_map]
        refine ⟨_, rfl, by split <;> omega, by split <;> omega, k _ ?_ _ H1 G (Same.refl G) Rr src_rng⟩
        split <;> omega
      · rintro D σ H1 ⟨hC, G, s, E', R, k, q⟩
        exact ⟨hC, G, s, _, R, k, fun σ' H' G' s' a R' k' => ⟨G', s', E', R', k', q.mono a⟩, q.rt, q.bk, q.ct⟩
    have rest : PSs (cxOf CX0 P w K mg base ["script", "draw", "turn", "odd", "thing", "due"] "law" (defScope (top 24)) f cdv A callers s0 H E).nox ((defBody (top 24)).drop 1) (fun D σ H => ∃ d H0 G0, ScrAt K σ H ∧ liftS ⟨K, some d, H0, G0⟩ wsLaw D σ H) :=
      ⟨fun pins s σ H D I ⟨d, H0, G0, h⟩ => (main d H0 G0).run pins s σ H D I h⟩
    have whole : ∃ t : TS, PSs (cxOf CX0 P w K mg base ["script", "draw", "turn", "odd", "thing", "due"] "law" (defScope (top 24)) f cdv A callers s0 H E).nox (defBody (top 24)) t ∧ t { nx := fun _ H' => Q .non H', rt := Q } (L2.start ["script", "draw", "turn", "odd", "thing", "due"] [.ref a]) H := by
      refine ⟨_, pss_cons (ps_set (i := 1) sc_law.nd rfl (Or.inl rfl) (pe_call GB hr1 rfl mB UB.kp bB .nil pass0 (pa_cons (pv 0) pa_nil))) rest, ?_⟩
      refine ⟨_, rfl, a, ns, rfl, hS, hl, fun p L H' hp hL nlp hsame e1 e2 => ?_⟩
      let G1 : Hp := upd (fun _ => none) L (.lst ((ns ++ [0]).map V.int))
      have gL : G1 L = some (.lst ((ns ++ [0]).map V.int)) := upd_same
      have gN : ∀ b, b ≠ L → G1 b = none := fun b hb => upd_ne hb
      refine ⟨p, H', G1, ⟨a, ns, rfl, Same.seq hsame hS, hl⟩, G1, ⟨[.emp, .val .drw, .emp, .emp, .emp, .emp], 0⟩, { nx := fun _ => False, rt := fun d _ => d = .bl true }, ⟨fun b o e => ?_, fun b o _ e => e, fun b h _ => h, rfl, ?_, ?_, ?_⟩, fun k hk => law_wp (rngD 0 k) _ _ _ _ 0 ?_, ?_⟩
      · by_cases hb : b = L
        · subst hb
          rw [gL] at e
          cases e
          exact e2
        · rw [gN b hb] at e
          cases e
      · intro i x hx
        match i, hx with
        | 0, hx => cases hx; trivial
        | 1, hx => cases hx; exact ⟨_, rfl, .drw rfl⟩
        | 2, hx => cases hx; trivial
        | 3, hx => cases hx; trivial
        | 4, hx => cases hx; trivial
        | 5, hx => cases hx; trivial
        | i + 6, hx => cases hx
      · intro i j q ds es _ h1
        match i, h1 with
        | 0, h1 => cases h1
        | 1, h1 => cases h1
        | 2, h1 => cases h1
        | 3, h1 => cases h1
        | 4, h1 => cases h1
        | 5, h1 => cases h1
        | i + 6, h1 => cases h1
      · intro b hb
        cases hb
        refine ⟨gN p nlp.symm, L, ns ++ [0], 0, 0, 0, e1, gL, ?_, ?_, ?_, ?_, ?_, ?_⟩ <;> simp <;> omega
      · rw [rng_len]
        omega
      · exact ⟨fun _ _ _ _ _ _ h => h.elim, fun v σ' H2 G2 d2 s' _ _ r h => by
          subst h
          cases r
          exact k H2, fun _ _ _ _ _ _ h => h.elim, fun _ _ _ _ _ _ h => h.elim⟩
    obtain ⟨t, h1, h2⟩ := whole
    exact ⟨t, h1.nox, h2⟩
/-! ### what the top has written -/
theorem dn_mk {P : Program} {w : World} {K : PySem.W.Frag} {mg : Str → Option Value} {base : Heap} {k : Nat} {x : Str} {st : Stmt} {f : Addr} {fd : FuncData} {ps : List Str} {F : FT} (U : Fun K x x st f fd) (hm : mg x = some (.ref f)) (hb : Binds K fd ps []) (hk : ∀ (s : Shared) (us : List Value), us.length = ps.length → BindsTo s fd ⟨[], ps.zip us⟩ (ps.zip us))
    (G : ∀ dr, FnG P w K mg base k f fd ps (SpD K dr (List.replicate ps.length false) F)) : Dn P w K mg base k x ps F := ⟨f, fd, hm, U.kp, hb, hk, G⟩
theorem gc_str {K : PySem.W.Frag} {mg : Str → Option Value} {x : Str} {z : Str} {t : Tok} (h : mg x = some (.str z t)) : Gc K mg x (.str z) := ⟨.str z, _, h, ⟨t, rfl⟩, fun dr G => .str z⟩
theorem gc_int {K : PySem.W.Frag} {mg : Str → Option Value} {x : Str} {z : Int} {t : Tok} (h : mg x = some (.int z t)) : Gc K mg x (.int z) := ⟨.int z, _, h, ⟨t, rfl⟩, fun dr G => .int z⟩
/-- a tuple of texts of the top -/
theorem tup_K {K : PySem.W.Frag} {a : Addr} {od : Option Addr} {n : Nat} {sl : Array (Option Value)} {its : List Value} {zs : List Str} (l : K.lookup a = some ⟨.type "tuple", od, .seq its.toArray n, sl⟩) (hv : Vals (zs.map V.str) its) (hz : zs.length ≤ 1000) (dr : Option Addr) (G : Hp) : Rp K dr G (.ref a) (.tup (zs.map D.str)) := by
  have hl := hv.length
  rw [List.length_map] at hl
  exact .tup (.inr ⟨_, its.toArray, n, l, rfl, rfl, by simp only [List.size_toArray]; rw [← hl]; exact line2 hz, hv⟩) (RpA.strs zs)
theorem all_mk {l : PySem.W.OpenLaw} {w : World} {K : PySem.W.Frag} {h : Heap} {mg : Str → Option Value} {fa : Addr} {f1 f2 f3 f4 f5 f6 f7 f8 f9 f10 f11 f12 f13 f14 f15 f16 f17 A_BOX_KINDS A_LINE_KINDS A_R A_R0 A_R1 A_R2 A_R3 A_R4 A_R5 A_R6 A_R7 : Addr} {od1 an1 : Option Addr} {sl1 : Array (Option Value)} {oc1 kV1 dc1 pm1 cd1 ct1 : Value} {od2 an2 : Option Addr} {sl2 : Array (Option Value)} {oc2 kV2 dc2 pm2 cd2 ct2 : Value} {od3 an3 : Option Addr} {sl3 : Array (Option Value)} {oc3 kV3 dc3 pm3 cd3 ct3 : Value} {od4 an4 : Option Addr} {sl4 : Array (Option Value)} {oc4 kV4 dc4 pm4 cd4 ct4 : Value} {od5 an5 : Option Addr} {sl5 : Array (Option Value)} {oc5 kV5 dc5 pm5 cd5 ct5 : Value} {od6 an6 : Option Addr} {sl6 : Array (Option Value)} {oc6 kV6 dc6 pm6 cd6 ct6 : Value} {od7 an7 : Option Addr} {sl7 : Array (Option Value)} {oc7 kV7 dc7 pm7 cd7 ct7 : Value} {od8 an8 : Option Addr} {sl8 : Array (Option Value)} {oc8 kV8 dc8 pm8 cd8 ct8 : Value} {od9 an9 : Option Addr} {sl9 : Array (Option Value)} {oc9 kV9 dc9 pm9 cd9 ct9 : Value} {od10 an10 : Option Addr} {sl10 : Array (Option Value)} {oc10 kV10 dc10 pm10 cd10 ct10 : Value} {od11 an11 : Option Addr} {sl11 : Array (Option Value)} {oc11 kV11 dc11 pm11 cd11 ct11 : Value} {od12 an12 : Option Addr} {sl12 : Array (Option Value)} {oc12 kV12 dc12 pm12 cd12 ct12 : Value} {od13 an13 : Option Addr} {sl13 : Array (Option Value)} {oc13 kV13 dc13 pm13 cd13 ct13 : Value} {od14 an14 : Option Addr} {sl14 : Array (Option Value)} {oc14 kV14 dc14 pm14 cd14 ct14 : Value} {od15 an15 : Option Addr} {sl15 : Array (Option Value)} {oc15 kV15 dc15 pm15 cd15 ct15 : Value} {od16 an16 : Option Addr} {sl16 : Array (Option Value)} {oc16 kV16 dc16 pm16 cd16 ct16 : Value} {od17 an17 : Option Addr} {sl17 : Array (Option Value)} {oc17 kV17 dc17 pm17 cd17 ct17 : Value} {t_BOX_KINDS_0 t_BOX_KINDS_1 t_BOX_KINDS_2 t_BOX_KINDS_3 t_LINE_KINDS_0 t_LINE_KINDS_1 t_LINE_KINDS_2 t_LINE_KINDS_3 t_L t_LD t_P t_R1_0 t_R2_0 t_R3_0 t_R4_0 t_R4_1 t_R5_0 t_R5_1 t_R6_0 t_R6_1 t_R7_0 t_R7_1 t_R7_2 : Tok} {o_BOX_KINDS o_LINE_KINDS o_R o_R0 o_R1 o_R2 o_R3 o_R4 o_R5 o_R6 o_R7 : Option Addr} {n_BOX_KINDS n_LINE_KINDS n_R n_R0 n_R1 n_R2 n_R3 n_R4 n_R5 n_R6 n_R7 : Nat} {s_BOX_KINDS s_LINE_KINDS s_R s_R0 s_R1 s_R2 s_R3 s_R4 s_R5 s_R6 s_R7 : Array (Option Value)} (X : K.In h) (G : h.Ns mainGlobals mg) (hfa : mg "law" = some (.ref fa))
    (a1 : PySem.W.nsIn K mainGlobals "is_id" = some (some (.ref f1)))
    (l1 : K.lookup f1 = some ⟨oc1, od1, .func (PySem.W.fnOf "is_id" "is_id" (defArgs (top 7)) (defBody (top 7)) (defScope (top 7)) .none kV1 dc1 pm1 an1 cd1 ct1), sl1⟩)
    (c1 : PySem.W.codeIn K cd1 "is_id" = true)
    (k1 : PySem.W.keepIn K (.ref f1) = true)
    (a2 : PySem.W.nsIn K mainGlobals "sort_of" = some (some (.ref f2)))
    (l2 : K.lookup f2 = some ⟨oc2, od2, .func (PySem.W.fnOf "sort_of" "sort_of" (defArgs (top 10)) (defBody (top 10)) (defScope (top 10)) .none kV2 dc2 pm2 an2 cd2 ct2), sl2⟩)
    (c2 : PySem.W.codeIn K cd2 "sort_of" = true)
    (k2 : PySem.W.keepIn K (.ref f2) = true)
    (a3 : PySem.W.nsIn K mainGlobals "_is_plain" = some (some (.ref f3)))
    (l3 : K.lookup f3 = some ⟨oc3, od3, .func (PySem.W.fnOf "_is_plain" "_is_plain" (defArgs (top 11)) (defBody (top 11)) (defScope (top 11)) .none kV3 dc3 pm3 an3 cd3 ct3), sl3⟩)
    (c3 : PySem.W.codeIn K cd3 "_is_plain" = true)
    (k3 : PySem.W.keepIn K (.ref f3) = true)
    (a4 : PySem.W.nsIn K mainGlobals "_are_styles" = some (some (.ref f4)))
    (l4 : K.lookup f4 = some ⟨oc4, od4, .func (PySem.W.fnOf "_are_styles" "_are_styles" (defArgs (top 13)) (defBody (top 13)) (defScope (top 13)) .none kV4 dc4 pm4 an4 cd4 ct4), sl4⟩)
    (c4 : PySem.W.codeIn K cd4 "_are_styles" = true)
    (k4 : PySem.W.keepIn K (.ref f4) = true)
    (a5 : PySem.W.nsIn K mainGlobals "is_link" = some (some (.ref f5)))
    (l5 : K.lookup f5 = some ⟨oc5, od5, .func (PySem.W.fnOf "is_link" "is_link" (defArgs (top 8)) (defBody (top 8)) (defScope (top 8)) .none kV5 dc5 pm5 an5 cd5 ct5), sl5⟩)
    (c5 : PySem.W.codeIn K cd5 "is_link" = true)
    (k5 : PySem.W.keepIn K (.ref f5) = true)
    (a6 : PySem.W.nsIn K mainGlobals "_is_char" = some (some (.ref f6)))
    (l6 : K.lookup f6 = some ⟨oc6, od6, .func (PySem.W.fnOf "_is_char" "_is_char" (defArgs (top 12)) (defBody (top 12)) (defScope (top 12)) .none kV6 dc6 pm6 an6 cd6 ct6), sl6⟩)
    (c6 : PySem.W.codeIn K cd6 "_is_char" = true)
    (k6 : PySem.W.keepIn K (.ref f6) = true)
    (a7 : PySem.W.nsIn K mainGlobals "is_token" = some (some (.ref f7)))
    (l7 : K.lookup f7 = some ⟨oc7, od7, .func (PySem.W.fnOf "is_token" "is_token" (defArgs (top 9)) (defBody (top 9)) (defScope (top 9)) .none kV7 dc7 pm7 an7 cd7 ct7), sl7⟩)
    (c7 : PySem.W.codeIn K cd7 "is_token" = true)
    (k7 : PySem.W.keepIn K (.ref f7) = true)
    (a8 : PySem.W.nsIn K mainGlobals "_law_mixed" = some (some (.ref f8)))
    (l8 : K.lookup f8 = some ⟨oc8, od8, .func (PySem.W.fnOf "_law_mixed" "_law_mixed" (defArgs (top 16)) (defBody (top 16)) (defScope (top 16)) .none kV8 dc8 pm8 an8 cd8 ct8), sl8⟩)
    (c8 : PySem.W.codeIn K cd8 "_law_mixed" = true)
    (k8 : PySem.W.keepIn K (.ref f8) = true)
    (a9 : PySem.W.nsIn K mainGlobals "_law_next" = some (some (.ref f9)))
    (l9 : K.lookup f9 = some ⟨oc9, od9, .func (PySem.W.fnOf "_law_next" "_law_next" (defArgs (top 17)) (defBody (top 17)) (defScope (top 17)) .none kV9 dc9 pm9 an9 cd9 ct9), sl9⟩)
    (c9 : PySem.W.codeIn K cd9 "_law_next" = true)
    (k9 : PySem.W.keepIn K (.ref f9) = true)
    (a10 : PySem.W.nsIn K mainGlobals "_law_word" = some (some (.ref f10)))
    (l10 : K.lookup f10 = some ⟨oc10, od10, .func (PySem.W.fnOf "_law_word" "_law_word" (defArgs (top 18)) (defBody (top 18)) (defScope (top 18)) .none kV10 dc10 pm10 an10 cd10 ct10), sl10⟩)
    (c10 : PySem.W.codeIn K cd10 "_law_word" = true)
    (k10 : PySem.W.keepIn K (.ref f10) = true)
    (a11 : PySem.W.nsIn K mainGlobals "_law_is_id" = some (some (.ref f11)))
    (l11 : K.lookup f11 = some ⟨oc11, od11, .func (PySem.W.fnOf "_law_is_id" "_law_is_id" (defArgs (top 19)) (defBody (top 19)) (defScope (top 19)) .none kV11 dc11 pm11 an11 cd11 ct11), sl11⟩)
    (c11 : PySem.W.codeIn K cd11 "_law_is_id" = true)
    (k11 : PySem.W.keepIn K (.ref f11) = true)
    (a12 : PySem.W.nsIn K mainGlobals "_law_text" = some (some (.ref f12)))
    (l12 : K.lookup f12 = some ⟨oc12, od12, .func (PySem.W.fnOf "_law_text" "_law_text" (defArgs (top 20)) (defBody (top 20)) (defScope (top 20)) .none kV12 dc12 pm12 an12 cd12 ct12), sl12⟩)
    (c12 : PySem.W.codeIn K cd12 "_law_text" = true)
    (k12 : PySem.W.keepIn K (.ref f12) = true)
    (a13 : PySem.W.nsIn K mainGlobals "_law_is_link" = some (some (.ref f13)))
    (l13 : K.lookup f13 = some ⟨oc13, od13, .func (PySem.W.fnOf "_law_is_link" "_law_is_link" (defArgs (top 21)) (defBody (top 21)) (defScope (top 21)) .none kV13 dc13 pm13 an13 cd13 ct13), sl13⟩)
    (c13 : PySem.W.codeIn K cd13 "_law_is_link" = true)
    (k13 : PySem.W.keepIn K (.ref f13) = true)
    (a14 : PySem.W.nsIn K mainGlobals "_law_value" = some (some (.ref f14)))
    (l14 : K.lookup f14 = some ⟨oc14, od14, .func (PySem.W.fnOf "_law_value" "_law_value" (defArgs (top 22)) (defBody (top 22)) (defScope (top 22)) .none kV14 dc14 pm14 an14 cd14 ct14), sl14⟩)
    (c14 : PySem.W.codeIn K cd14 "_law_value" = true)
    (k14 : PySem.W.keepIn K (.ref f14) = true)
    (a15 : PySem.W.nsIn K mainGlobals "_law_is_token" = some (some (.ref f15)))
    (l15 : K.lookup f15 = some ⟨oc15, od15, .func (PySem.W.fnOf "_law_is_token" "_law_is_token" (defArgs (top 23)) (defBody (top 23)) (defScope (top 23)) .none kV15 dc15 pm15 an15 cd15 ct15), sl15⟩)
    (c15 : PySem.W.codeIn K cd15 "_law_is_token" = true)
    (k15 : PySem.W.keepIn K (.ref f15) = true)
    (a16 : PySem.W.nsIn K mainGlobals "_law_begin" = some (some (.ref f16)))
    (l16 : K.lookup f16 = some ⟨oc16, od16, .func (PySem.W.fnOf "_law_begin" "_law_begin" (defArgs (top 15)) (defBody (top 15)) (defScope (top 15)) .none kV16 dc16 pm16 an16 cd16 ct16), sl16⟩)
    (c16 : PySem.W.codeIn K cd16 "_law_begin" = true)
    (k16 : PySem.W.keepIn K (.ref f16) = true)
    (a17 : PySem.W.nsIn K mainGlobals "law" = some (some (.ref f17)))
    (l17 : K.lookup f17 = some ⟨oc17, od17, .func (PySem.W.fnOf "law" "law" (defArgs (top 24)) (defBody (top 24)) (defScope (top 24)) .none kV17 dc17 pm17 an17 cd17 ct17), sl17⟩)
    (c17 : PySem.W.codeIn K cd17 "law" = true)
    (k17 : PySem.W.keepIn K (.ref f17) = true)
    (b_isinstance : PySem.W.nsIn K mainGlobals "isinstance" = some none)
    (b_len : PySem.W.nsIn K mainGlobals "len" = some none)
    (b_all : PySem.W.nsIn K mainGlobals "all" = some none)
    (b_ord : PySem.W.nsIn K mainGlobals "ord" = some none)
    (b_str : PySem.W.nsIn K mainGlobals "str" = some none)
    (b_tuple : PySem.W.nsIn K mainGlobals "tuple" = some none)
    (b_list : PySem.W.nsIn K mainGlobals "list" = some none)
    (b_int : PySem.W.nsIn K mainGlobals "int" = some none)
    (b_range : PySem.W.nsIn K mainGlobals "range" = some none)
    (b_min : PySem.W.nsIn K mainGlobals "min" = some none)
    (b_repr : PySem.W.nsIn K mainGlobals "repr" = some none)
    (a_BOX_KINDS : PySem.W.nsIn K mainGlobals "BOX_KINDS" = some (some (.ref A_BOX_KINDS)))
    (l_BOX_KINDS : K.lookup A_BOX_KINDS = some ⟨.type "tuple", o_BOX_KINDS, .seq #[.str "section" t_BOX_KINDS_0, .str "quote" t_BOX_KINDS_1, .str "list" t_BOX_KINDS_2, .str "item" t_BOX_KINDS_3] n_BOX_KINDS, s_BOX_KINDS⟩)
    (a_LINE_KINDS : PySem.W.nsIn K mainGlobals "LINE_KINDS" = some (some (.ref A_LINE_KINDS)))
    (l_LINE_KINDS : K.lookup A_LINE_KINDS = some ⟨.type "tuple", o_LINE_KINDS, .seq #[.str "head1" t_LINE_KINDS_0, .str "head2" t_LINE_KINDS_1, .str "head3" t_LINE_KINDS_2, .str "para" t_LINE_KINDS_3] n_LINE_KINDS, s_LINE_KINDS⟩)
    (a_L : PySem.W.nsIn K mainGlobals "_LETTERS" = some (some (.str "abcdefghijklmnopqrstuvwxyz" t_L)))
    (a_LD : PySem.W.nsIn K mainGlobals "_LETTERS_AND_DIGITS" = some (some (.str "abcdefghijklmnopqrstuvwxyz0123456789" t_LD)))
    (a_P : PySem.W.nsIn K mainGlobals "_PERCENT" = some (some (.int 37 t_P)))
    (a_R : PySem.W.nsIn K mainGlobals "_STYLE_ROWS" = some (some (.ref A_R)))
    (l_R : K.lookup A_R = some ⟨.type "tuple", o_R, .seq #[.ref A_R0, .ref A_R1, .ref A_R2, .ref A_R3, .ref A_R4, .ref A_R5, .ref A_R6, .ref A_R7] n_R, s_R⟩)
    (l_R0 : K.lookup A_R0 = some ⟨.type "tuple", o_R0, .seq #[] n_R0, s_R0⟩)
    (l_R1 : K.lookup A_R1 = some ⟨.type "tuple", o_R1, .seq #[.str "code" t_R1_0] n_R1, s_R1⟩)
    (l_R2 : K.lookup A_R2 = some ⟨.type "tuple", o_R2, .seq #[.str "slant" t_R2_0] n_R2, s_R2⟩)
    (l_R3 : K.lookup A_R3 = some ⟨.type "tuple", o_R3, .seq #[.str "strong" t_R3_0] n_R3, s_R3⟩)
    (l_R4 : K.lookup A_R4 = some ⟨.type "tuple", o_R4, .seq #[.str "code" t_R4_0, .str "slant" t_R4_1] n_R4, s_R4⟩)
    (l_R5 : K.lookup A_R5 = some ⟨.type "tuple", o_R5, .seq #[.str "code" t_R5_0, .str "strong" t_R5_1] n_R5, s_R5⟩)
    (l_R6 : K.lookup A_R6 = some ⟨.type "tuple", o_R6, .seq #[.str "slant" t_R6_0, .str "strong" t_R6_1] n_R6, s_R6⟩)
    (l_R7 : K.lookup A_R7 = some ⟨.type "tuple", o_R7, .seq #[.str "code" t_R7_0, .str "slant" t_R7_1, .str "strong" t_R7_2] n_R7, s_R7⟩) :
    ∃ fd : FuncData, (∀ (s : Shared) (v : Value), BindsTo s fd ⟨[v], []⟩ [("script", v)]) ∧ ∀ base : Heap, K.In base → base.Ns mainGlobals mg → FnG l.prog w K mg base 5 fa fd ["script"] (spLaw K) := by
  have e := hfa.symm.trans (PySem.W.mg_of X G a17)
  cases e
  have T : Txt K mg := ⟨PySem.W.mg_none_of X G b_isinstance, PySem.W.mg_none_of X G b_len, PySem.W.mg_none_of X G b_all, PySem.W.mg_none_of X G b_ord, PySem.W.mg_none_of X G b_str, PySem.W.mg_none_of X G b_tuple, PySem.W.mg_none_of X G b_list, PySem.W.mg_none_of X G b_int, PySem.W.mg_none_of X G b_range, PySem.W.mg_none_of X G b_min, PySem.W.mg_none_of X G b_repr⟩
  have C : Cn K mg := {
    BOX_KINDS := ⟨.ref A_BOX_KINDS, _, PySem.W.mg_of X G a_BOX_KINDS, rfl, tup_K (zs := ["section", "quote", "list", "item"]) l_BOX_KINDS (.cons ⟨_, rfl⟩ (.cons ⟨_, rfl⟩ (.cons ⟨_, rfl⟩ (.cons ⟨_, rfl⟩ .nil)))) (by decide)⟩
    LINE_KINDS := ⟨.ref A_LINE_KINDS, _, PySem.W.mg_of X G a_LINE_KINDS, rfl, tup_K (zs := ["head1", "head2", "head3", "para"]) l_LINE_KINDS (.cons ⟨_, rfl⟩ (.cons ⟨_, rfl⟩ (.cons ⟨_, rfl⟩ (.cons ⟨_, rfl⟩ .nil)))) (by decide)⟩
    _LETTERS := gc_str (PySem.W.mg_of X G a_L)
    _LETTERS_AND_DIGITS := gc_str (PySem.W.mg_of X G a_LD)
    _PERCENT := gc_int (PySem.W.mg_of X G a_P)
    _STYLE_ROWS := ⟨.ref A_R, _, PySem.W.mg_of X G a_R, rfl, fun dr G => .tup (xs := [.ref A_R0, .ref A_R1, .ref A_R2, .ref A_R3, .ref A_R4, .ref A_R5, .ref A_R6, .ref A_R7]) (.inr ⟨_, _, n_R, l_R, rfl, rfl, (by show 8 ≤ sizeLine; decide), (.cons rfl (.cons rfl (.cons rfl (.cons rfl (.cons rfl (.cons rfl (.cons rfl (.cons rfl .nil))))))))⟩) ((.cons (tup_K (zs := []) l_R0 .nil (by decide) dr G) (.cons (tup_K (zs := ["code"]) l_R1 (.cons ⟨_, rfl⟩ .nil) (by decide) dr G) (.cons (tup_K (zs := ["slant"]) l_R2 (.cons ⟨_, rfl⟩ .nil) (by decide) dr G) (.cons (tup_K (zs := ["strong"]) l_R3 (.cons ⟨_, rfl⟩ .nil) (by decide) dr G) (.cons (tup_K (zs := ["code", "slant"]) l_R4 (.cons ⟨_, rfl⟩ (.cons ⟨_, rfl⟩ .nil)) (by decide) dr G) (.cons (tup_K (zs := ["code", "strong"]) l_R5 (.cons ⟨_, rfl⟩ (.cons ⟨_, rfl⟩ .nil)) (by decide) dr G) (.cons (tup_K (zs := ["slant", "strong"]) l_R6 (.cons ⟨_, rfl⟩ (.cons ⟨_, rfl⟩ .nil)) (by decide) dr G) (.cons (tup_K (zs := ["code", "slant", "strong"]) l_R7 (.cons ⟨_, rfl⟩ (.cons ⟨_, rfl⟩ (.cons ⟨_, rfl⟩ .nil))) (by decide) dr G) .nil)))))))))⟩ }
  have U1 := fun_mk (st := top 7) l1 c1 k1
  have bb1 := U1.binds (ps := ["value"]) fun _ _ _ _ _ _ us hl => match us, hl with | [_], _ => rfl
  have kb1 : ∀ (s : Shared) (us : List Value), us.length = 1 → BindsTo s (PySem.W.fnOf "is_id" "is_id" (defArgs (top 7)) (defBody (top 7)) (defScope (top 7)) .none kV1 dc1 pm1 an1 cd1 ct1) ⟨[], (["value"] : List Str).zip us⟩ ((["value"] : List Str).zip us) := fun s us hl => match us, hl with | [_], _ => .of_eq rfl
  have U2 := fun_mk (st := top 10) l2 c2 k2
  have bb2 := U2.binds (ps := ["kind"]) fun _ _ _ _ _ _ us hl => match us, hl with | [_], _ => rfl
  have kb2 : ∀ (s : Shared) (us : List Value), us.length = 1 → BindsTo s (PySem.W.fnOf "sort_of" "sort_of" (defArgs (top 10)) (defBody (top 10)) (defScope (top 10)) .none kV2 dc2 pm2 an2 cd2 ct2) ⟨[], (["kind"] : List Str).zip us⟩ ((["kind"] : List Str).zip us) := fun s us hl => match us, hl with | [_], _ => .of_eq rfl
  have U3 := fun_mk (st := top 11) l3 c3 k3
  have bb3 := U3.binds (ps := ["c"]) fun _ _ _ _ _ _ us hl => match us, hl with | [_], _ => rfl
  have kb3 : ∀ (s : Shared) (us : List Value), us.length = 1 → BindsTo s (PySem.W.fnOf "_is_plain" "_is_plain" (defArgs (top 11)) (defBody (top 11)) (defScope (top 11)) .none kV3 dc3 pm3 an3 cd3 ct3) ⟨[], (["c"] : List Str).zip us⟩ ((["c"] : List Str).zip us) := fun s us hl => match us, hl with | [_], _ => .of_eq rfl
  have U4 := fun_mk (st := top 13) l4 c4 k4
  have bb4 := U4.binds (ps := ["value"]) fun _ _ _ _ _ _ us hl => match us, hl with | [_], _ => rfl
  have kb4 : ∀ (s : Shared) (us : List Value), us.length = 1 → BindsTo s (PySem.W.fnOf "_are_styles" "_are_styles" (defArgs (top 13)) (defBody (top 13)) (defScope (top 13)) .none kV4 dc4 pm4 an4 cd4 ct4) ⟨[], (["value"] : List Str).zip us⟩ ((["value"] : List Str).zip us) := fun s us hl => match us, hl with | [_], _ => .of_eq rfl
  have U5 := fun_mk (st := top 8) l5 c5 k5
  have bb5 := U5.binds (ps := ["value"]) fun _ _ _ _ _ _ us hl => match us, hl with | [_], _ => rfl
  have kb5 : ∀ (s : Shared) (us : List Value), us.length = 1 → BindsTo s (PySem.W.fnOf "is_link" "is_link" (defArgs (top 8)) (defBody (top 8)) (defScope (top 8)) .none kV5 dc5 pm5 an5 cd5 ct5) ⟨[], (["value"] : List Str).zip us⟩ ((["value"] : List Str).zip us) := fun s us hl => match us, hl with | [_], _ => .of_eq rfl
  have U6 := fun_mk (st := top 12) l6 c6 k6
  have bb6 := U6.binds (ps := ["c", "styles", "link"]) fun _ _ _ _ _ _ us hl => match us, hl with | [_, _, _], _ => rfl
  have kb6 : ∀ (s : Shared) (us : List Value), us.length = 3 → BindsTo s (PySem.W.fnOf "_is_char" "_is_char" (defArgs (top 12)) (defBody (top 12)) (defScope (top 12)) .none kV6 dc6 pm6 an6 cd6 ct6) ⟨[], (["c", "styles", "link"] : List Str).zip us⟩ ((["c", "styles", "link"] : List Str).zip us) := fun s us hl => match us, hl with | [_, _, _], _ => .of_eq rfl
  have U7 := fun_mk (st := top 9) l7 c7 k7
  have bb7 := U7.binds (ps := ["value"]) fun _ _ _ _ _ _ us hl => match us, hl with | [_], _ => rfl
  have kb7 : ∀ (s : Shared) (us : List Value), us.length = 1 → BindsTo s (PySem.W.fnOf "is_token" "is_token" (defArgs (top 9)) (defBody (top 9)) (defScope (top 9)) .none kV7 dc7 pm7 an7 cd7 ct7) ⟨[], (["value"] : List Str).zip us⟩ ((["value"] : List Str).zip us) := fun s us hl => match us, hl with | [_], _ => .of_eq rfl
  have U8 := fun_mk (st := top 16) l8 c8 k8
  have bb8 := U8.binds (ps := ["cell", "k"]) fun _ _ _ _ _ _ us hl => match us, hl with | [_, _], _ => rfl
  have kb8 : ∀ (s : Shared) (us : List Value), us.length = 2 → BindsTo s (PySem.W.fnOf "_law_mixed" "_law_mixed" (defArgs (top 16)) (defBody (top 16)) (defScope (top 16)) .none kV8 dc8 pm8 an8 cd8 ct8) ⟨[], (["cell", "k"] : List Str).zip us⟩ ((["cell", "k"] : List Str).zip us) := fun s us hl => match us, hl with | [_, _], _ => .of_eq rfl
  have U9 := fun_mk (st := top 17) l9 c9 k9
  have bb9 := U9.binds (ps := ["draw", "bound"]) fun _ _ _ _ _ _ us hl => match us, hl with | [_, _], _ => rfl
  have kb9 : ∀ (s : Shared) (us : List Value), us.length = 2 → BindsTo s (PySem.W.fnOf "_law_next" "_law_next" (defArgs (top 17)) (defBody (top 17)) (defScope (top 17)) .none kV9 dc9 pm9 an9 cd9 ct9) ⟨[], (["draw", "bound"] : List Str).zip us⟩ ((["draw", "bound"] : List Str).zip us) := fun s us hl => match us, hl with | [_, _], _ => .of_eq rfl
  have U10 := fun_mk (st := top 18) l10 c10 k10
  have bb10 := U10.binds (ps := ["draw"]) fun _ _ _ _ _ _ us hl => match us, hl with | [_], _ => rfl
  have kb10 : ∀ (s : Shared) (us : List Value), us.length = 1 → BindsTo s (PySem.W.fnOf "_law_word" "_law_word" (defArgs (top 18)) (defBody (top 18)) (defScope (top 18)) .none kV10 dc10 pm10 an10 cd10 ct10) ⟨[], (["draw"] : List Str).zip us⟩ ((["draw"] : List Str).zip us) := fun s us hl => match us, hl with | [_], _ => .of_eq rfl
  have U11 := fun_mk (st := top 19) l11 c11 k11
  have bb11 := U11.binds (ps := ["thing"]) fun _ _ _ _ _ _ us hl => match us, hl with | [_], _ => rfl
  have kb11 : ∀ (s : Shared) (us : List Value), us.length = 1 → BindsTo s (PySem.W.fnOf "_law_is_id" "_law_is_id" (defArgs (top 19)) (defBody (top 19)) (defScope (top 19)) .none kV11 dc11 pm11 an11 cd11 ct11) ⟨[], (["thing"] : List Str).zip us⟩ ((["thing"] : List Str).zip us) := fun s us hl => match us, hl with | [_], _ => .of_eq rfl
  have U12 := fun_mk (st := top 20) l12 c12 k12
  have bb12 := U12.binds (ps := ["draw"]) fun _ _ _ _ _ _ us hl => match us, hl with | [_], _ => rfl
  have kb12 : ∀ (s : Shared) (us : List Value), us.length = 1 → BindsTo s (PySem.W.fnOf "_law_text" "_law_text" (defArgs (top 20)) (defBody (top 20)) (defScope (top 20)) .none kV12 dc12 pm12 an12 cd12 ct12) ⟨[], (["draw"] : List Str).zip us⟩ ((["draw"] : List Str).zip us) := fun s us hl => match us, hl with | [_], _ => .of_eq rfl
  have U13 := fun_mk (st := top 21) l13 c13 k13
  have bb13 := U13.binds (ps := ["thing"]) fun _ _ _ _ _ _ us hl => match us, hl with | [_], _ => rfl
  have kb13 : ∀ (s : Shared) (us : List Value), us.length = 1 → BindsTo s (PySem.W.fnOf "_law_is_link" "_law_is_link" (defArgs (top 21)) (defBody (top 21)) (defScope (top 21)) .none kV13 dc13 pm13 an13 cd13 ct13) ⟨[], (["thing"] : List Str).zip us⟩ ((["thing"] : List Str).zip us) := fun s us hl => match us, hl with | [_], _ => .of_eq rfl
  have U14 := fun_mk (st := top 22) l14 c14 k14
  have bb14 := U14.binds (ps := ["draw"]) fun _ _ _ _ _ _ us hl => match us, hl with | [_], _ => rfl
  have kb14 : ∀ (s : Shared) (us : List Value), us.length = 1 → BindsTo s (PySem.W.fnOf "_law_value" "_law_value" (defArgs (top 22)) (defBody (top 22)) (defScope (top 22)) .none kV14 dc14 pm14 an14 cd14 ct14) ⟨[], (["draw"] : List Str).zip us⟩ ((["draw"] : List Str).zip us) := fun s us hl => match us, hl with | [_], _ => .of_eq rfl
  have U15 := fun_mk (st := top 23) l15 c15 k15
  have bb15 := U15.binds (ps := ["thing"]) fun _ _ _ _ _ _ us hl => match us, hl with | [_], _ => rfl
  have kb15 : ∀ (s : Shared) (us : List Value), us.length = 1 → BindsTo s (PySem.W.fnOf "_law_is_token" "_law_is_token" (defArgs (top 23)) (defBody (top 23)) (defScope (top 23)) .none kV15 dc15 pm15 an15 cd15 ct15) ⟨[], (["thing"] : List Str).zip us⟩ ((["thing"] : List Str).zip us) := fun s us hl => match us, hl with | [_], _ => .of_eq rfl
  have U16 := fun_mk (st := top 15) l16 c16 k16
  have bb16 := U16.binds (ps := ["script"]) fun _ _ _ _ _ _ us hl => match us, hl with | [_], _ => rfl
  have U17 := fun_mk (st := top 24) l17 c17 k17
  have bb17 := U17.binds (ps := ["script"]) fun _ _ _ _ _ _ us hl => match us, hl with | [_], _ => rfl
  refine ⟨_, fun s v => .of_eq (fd := PySem.W.fnOf "law" "law" (defArgs (top 24)) (defBody (top 24)) (defScope (top 24)) .none kV17 dc17 pm17 an17 cd17 ct17) rfl, fun base hb1 hb2 => ?_⟩
  have D_is_id : Dn l.prog w K mg base 1 "is_id" ["value"] F_is_id := dn_mk U1 (PySem.W.mg_of X G a1) bb1 kb1 fun dr => ok_is_id T C  U1 dr
  have D_sort_of : Dn l.prog w K mg base 1 "sort_of" ["kind"] F_sort_of := dn_mk U2 (PySem.W.mg_of X G a2) bb2 kb2 fun dr => ok_sort_of T C  U2 dr
  have D__is_plain : Dn l.prog w K mg base 1 "_is_plain" ["c"] F__is_plain := dn_mk U3 (PySem.W.mg_of X G a3) bb3 kb3 fun dr => ok__is_plain T C  U3 dr
  have D__are_styles : Dn l.prog w K mg base 1 "_are_styles" ["value"] F__are_styles := dn_mk U4 (PySem.W.mg_of X G a4) bb4 kb4 fun dr => ok__are_styles T C  U4 dr
  have D_is_link : Dn l.prog w K mg base 2 "is_link" ["value"] F_is_link := dn_mk U5 (PySem.W.mg_of X G a5) bb5 kb5 fun dr => ok_is_link T C D_is_id D__is_plain U5 dr
  have D__is_char : Dn l.prog w K mg base 3 "_is_char" ["c", "styles", "link"] F__is_char := dn_mk U6 (PySem.W.mg_of X G a6) bb6 kb6 fun dr => ok__is_char T C D__are_styles D_is_link D__is_plain U6 dr
  have D_is_token : Dn l.prog w K mg base 4 "is_token" ["value"] F_is_token := dn_mk U7 (PySem.W.mg_of X G a7) bb7 kb7 fun dr => ok_is_token T C D_is_id D__is_char D_sort_of U7 dr
  have D__law_mixed : Dn l.prog w K mg base 1 "_law_mixed" ["cell", "k"] F__law_mixed := dn_mk U8 (PySem.W.mg_of X G a8) bb8 kb8 fun dr => ok__law_mixed T C  U8 dr
  have D__law_next : Dn l.prog w K mg base 2 "_law_next" ["draw", "bound"] F__law_next := dn_mk U9 (PySem.W.mg_of X G a9) bb9 kb9 fun dr => ok__law_next T C D__law_mixed U9 dr
  have D__law_word : Dn l.prog w K mg base 3 "_law_word" ["draw"] F__law_word := dn_mk U10 (PySem.W.mg_of X G a10) bb10 kb10 fun dr => ok__law_word T C D__law_next U10 dr
  have D__law_is_id : Dn l.prog w K mg base 1 "_law_is_id" ["thing"] F__law_is_id := dn_mk U11 (PySem.W.mg_of X G a11) bb11 kb11 fun dr => ok__law_is_id T C  U11 dr
  have D__law_text : Dn l.prog w K mg base 4 "_law_text" ["draw"] F__law_text := dn_mk U12 (PySem.W.mg_of X G a12) bb12 kb12 fun dr => ok__law_text T C D__law_word D__law_next U12 dr
  have D__law_is_link : Dn l.prog w K mg base 2 "_law_is_link" ["thing"] F__law_is_link := dn_mk U13 (PySem.W.mg_of X G a13) bb13 kb13 fun dr => ok__law_is_link T C D__law_is_id U13 dr
  have D__law_value : Dn l.prog w K mg base 4 "_law_value" ["draw"] F__law_value := dn_mk U14 (PySem.W.mg_of X G a14) bb14 kb14 fun dr => ok__law_value T C D__law_next D__law_word U14 dr
  have D__law_is_token : Dn l.prog w K mg base 3 "_law_is_token" ["thing"] F__law_is_token := dn_mk U15 (PySem.W.mg_of X G a15) bb15 kb15 fun dr => ok__law_is_token T C D__law_is_id D__law_is_link U15 dr
  exact ok_law T U16 (PySem.W.mg_of X G a16) bb16 D__law_next D__law_word D__law_text D__law_value D__law_is_id D__law_is_link D__law_is_token D_is_id D_is_link D_is_token U17
theorem walk {l : PySem.W.OpenLaw} {q : Program} {loose : List Str} {XP : (Str → Option Value) → Heap → Prop} {YP : World → Heap → Prop} {d : DefRec} {K : Params → PySem.W.Frag} (hn : l.most = some 63) (hdf : d.params.defaults = [])
    (hY : ∀ (w : World) (h : Heap), YP w h → (K w.params).In h)
    (F : ∀ (w : World) (mg : Str → Option Value) (fa : Addr) (h : Heap), (K w.params).In h → h.Ns mainGlobals mg → mg d.name = some (.ref fa) →
      ∃ fd : FuncData, (∀ (s : Shared) (u : Value), BindsTo s fd ⟨[u], []⟩ [("script", u)]) ∧ ∀ base : Heap, (K w.params).In base → base.Ns mainGlobals mg → FnG l.prog w (K w.params) mg base 5 fa fd ["script"] (spLaw (K w.params))) :
    PySem.W.WalkO q loose XP YP l.row.toRowW d [] (fun f vs => PySem.call f vs) :=
  walkG (n := 63) (k := 5) (x := "script") (sp := fun w => spLaw (K w.params)) hn (by decide) hdf ⟨rfl, by decide, by decide⟩ hY F (fun _ _ a ns hl _ hS => ⟨a, ns, rfl, hS, hl, fun _ => rfl⟩)
end K02
open PySem PySem.W PyProof.Rows
set_option maxRecDepth 100000 in
set_option maxHeartbeats 0 in
theorem PySem.Challenge.cw_bookpack_k02_ids_links_and_tokens_holds : PySem.Challenge.rw_bookpack_k02_ids_links_and_tokens.Holds := by
  w_on; o_law; k_head; (case hw => w_witness2)
  k_fill
  refine K02.walk (l := PySem.Challenge.rw_bookpack_k02_ids_links_and_tokens) rfl rfl (fun w h Y => PySem.W.kIn_of Y) ?F
  case F =>
    intro w mg fa h KX G hmg
    refine' K02.all_mk KX G hmg ?a1 ?l1 ?c1 ?k1 ?a2 ?l2 ?c2 ?k2 ?a3 ?l3 ?c3 ?k3 ?a4 ?l4 ?c4 ?k4 ?a5 ?l5 ?c5 ?k5 ?a6 ?l6 ?c6 ?k6 ?a7 ?l7 ?c7 ?k7 ?a8 ?l8 ?c8 ?k8 ?a9 ?l9 ?c9 ?k9 ?a10 ?l10 ?c10 ?k10 ?a11 ?l11 ?c11 ?k11 ?a12 ?l12 ?c12 ?k12 ?a13 ?l13 ?c13 ?k13 ?a14 ?l14 ?c14 ?k14 ?a15 ?l15 ?c15 ?k15 ?a16 ?l16 ?c16 ?k16 ?a17 ?l17 ?c17 ?k17 ?b_isinstance ?b_len ?b_all ?b_ord ?b_str ?b_tuple ?b_list ?b_int ?b_range ?b_min ?b_repr ?a_BOX_KINDS ?l_BOX_KINDS ?a_LINE_KINDS ?l_LINE_KINDS ?a_L ?a_LD ?a_P ?a_R ?l_R ?l_R0 ?l_R1 ?l_R2 ?l_R3 ?l_R4 ?l_R5 ?l_R6 ?l_R7
    (case a1 => k_is); (case l1 => k_is); (case c1 => k_is); (case k1 => k_is); (case a2 => k_is); (case l2 => k_is)
    (case c2 => k_is); (case k2 => k_is); (case a3 => k_is); (case l3 => k_is); (case c3 => k_is); (case k3 => k_is)
    (case a4 => k_is); (case l4 => k_is); (case c4 => k_is); (case k4 => k_is); (case a5 => k_is); (case l5 => k_is)
    (case c5 => k_is); (case k5 => k_is); (case a6 => k_is); (case l6 => k_is); (case c6 => k_is); (case k6 => k_is)
    (case a7 => k_is); (case l7 => k_is); (case c7 => k_is); (case k7 => k_is); (case a8 => k_is); (case l8 => k_is)
    (case c8 => k_is); (case k8 => k_is); (case a9 => k_is); (case l9 => k_is); (case c9 => k_is); (case k9 => k_is)
    (case a10 => k_is); (case l10 => k_is); (case c10 => k_is); (case k10 => k_is); (case a11 => k_is); (case l11 => k_is)
    (case c11 => k_is); (case k11 => k_is); (case a12 => k_is); (case l12 => k_is); (case c12 => k_is); (case k12 => k_is)
    (case a13 => k_is); (case l13 => k_is); (case c13 => k_is); (case k13 => k_is); (case a14 => k_is); (case l14 => k_is)
    (case c14 => k_is); (case k14 => k_is); (case a15 => k_is); (case l15 => k_is); (case c15 => k_is); (case k15 => k_is)
    (case a16 => k_is); (case l16 => k_is); (case c16 => k_is); (case k16 => k_is); (case a17 => k_is); (case l17 => k_is)
    (case c17 => k_is); (case k17 => k_is); (case b_isinstance => k_is); (case b_len => k_is); (case b_all => k_is); (case b_ord => k_is)
    (case b_str => k_is); (case b_tuple => k_is); (case b_list => k_is); (case b_int => k_is); (case b_range => k_is); (case b_min => k_is)
    (case b_repr => k_is); (case a_BOX_KINDS => k_is); (case l_BOX_KINDS => k_is); (case a_LINE_KINDS => k_is); (case l_LINE_KINDS => k_is); (case a_L => k_is)
    (case a_LD => k_is); (case a_P => k_is); (case a_R => k_is); (case l_R => k_is); (case l_R0 => k_is); (case l_R1 => k_is)
    (case l_R2 => k_is); (case l_R3 => k_is); (case l_R4 => k_is); (case l_R5 => k_is); (case l_R6 => k_is); (case l_R7 => k_is)
