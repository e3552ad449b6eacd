import PyProof.Rows.All
import Wide.All
import OpenK.AllK
import Wide.FinOn
import KE.OsRunLaw
import HandS.Base
import HandS.Call
import HandS.Comp
import HandS.Deep
import HandS.Dict
import HandS.Ends
import HandS.ExcOwn
import HandS.ExcSuper
import HandS.IsInst
import HandS.Iter
import HandS.List
import HandS.RaiseMore
import HandS.RevRange
import HandS.Style
import HandS.Text
import HandS.TupAny
import HandS.Wide
import HandS.Words
import KE.KExcIs
import KE.KIsAll
import PyProof.ReprRoads
import PySem.Challenge.RW_bookpack_k01_error_classes
set_option Elab.async false
set_option linter.all false
set_option maxRecDepth 100000
set_option maxHeartbeats 4000000
namespace EX
open PySem PySem.W PySem.HandSPX
/-- an error's class, by its name at the top; B: the class that all are under -/
structure ExK (K : Frag) (B : Addr) (nm : Str) (C : Addr) (fs : List Str) : Prop where
  ns : nsIn K mainGlobals nm = some (some (.ref C))
  nb : nsIn K mainGlobals "BookError" = some (some (.ref B))
  cls : ∃ q N bs sn sub ab col dd k0 k1 k2 k3 k5, K.lookup C = some (excClassObj nm q C N bs (.ref B :: [.type "ValueError", .type "Exception", .type "BaseException", .type "object"]) true sn sub ab col dd k0 k1 k2 k3 k5 "ValueError.__new__")
  sa : findIn K (.ref C) "__setattr__" = some (some (.builtin "object.__setattr__"))
  ga : findIn K (.ref C) "__getattribute__" = some (some (.builtin "BaseException.__getattribute__"))
  gg : findIn K (.ref C) "__getattr__" = some none
  gc : findIn K (.ref C) "__class__" = some (some (.builtin "object.__class__"))
  noF : ∀ f ∈ fs, findIn K (.ref C) f = some none
  kC : keepIn K (.ref C) = true
  tyC : typeIn K (.ref C) = some (.type "type")
end EX
/-! Data as plain values, and readings by what is wanted of them. -/
namespace DI
open PySem L2

inductive D where
  | non | bl (b : Bool) | int (i : Int) | str (x : Str) | lst (xs : List D) | tup (xs : List D) | drw | dic0 | exc (nm : Str) (fs : List Str) (ds : List D)
instance : Inhabited D := ⟨.non⟩

/-- sys.modules is tracked or written out, and no list -/
def One (K : PySem.W.Frag) (G : Hp) : Prop := ∃ o : Obj, (∀ its n, o.data ≠ .seq its n) ∧ (G sysModules = some (.frz o (.ext fun _ => True)) ∨ K.lookup sysModules = some o)
theorem One.mono {K : PySem.W.Frag} {G G' : Hp} (e : Same G G') : One K G → One K G' := fun ⟨o, h, q⟩ => ⟨o, h, q.imp (fun z => e _ _ z) id⟩
mutual
inductive Rp (K : PySem.W.Frag) (dr : Option Addr) (G : Hp) : V → D → Prop
  | non : Rp K dr G .non .non
  | bl (b : Bool) : Rp K dr G (.bl b) (.bl b)
  | int (i : Int) : Rp K dr G (.int i) (.int i)
  | str (x : Str) : Rp K dr G (.str x) (.str x)
  | lst {a : Addr} {xs : List V} {ds : List D} : G a = some (.lst xs) → RpA K dr G xs ds → Rp K dr G (.ref a) (.lst ds)
  | tup {a : Addr} {xs : List V} {ds : List D} : SqT K G a xs → RpA K dr G xs ds → Rp K dr G (.ref a) (.tup ds)
  | drw {a : Addr} : dr = some a → One K G → Rp K dr G (.ref a) .drw
  | dic0 {a : Addr} : G a = some (.dK []) → One K G → Rp K dr G (.ref a) .dic0
  | exc {e C B : Addr} {o : Obj} {nm : Str} {fs : List Str} {xs : List V} {ds : List D} : EX.ExK K B nm C fs → o.cls = .ref C → (∃ vs, o.data = .fields vs) → G e = some (.frz o (.ext fun _ => True)) →
      (fs ≠ [] → ∃ d, o.dict = some d ∧ G d = some (.xd (fs.zip xs))) → (fs = [] → o.dict = none) → xs.length = fs.length → RpA K dr G xs ds → Rp K dr G (.ref e) (.exc nm fs ds)
inductive RpA (K : PySem.W.Frag) (dr : Option Addr) (G : Hp) : List V → List D → Prop
  | nil : RpA K dr G [] []
  | cons {v : V} {vs : List V} {d : D} {ds : List D} : Rp K dr G v d → RpA K dr G vs ds → RpA K dr G (v :: vs) (d :: ds)
end

theorem Same.tup {K : PySem.W.Frag} {H H' : Hp} {a : Addr} {xs : List V} (e : Same H H') (h : SqT K H a xs) : SqT K H' a xs := by
  rcases h with (h | ⟨o, h⟩) | h
  · exact .inl (.inl (e _ _ h))
  · exact .inl (.inr ⟨o, e _ _ h⟩)
  · exact .inr h

section
variable {K : PySem.W.Frag} {dr : Option Addr} {G G' : Hp}
mutual
theorem Rp.mono (e : Same G G') {v : V} {d : D} : Rp K dr G v d → Rp K dr G' v d
  | .non => .non
  | .bl b => .bl b
  | .int i => .int i
  | .str x => .str x
  | .lst h hs => .lst (e _ _ h) (RpA.mono e hs)
  | .tup h hs => .tup (Same.tup e h) (RpA.mono e hs)
  | .drw h o => .drw h (o.mono e)
  | .dic0 h o => .dic0 (e _ _ h) (o.mono e)
  | .exc T hc hv he hd hn hl hs => .exc T hc hv (e _ _ he) (fun ne => match hd ne with | ⟨d, h1, h2⟩ => ⟨d, h1, e _ _ h2⟩) hn hl (RpA.mono e hs)
theorem RpA.mono (e : Same G G') {vs : List V} {ds : List D} : RpA K dr G vs ds → RpA K dr G' vs ds
  | .nil => .nil
  | .cons h hs => .cons (Rp.mono e h) (RpA.mono e hs)
end
theorem RpA.length : ∀ {vs : List V} {ds : List D}, RpA K dr G vs ds → vs.length = ds.length
  | _, _, .nil => rfl
  | _, _, .cons _ t => by rw [List.length_cons, List.length_cons, RpA.length t]
theorem RpA.append : ∀ {vs ws : List V} {ds es : List D}, RpA K dr G vs ds → RpA K dr G ws es → RpA K dr G (vs ++ ws) (ds ++ es)
  | _, _, _, _, .nil, s => s
  | _, _, _, _, .cons r t, s => .cons r (RpA.append t s)
theorem RpA.get : ∀ {vs : List V} {ds : List D} {i : Nat} {d : D}, RpA K dr G vs ds → ds[i]? = some d → ∃ v, vs[i]? = some v ∧ Rp K dr G v d
  | _, _, _, _, .nil, e => by simp at e
  | _, _, 0, _, .cons r _, e => by simp at e; subst e; exact ⟨_, rfl, r⟩
  | _, _, i + 1, d, .cons _ t, e => by
    obtain ⟨u, h1, h2⟩ := RpA.get (i := i) (d := d) t (by simpa using e)
    exact ⟨u, by simpa using h1, h2⟩
theorem RpA.getV : ∀ {vs : List V} {ds : List D} {i : Nat} {v : V}, RpA K dr G vs ds → vs[i]? = some v → ∃ d, ds[i]? = some d ∧ Rp K dr G v d
  | _, _, _, _, .nil, e => by simp at e
  | _, _, 0, _, .cons r _, e => by simp at e; subst e; exact ⟨_, rfl, r⟩
  | _, _, i + 1, v, .cons _ t, e => by
    obtain ⟨u, h1, h2⟩ := RpA.getV (i := i) (v := v) t (by simpa using e)
    exact ⟨u, by simpa using h1, h2⟩
theorem RpA.take : ∀ {vs : List V} {ds : List D} (n : Nat), RpA K dr G vs ds → RpA K dr G (vs.take n) (ds.take n)
  | _, _, 0, _ => by simp; exact .nil
  | _, _, _ + 1, .nil => .nil
  | _, _, n + 1, .cons r t => .cons r (RpA.take n t)
theorem RpA.drop : ∀ {vs : List V} {ds : List D} (n : Nat), RpA K dr G vs ds → RpA K dr G (vs.drop n) (ds.drop n)
  | _, _, 0, r => r
  | _, _, _ + 1, .nil => .nil
  | _, _, n + 1, .cons _ t => RpA.drop n t
theorem RpA.dropLast {vs : List V} {ds : List D} (h : RpA K dr G vs ds) : RpA K dr G vs.dropLast ds.dropLast := by
  rw [List.dropLast_eq_take, List.dropLast_eq_take, h.length]
  exact h.take _
theorem RpA.set {v : V} {d : D} (r : Rp K dr G v d) : ∀ {vs : List V} {ds : List D} (i : Nat), RpA K dr G vs ds → RpA K dr G (vs.set i v) (ds.set i d)
  | _, _, _, .nil => .nil
  | _, _, 0, .cons _ t => .cons r t
  | _, _, i + 1, .cons q t => .cons q (RpA.set r i t)
theorem RpA.reverse : ∀ {vs : List V} {ds : List D}, RpA K dr G vs ds → RpA K dr G vs.reverse ds.reverse
  | _, _, .nil => .nil
  | _, _, .cons r t => by
    rw [List.reverse_cons, List.reverse_cons]
    exact (RpA.reverse t).append (.cons r .nil)
theorem RpA.strs : ∀ (xs : List Str), RpA K dr G (xs.map V.str) (xs.map D.str)
  | [] => .nil
  | x :: xs => .cons (.str x) (RpA.strs xs)
theorem RpA.ints : ∀ (xs : List Int), RpA K dr G (xs.map V.int) (xs.map D.int)
  | [] => .nil
  | x :: xs => .cons (.int x) (RpA.ints xs)
end

/-! ### the draws -/
structure DrwOk (ns : List Int) (at_ left used : Int) (n : Nat) : Prop where
  ne : 0 < ns.length
  le : ns.length ≤ 64
  a0 : 0 ≤ at_
  an : at_ ≤ n
  u0 : 0 ≤ used
  un : used ≤ n
def drwK (L : Addr) (at_ left used : Int) : List (Key × V) := [(Sum.inr "cells", .ref L), (Sum.inr "at", .int at_), (Sum.inr "left", .int left), (Sum.inr "used", .int used)]
structure DrwAt (G H : Hp) (a : Addr) (n : Nat) : Prop where
  free : G a = none
  ex : ∃ (L : Addr) (ns : List Int) (at_ left used : Int), H a = some (.dK (drwK L at_ left used)) ∧ G L = some (.lst (ns.map V.int)) ∧ DrwOk ns at_ left used n
def Drw (G H : Hp) (dr : Option Addr) (n : Nat) : Prop := ∀ a, dr = some a → DrwAt G H a n

/-! ### the state -/
inductive Sl where
  | emp | val (d : D) | own (ds : List D) | bor (ds : List D)
structure S where
  env : List Sl
  n : Nat
def Sub (G H : Hp) : Prop := ∀ a o, G a = some o → H a = some o
/-- all but the draws' dict stands -/
def Bse (dr : Option Addr) (H H' : Hp) : Prop := ∀ a o, dr ≠ some a → H a = some o → H' a = some o
/-- what is new was free -/
def New (H0 G0 G : Hp) : Prop := ∀ a, G0 a = none → H0 a ≠ none → G a = none

def SlR (K : PySem.W.Frag) (dr : Option Addr) (H0 H G : Hp) (v : Option (Option V)) : Sl → Prop
  | .emp => True
  | .val d => ∃ u, v = some (some u) ∧ Rp K dr G u d
  | .own ds => ∃ p xs, v = some (some (.ref p)) ∧ H p = some (.lst xs) ∧ G p = none ∧ dr ≠ some p ∧ H0 p = none ∧ RpA K dr G xs ds
  | .bor ds => ∃ p xs, v = some (some (.ref p)) ∧ H p = some (.lst xs) ∧ H0 p ≠ none ∧ RpA K dr G xs ds
structure Rs (K : PySem.W.Frag) (dr : Option Addr) (H0 G0 : Hp) (σ : St) (H G : Hp) (s : S) : Prop where
  sub : Sub G H
  base : Bse dr H0 H
  new : New H0 G0 G
  len : s.env.length = σ.length
  slot : ∀ (i : Nat) (x : Sl), s.env[i]? = some x → SlR K dr H0 H G σ[i]? x
  inj : ∀ (i j : Nat) (p : Addr) (ds es : List D), i ≠ j → s.env[i]? = some (.own ds) → s.env[j]? = some (.own es) → σ[i]? = some (some (.ref p)) → σ[j]? ≠ some (some (.ref p))
  drw : Drw G H dr s.n
section
variable {K : PySem.W.Frag} {dr : Option Addr} {H0 G0 : Hp} {σ : St} {H G H' G' : Hp} {s : S}
theorem Drw.ne (h : Drw G H dr n) {p : Addr} (hp : H p = none) : dr ≠ some p := fun e => by
  obtain ⟨L, ns, a, l, u, e1, _⟩ := (h p e).ex
  rw [hp] at e1
  cases e1
theorem Sub.none (h : Sub G H) {p : Addr} (hp : H p = none) : G p = none := by
  cases e : G p with
  | none => rfl
  | some o =>
    rw [h p o e] at hp
    cases hp
theorem Same.upd {p : Addr} {o : HO} (h : H p = none) : Same H (upd H p o) := fun a u e => by
  rw [upd_ne (ne_of_none e h)]
  exact e
/-- a new object of both heaps -/
theorem Rs.alloc {p : Addr} {o : HO} (R : Rs K dr H0 G0 σ H G s) (hp : H p = none) : Rs K dr H0 G0 σ (upd H p o) (upd G p o) s := by
  have gp : G p = none := R.sub.none hp
  have dn : dr ≠ some p := R.drw.ne hp
  have kG : Same G (upd G p o) := Same.upd gp
  refine ⟨fun a u e => ?_, fun a u hd e => ?_, fun a h1 h2 => ?_, R.len, fun i x hx => ?_, R.inj, fun a ha => ?_⟩
  · by_cases h : a = p
    · subst h
      rw [upd_same] at e ⊢
      exact e
    · rw [upd_ne h] at e ⊢
      exact R.sub a u e
  · rw [upd_ne (ne_of_none (R.base a u hd e) hp)]
    exact R.base a u hd e
  · by_cases h : a = p
    · subst h
      cases e : H0 a with
      | none => exact absurd e h2
      | some u =>
        have z := R.base a u dn e
        rw [hp] at z
        cases z
    · rw [upd_ne h]
      exact R.new a h1 h2
  · have q := R.slot i x hx
    cases x with
    | emp => trivial
    | val d =>
      obtain ⟨u, e, r⟩ := q
      exact ⟨u, e, r.mono kG⟩
    | own ds =>
      obtain ⟨q1, xs, e, h1, h2, h3, h4, r⟩ := q
      have ne : q1 ≠ p := ne_of_none h1 hp
      exact ⟨q1, xs, e, by rw [upd_ne ne]; exact h1, by rw [upd_ne ne]; exact h2, h3, h4, r.mono kG⟩
    | bor ds =>
      obtain ⟨q1, xs, e, h1, h2, r⟩ := q
      exact ⟨q1, xs, e, by rw [upd_ne (ne_of_none h1 hp)]; exact h1, h2, r.mono kG⟩
  · obtain ⟨f, L, ns, x, l, u, e1, e2, k⟩ := R.drw a ha
    have ne : a ≠ p := fun z => dn (by rw [ha, z])
    exact ⟨by rw [upd_ne ne]; exact f, L, ns, x, l, u, by rw [upd_ne ne]; exact e1, kG L _ e2, k⟩
/-- a slot stored -/
theorem Rs.set {i : Nat} {v : V} {d : D} (R : Rs K dr H0 G0 σ H G s) (hi : i < σ.length) (r : Rp K dr G v d) : Rs K dr H0 G0 (σ.set i (some v)) H G { s with env := s.env.set i (.val d) } := by
  refine ⟨R.sub, R.base, R.new, by simp [R.len], fun j x hx => ?_, fun j k p ds es hjk e1 e2 e3 => ?_, R.drw⟩
  · by_cases h : i = j
    · subst h
      rw [List.getElem?_set_self (by rw [R.len]; exact hi)] at hx
      cases hx
      exact ⟨v, by rw [List.getElem?_set_self hi], r⟩
    · rw [List.getElem?_set_ne h] at hx ⊢
      exact R.slot j x hx
  · have nj : i ≠ j := fun z => by
      subst z
      rw [List.getElem?_set_self (by rw [R.len]; exact hi)] at e1
      cases e1
    have nk : i ≠ k := fun z => by
      subst z
      rw [List.getElem?_set_self (by rw [R.len]; exact hi)] at e2
      cases e2
    rw [List.getElem?_set_ne nj] at e1 e3
    rw [List.getElem?_set_ne nk] at e2 ⊢
    exact R.inj j k p ds es hjk e1 e2 e3
/-- a new list comes to be a slot's own: ahead of its tracking in G -/
theorem Rs.setOwn {i : Nat} {p : Addr} {xs : List V} {ds : List D} (R : Rs K dr H0 G0 σ H G s) (hi : i < σ.length) (hp : H p = none) (r : RpA K dr G xs ds) :
    Rs K dr H0 G0 (σ.set i (some (.ref p))) (L2.upd H p (.lst xs)) G { s with env := s.env.set i (.own ds) } := by
  have gp : G p = none := R.sub.none hp
  have dn : dr ≠ some p := R.drw.ne hp
  have h0p : H0 p = none := by
    cases e : H0 p with
    | none => rfl
    | some u =>
      have z := R.base p u dn e
      rw [hp] at z
      cases z
  have fr : ∀ j es, i ≠ j → s.env[j]? = some (.own es) → σ[j]? ≠ some (some (.ref p)) := fun j es hj e z => by
    obtain ⟨q, ys, e1, h1, _⟩ := R.slot j _ e
    rw [z] at e1
    cases e1
    rw [hp] at h1
    cases h1
  refine ⟨fun a u e => ?_, fun a u hd e => ?_, R.new, by simp [R.len], fun j x hx => ?_, fun j k q es fs hjk e1 e2 e3 => ?_, fun a ha => ?_⟩
  · rw [upd_ne (ne_of_none (R.sub a u e) hp)]
    exact R.sub a u e
  · rw [upd_ne (ne_of_none (R.base a u hd e) hp)]
    exact R.base a u hd e
  · by_cases h : i = j
    · subst h
      rw [List.getElem?_set_self (by rw [R.len]; exact hi)] at hx
      cases hx
      exact ⟨p, xs, by rw [List.getElem?_set_self hi], upd_same, gp, dn, h0p, r⟩
    · rw [List.getElem?_set_ne h] at hx ⊢
      have q := R.slot j x hx
      cases x with
      | emp => trivial
      | val d => exact q
      | own es =>
        obtain ⟨q1, ys, e, h1, h2, h3, h4, r⟩ := q
        exact ⟨q1, ys, e, by rw [upd_ne (ne_of_none h1 hp)]; exact h1, h2, h3, h4, r⟩
      | bor es =>
        obtain ⟨q1, ys, e, h1, h2, r⟩ := q
        exact ⟨q1, ys, e, by rw [upd_ne (ne_of_none h1 hp)]; exact h1, h2, r⟩
  · by_cases h : i = j
    · subst h
      rw [List.getElem?_set_self hi] at e3
      cases e3
      rw [List.getElem?_set_ne hjk] at e2 ⊢
      exact fr k _ hjk e2
    · rw [List.getElem?_set_ne h] at e1 e3
      by_cases h' : i = k
      · subst h'
        rw [List.getElem?_set_self hi]
        intro z
        cases z
        exact fr j _ h e1 e3
      · rw [List.getElem?_set_ne h'] at e2 ⊢
        exact R.inj j k q es fs hjk e1 e2 e3
  · obtain ⟨f, L, ns, x, l, u, e1, e2, k⟩ := R.drw a ha
    exact ⟨f, L, ns, x, l, u, by rw [upd_ne (ne_of_none e1 hp)]; exact e1, e2, k⟩
/-- a slot's own list is written -/
theorem Rs.write {i : Nat} {p : Addr} {ys : List V} {ds es : List D} (R : Rs K dr H0 G0 σ H G s) (hx : s.env[i]? = some (.own ds)) (hv : σ[i]? = some (some (.ref p))) (r : RpA K dr G ys es) :
    Rs K dr H0 G0 σ (L2.upd H p (.lst ys)) G { s with env := s.env.set i (.own es) } := by
  obtain ⟨p', xs, e1, h1, h2, h3, h4, r0⟩ := R.slot i _ hx
  rw [hv] at e1
  cases e1
  have hi : i < σ.length := by
    have := (List.getElem?_eq_some_iff.mp hx).1
    rw [R.len] at this
    exact this
  have hie : i < s.env.length := by rw [R.len]; exact hi
  refine ⟨fun a u e => ?_, fun a u hd e => ?_, R.new, by simp [R.len], fun j x hx' => ?_, fun j k q es' fs hjk e1 e2 e3 => ?_, fun a ha => ?_⟩
  · have ne : a ≠ p := fun z => by
      subst z
      rw [h2] at e
      cases e
    rw [upd_ne ne]
    exact R.sub a u e
  · have ne : a ≠ p := fun z => by
      subst z
      rw [h4] at e
      cases e
    rw [upd_ne ne]
    exact R.base a u hd e
  · by_cases h : i = j
    · subst h
      rw [List.getElem?_set_self hie] at hx'
      cases hx'
      exact ⟨p, ys, hv, upd_same, h2, h3, h4, r⟩
    · rw [List.getElem?_set_ne h] at hx'
      have q := R.slot j x hx'
      cases x with
      | emp => trivial
      | val d => exact q
      | own fs =>
        obtain ⟨q1, zs, e, g1, g2, g3, g4, r'⟩ := q
        have ne : q1 ≠ p := fun z => by
          subst z
          exact R.inj i j q1 ds fs h hx hx' hv e
        exact ⟨q1, zs, e, by rw [upd_ne ne]; exact g1, g2, g3, g4, r'⟩
      | bor fs =>
        obtain ⟨q1, zs, e, g1, g2, r'⟩ := q
        have ne : q1 ≠ p := fun z => g2 (by rw [z]; exact h4)
        exact ⟨q1, zs, e, by rw [upd_ne ne]; exact g1, g2, r'⟩
  · have back : ∀ {k : Nat} {fs : List D}, (s.env.set i (.own es))[k]? = some (.own fs) → ∃ gs, s.env[k]? = some (.own gs) := fun {k fs} e => by
      by_cases h : i = k
      · subst h
        exact ⟨ds, hx⟩
      · rw [List.getElem?_set_ne h] at e
        exact ⟨fs, e⟩
    obtain ⟨g1, e1'⟩ := back e1
    obtain ⟨g2, e2'⟩ := back e2
    exact R.inj j k q g1 g2 hjk e1' e2' e3
  · obtain ⟨f, L, ns, x, l, u, e1, e2, k⟩ := R.drw a ha
    have ne : a ≠ p := fun z => h3 (by rw [ha, z])
    exact ⟨f, L, ns, x, l, u, by rw [upd_ne ne]; exact e1, e2, k⟩
/-- a slot's own list becomes plain data -/
theorem Rs.freeze {i : Nat} {ds : List D} (R : Rs K dr H0 G0 σ H G s) (hx : s.env[i]? = some (.own ds)) :
    ∃ (p : Addr) (xs : List V), σ[i]? = some (some (.ref p)) ∧ H p = some (.lst xs) ∧ G p = none ∧ RpA K dr G xs ds ∧ Rs K dr H0 G0 σ H (L2.upd G p (.lst xs)) { s with env := s.env.set i (.val (.lst ds)) } := by
  obtain ⟨p, xs, e1, h1, h2, h3, h4, r⟩ := R.slot i _ hx
  have kG : Same G (L2.upd G p (.lst xs)) := Same.upd h2
  have hi : i < s.env.length := (List.getElem?_eq_some_iff.mp hx).1
  refine ⟨p, xs, e1, h1, h2, r, fun a u e => ?_, R.base, fun a z1 z2 => ?_, by simp [R.len], fun j x hx' => ?_, fun j k q es fs hjk e1' e2 e3 => ?_, fun a ha => ?_⟩
  · by_cases h : a = p
    · subst h
      rw [upd_same] at e
      cases e
      exact h1
    · rw [upd_ne h] at e
      exact R.sub a u e
  · have ne : a ≠ p := fun z => z2 (by rw [z]; exact h4)
    rw [upd_ne ne]
    exact R.new a z1 z2
  · by_cases h : i = j
    · subst h
      rw [List.getElem?_set_self hi] at hx'
      cases hx'
      exact ⟨.ref p, e1, .lst upd_same (r.mono kG)⟩
    · rw [List.getElem?_set_ne h] at hx'
      have q := R.slot j x hx'
      cases x with
      | emp => trivial
      | val d =>
        obtain ⟨u, e, r'⟩ := q
        exact ⟨u, e, r'.mono kG⟩
      | own fs =>
        obtain ⟨q1, zs, e, g1, g2, g3, g4, r'⟩ := q
        have ne : q1 ≠ p := fun z => by
          subst z
          exact R.inj i j q1 ds fs h hx hx' e1 e
        exact ⟨q1, zs, e, g1, by rw [upd_ne ne]; exact g2, g3, g4, r'.mono kG⟩
      | bor fs =>
        obtain ⟨q1, zs, e, g1, g2, r'⟩ := q
        exact ⟨q1, zs, e, g1, g2, r'.mono kG⟩
  · have back : ∀ {k : Nat} {fs : List D}, (s.env.set i (.val (.lst ds)))[k]? = some (.own fs) → s.env[k]? = some (.own fs) := fun {k fs} e => by
      by_cases h : i = k
      · subst h
        rw [List.getElem?_set_self hi] at e
        cases e
      · rw [List.getElem?_set_ne h] at e
        exact e
    exact R.inj j k q es fs hjk (back e1') (back e2) e3
  · obtain ⟨f, L, ns, x, l, u, z1, z2, k⟩ := R.drw a ha
    have ne : a ≠ p := fun z => h3 (by rw [ha, z])
    exact ⟨by rw [upd_ne ne]; exact f, L, ns, x, l, u, z1, kG L _ z2, k⟩
end

/-! ### readings by data -/
structure W where
  f : S → (D → S → Prop) → Prop
  mono : ∀ s P P', (∀ d s', P d s' → P' d s') → f s P → f s P'
structure WT where
  f : S → (Bool → S → Prop) → Prop
  mono : ∀ s P P', (∀ d s', P d s' → P' d s') → f s P → f s P'
structure WA where
  f : S → (List D → S → Prop) → Prop
  mono : ∀ s P P', (∀ d s', P d s' → P' d s') → f s P → f s P'
/-- where a proof stands: K, the draws, the heaps at the entry -/
structure Pl where
  K : PySem.W.Frag
  dr : Option Addr
  H0 : Hp
  G0 : Hp
abbrev Pl.Rs (p : Pl) (σ : St) (H G : Hp) (s : S) : Prop := DI.Rs p.K p.dr p.H0 p.G0 σ H G s
abbrev Pl.Rp (p : Pl) (G : Hp) (v : V) (d : D) : Prop := DI.Rp p.K p.dr G v d
abbrev Pl.RpA (p : Pl) (G : Hp) (v : List V) (d : List D) : Prop := DI.RpA p.K p.dr G v d
def lift (p : Pl) (w : W) : TE := fun σ H Q => ∃ G s, p.Rs σ H G s ∧ w.f s fun d s' => ∀ v H' G', Same G G' → p.Rs σ H' G' s' → p.Rp G' v d → Q v H'
def liftT (p : Pl) (w : WT) : TT := fun σ H Q => ∃ G s, p.Rs σ H G s ∧ w.f s fun b s' => ∀ H' G', Same G G' → p.Rs σ H' G' s' → Q b H'
def liftA (p : Pl) (w : WA) : TA := fun σ H Q => ∃ G s, p.Rs σ H G s ∧ w.f s fun ds s' => ∀ vs H' G', Same G G' → p.Rs σ H' G' s' → p.RpA G' vs ds → Q vs H'
theorem PE.imp {X : Cx} {e : Expr} {t t' : TE} (h : PE X e t) (i : ∀ σ H Q, t' σ H Q → t σ H Q) : PE X e t' := ⟨fun pins s σ H Q I q => h.run pins s σ H Q I (i σ H Q q)⟩
theorem PT.imp {X : Cx} {e : Expr} {t t' : TT} (h : PT X e t) (i : ∀ σ H Q, t' σ H Q → t σ H Q) : PT X e t' := ⟨fun pins s σ H Q I q => h.run pins s σ H Q I (i σ H Q q)⟩
theorem PA.imp {X : Cx} {e : List Expr} {t t' : TA} (h : PA X e t) (i : ∀ σ H Q, t' σ H Q → t σ H Q) : PA X e t' := ⟨fun pos pins s σ H Q I q => h.run pos pins s σ H Q I (i σ H Q q)⟩
theorem PS.imp {X : Cx} {e : Stmt} {t t' : TS} (h : PS X e t) (i : ∀ D σ H, t' D σ H → t D σ H) : PS X e t' := ⟨fun pins s σ H Q I q => h.run pins s σ H Q I (i Q σ H q)⟩
theorem PSs.imp {X : Cx} {e : List Stmt} {t t' : TS} (h : PSs X e t) (i : ∀ D σ H, t' D σ H → t D σ H) : PSs X e t' := ⟨fun pins s σ H Q I q => h.run pins s σ H Q I (i Q σ H q)⟩
end DI
/-! Expressions by data. -/
namespace DI
open PySem L2
def get {α : Type} (o : Option α) (P : α → Prop) : Prop := match o with
  | some d => P d
  | none => False
theorem get_some {α : Type} {P : α → Prop} {d : α} : get (some d) P = P d := rfl
theorem get_none {α : Type} {P : α → Prop} : get (none : Option α) P = False := rfl
theorem get_mono {α : Type} {o : Option α} {P P' : α → Prop} (h : ∀ d, P d → P' d) (q : get o P) : get o P' := by
  cases o with
  | none => exact q
  | some d => exact h d q
theorem get_of {α : Type} {o : Option α} {P : α → Prop} (q : get o P) : ∃ d, o = some d ∧ P d := by
  cases o with
  | none => exact q.elim
  | some d => exact ⟨d, rfl, q⟩

/-- what a slot holds, to be read -/
def vget (env : List Sl) (i : Nat) : Option D := match env[i]? with
  | some (.val d) => some d
  | some (.own ds) => some (.lst ds)
  | some (.bor ds) => some (.lst ds)
  | _ => none
/-- a value read without being kept -/
def RpB (p : Pl) (H G : Hp) (v : V) : D → Prop
  | .lst ds => ∃ a xs, v = .ref a ∧ H a = some (.lst xs) ∧ p.RpA G xs ds
  | d => p.Rp G v d
section
variable {p : Pl} {σ : St} {H G H' G' : Hp} {s : S} {v : V} {d : D}
theorem RpB.of (hs : Sub G H) (r : p.Rp G v d) : RpB p H G v d := by
  cases r with
  | lst h a => exact ⟨_, _, rfl, hs _ _ h, a⟩
  | non => exact .non
  | bl b => exact .bl b
  | int i => exact .int i
  | str x => exact .str x
  | tup h a => exact .tup h a
  | drw h o => exact .drw h o
  | dic0 h o => exact .dic0 h o
  | exc a b c d e f g h => exact .exc a b c d e f g h
theorem vget_rb {i : Nat} (R : p.Rs σ H G s) (h : vget s.env i = some d) : ∃ v, σ[i]? = some (some v) ∧ RpB p H G v d := by
  unfold vget at h
  cases e : s.env[i]? with
  | none =>
    rw [e] at h
    cases h
  | some x =>
    have q := R.slot i x e
    rw [e] at h
    cases x with
    | emp => cases h
    | val d' =>
      cases h
      obtain ⟨u, e1, r⟩ := q
      exact ⟨u, e1, .of R.sub r⟩
    | own ds =>
      cases h
      obtain ⟨a, xs, e1, h1, _, _, _, r⟩ := q
      exact ⟨_, e1, a, xs, rfl, h1, r⟩
    | bor ds =>
      cases h
      obtain ⟨a, xs, e1, h1, _, r⟩ := q
      exact ⟨_, e1, a, xs, rfl, h1, r⟩
end

/-! ### constants and names -/
def wC (d : D) : W := ⟨fun s P => P d s, fun _ _ _ h q => h _ _ q⟩
def wVar (i : Nat) : W := ⟨fun s P => match s.env[i]? with
  | some (.val d) => P d s
  | some (.own ds) => P (.lst ds) { s with env := s.env.set i (.val (.lst ds)) }
  | _ => False, fun s P P' h q => by
    cases e : s.env[i]? with
    | none => simp only [e] at q
    | some x => cases x <;> simp only [e] at q ⊢ <;> exact h _ _ q⟩
/-- a value that stands for itself: any G bears it -/
def Cst (p : Pl) (v : V) (d : D) : Prop := ∀ G, p.Rp G v d
section
variable {X : Cx} {p : Pl} {e a b : Expr} {es : List Expr} {pos : Pos} {w wa wb : W} {t : TE}
theorem pd_c {v : V} {d : D} (h : PE X e (tC v)) (r : Cst p v d) : PE X e (lift p (wC d)) :=
  PE.imp h fun σ H Q ⟨G, s, R, k⟩ => k v H G (Same.refl G) R (r G)
theorem pd_int {i j} : PE X (.Constant (.int i) j pos) (lift p (wC (.int i))) := pd_c pe_int fun _ => .int i
theorem pd_bl {i j} : PE X (.Constant (.bool i) j pos) (lift p (wC (.bl i))) := pd_c pe_bl fun _ => .bl i
theorem pd_non {j} : PE X (.Constant .none j pos) (lift p (wC .non)) := pd_c pe_non fun _ => .non
theorem pd_str {x j} : PE X (.Constant (.str x) j pos) (lift p (wC (.str x))) := pd_c pe_str fun _ => .str x
theorem pd_glob {x : Str} {v : V} {u : Value} {d : D} (hg : Gl X x) (hm : X.mg x = some u) (r : RelV v u) (c : Cst p v d) (hd : (x == ("__debug__" : Str)) = false := by decide) : PE X (.Name x pos) (lift p (wC d)) := pd_c (pe_glob hg hm r hd) c
theorem pd_var (i : Nat) (h : PE X e (tVar i)) : PE X e (lift p (wVar i)) := PE.imp h fun σ H Q ⟨G, s, R, k⟩ => by
  have k' : (match s.env[i]? with
    | some (.val d) => (fun d s' => ∀ v H' G', Same G G' → p.Rs σ H' G' s' → p.Rp G' v d → Q v H') d s
    | some (.own ds) => (fun d s' => ∀ v H' G', Same G G' → p.Rs σ H' G' s' → p.Rp G' v d → Q v H') (.lst ds) { s with env := s.env.set i (.val (.lst ds)) }
    | _ => False) := k
  cases e : s.env[i]? with
  | none =>
    rw [e] at k'
    exact k'.elim
  | some x =>
    rw [e] at k'
    cases x with
    | emp => exact k'.elim
    | bor ds => exact k'.elim
    | val d =>
      obtain ⟨u, e1, r⟩ := R.slot i _ e
      exact ⟨u, e1, k' u H G (Same.refl G) R r⟩
    | own ds =>
      obtain ⟨q, xs, e1, h1, h2, r, R'⟩ := R.freeze e
      have kG : Same G (L2.upd G q (.lst xs)) := Same.upd h2
      exact ⟨_, e1, k' _ H _ kG R' (.lst upd_same (r.mono kG))⟩

/-! ### operators -/
/-- an operation by values does what g says on data -/
def OpD (p : Pl) (r : R2) (c : D → D → Prop) (g : D → D → Option D) : Prop :=
  ∀ (G H : Hp) (x y : V) (d1 d2 d : D) (Q : VK), Sub G H → RpB p H G x d1 → RpB p H G y d2 → c d1 d2 → g d1 d2 = some d → (∀ v, p.Rp G v d → Q v H) → (∀ a o, H a = none → p.Rp (upd G a o) (.ref a) d → Q (.ref a) (upd H a o)) → r x y H Q
theorem OpD.or {r r' : R2} {c c' : D → D → Prop} {g g' : D → D → Option D} {c2 : D → D → Prop} {g2 : D → D → Option D} (h : OpD p r c g) (h' : OpD p r' c' g')
    (i : ∀ d1 d2 d, c2 d1 d2 → g2 d1 d2 = some d → (c d1 d2 ∧ g d1 d2 = some d) ∨ (c' d1 d2 ∧ g' d1 d2 = some d)) : OpD p (fun x y H Q => r x y H Q ∨ r' x y H Q) c2 g2 := by
  intro G H x y d1 d2 d Q hs r1 r2 hc hg k1 k2
  rcases i d1 d2 d hc hg with ⟨a, b⟩ | ⟨a, b⟩
  · exact .inl (h G H x y d1 d2 d Q hs r1 r2 a b k1 k2)
  · exact .inr (h' G H x y d1 d2 d Q hs r1 r2 a b k1 k2)
def wBin (c : D → D → Prop) (g : D → D → Option D) (wa wb : W) : W := ⟨fun s P => wa.f s fun d1 s1 => wb.f s1 fun d2 s2 => c d1 d2 ∧ get (g d1 d2) fun d => P d s2,
  fun s P P' h q => wa.mono _ _ _ (fun d1 s1 q1 => wb.mono _ _ _ (fun d2 s2 ⟨q2, q3⟩ => ⟨q2, get_mono (fun d => h d s2) q3⟩) q1) q⟩
/-- the first operand a name -/
def wBinV (c : D → D → Prop) (g : D → D → Option D) (i : Nat) (wb : W) : W := ⟨fun s P => get (vget s.env i) fun _ => wb.f s fun d2 s2 => get (vget s2.env i) fun d1 => c d1 d2 ∧ get (g d1 d2) fun d => P d s2,
  fun s P P' h q => get_mono (fun _ q => wb.mono _ _ _ (fun d2 s2 q1 => get_mono (fun d1 ⟨q2, q3⟩ => ⟨q2, get_mono (fun d => h d s2) q3⟩) q1) q) q⟩
/-- the second operand a name -/
def wBinR (c : D → D → Prop) (g : D → D → Option D) (wa : W) (i : Nat) : W := ⟨fun s P => wa.f s fun d1 s1 => get (vget s1.env i) fun d2 => c d1 d2 ∧ get (g d1 d2) fun d => P d s1,
  fun s P P' h q => wa.mono _ _ _ (fun d2 s2 q1 => get_mono (fun d1 ⟨q2, q3⟩ => ⟨q2, get_mono (fun d => h d s2) q3⟩) q1) q⟩
theorem op_lift {r : R2} {c : D → D → Prop} {g : D → D → Option D} (hd : OpD p r c g) (σ : St) (H : Hp) (Q : VK) (h : lift p (wBin c g wa wb) σ H Q) : tOp r (lift p wa) (lift p wb) σ H Q := by
  obtain ⟨G, s, R, k⟩ := h
  refine ⟨G, s, R, wa.mono _ _ _ (fun d1 s1 k1 x H1 G1 e1 R1 r1 => ⟨G1, s1, R1, wb.mono _ _ _ (fun d2 s2 k2 y H2 G2 e2 R2 r2 => ?_) k1⟩) k⟩
  obtain ⟨kc, kg⟩ := k2
  obtain ⟨d, eg, kd⟩ := get_of kg
  exact hd G2 H2 x y d1 d2 d Q R2.sub (.of R2.sub (r1.mono e2)) (.of R2.sub r2) kc eg (fun v rv => kd v H2 G2 (e1.trans e2) R2 rv) fun a o ha ra => kd _ _ _ ((e1.trans e2).trans (Same.upd (R2.sub.none ha))) (R2.alloc ha) ra
theorem opV_lift {r : R2} {c : D → D → Prop} {g : D → D → Option D} {i : Nat} (hd : OpD p r c g) (σ : St) (H : Hp) (Q : VK) (h : lift p (wBinV c g i wb) σ H Q) : tOp r (tVar i) (lift p wb) σ H Q := by
  obtain ⟨G, s, R, k⟩ := h
  obtain ⟨d0, e0, k⟩ := get_of k
  obtain ⟨x, hx, _⟩ := vget_rb R e0
  refine ⟨x, hx, G, s, R, wb.mono _ _ _ (fun d2 s2 k2 y H2 G2 e2 R2 r2 => ?_) k⟩
  obtain ⟨d1, ed, k3⟩ := get_of k2
  obtain ⟨x', ex, rx⟩ := vget_rb R2 ed
  rw [hx] at ex
  cases ex
  obtain ⟨kc, kg⟩ := k3
  obtain ⟨d, eg, kd⟩ := get_of kg
  exact hd G2 H2 x y d1 d2 d Q R2.sub rx (.of R2.sub r2) kc eg (fun v rv => kd v H2 G2 e2 R2 rv) fun a o ha ra => kd _ _ _ (e2.trans (Same.upd (R2.sub.none ha))) (R2.alloc ha) ra
theorem opR_lift {r : R2} {c : D → D → Prop} {g : D → D → Option D} {i : Nat} (hd : OpD p r c g) (σ : St) (H : Hp) (Q : VK) (h : lift p (wBinR c g wa i) σ H Q) : tOp r (lift p wa) (tVar i) σ H Q := by
  obtain ⟨G, s, R, k⟩ := h
  refine ⟨G, s, R, wa.mono _ _ _ (fun d1 s1 k1 x H1 G1 e1 R1 r1 => ?_) k⟩
  obtain ⟨d2, ed, kc, kg⟩ := get_of k1
  obtain ⟨y, ey, ry⟩ := vget_rb R1 ed
  obtain ⟨d, eg, kd⟩ := get_of kg
  exact ⟨y, ey, hd G1 H1 x y d1 d2 d Q R1.sub (.of R1.sub r1) ry kc eg (fun v rv => kd v H1 G1 e1 R1 rv) fun a o ha ra => kd _ _ _ (e1.trans (Same.upd (R1.sub.none ha))) (R1.alloc ha) ra⟩

/-! the rules -/
theorem rb_int {i : Int} {x : V} {G H : Hp} (r : RpB p H G x (.int i)) : x = .int i := by
  have r' : p.Rp G x (.int i) := r
  cases r'
  rfl
theorem rb_bl {i : Bool} {x : V} {G H : Hp} (r : RpB p H G x (.bl i)) : x = .bl i := by
  have r' : p.Rp G x (.bl i) := r
  cases r'
  rfl
theorem rb_str {i : Str} {x : V} {G H : Hp} (r : RpB p H G x (.str i)) : x = .str i := by
  have r' : p.Rp G x (.str i) := r
  cases r'
  rfl
theorem rb_tup {ds : List D} {x : V} {G H : Hp} (hs : Sub G H) (r : RpB p H G x (.tup ds)) : ∃ a xs, x = .ref a ∧ SqT p.K G a xs ∧ SqT p.K H a xs ∧ p.RpA G xs ds := by
  have r' : p.Rp G x (.tup ds) := r
  cases r' with
  | tup h k => exact ⟨_, _, rfl, h, Same.tup hs h, k⟩
theorem rb_non {x : V} {G H : Hp} (r : RpB p H G x .non) : x = .non := by
  have r' : p.Rp G x .non := r
  cases r'
  rfl
/-- two ints -/
def gI (f : Int → Int → D) : D → D → Option D
  | .int i, .int j => some (f i j)
  | _, _ => none
theorem gI_of {f : Int → Int → D} {a b d : D} (h : gI f a b = some d) : ∃ i j, a = .int i ∧ b = .int j ∧ d = f i j := by
  cases a <;> cases b <;> simp only [gI] at h <;> cases h
  exact ⟨_, _, rfl, rfl, rfl⟩
def cT : D → D → Prop := fun _ _ => True
def cI (C : Int → Int → Prop) : D → D → Prop
  | .int i, .int j => C i j
  | _, _ => False
theorem od_I {C : Int → Int → Prop} {f : Int → Int → Int} : OpD p (rI C fun i j => .int (f i j)) (cI C) (gI fun i j => .int (f i j)) := by
  intro G H x y d1 d2 d Q hs r1 r2 hc hg k1 k2
  obtain ⟨i, j, rfl, rfl, rfl⟩ := gI_of hg
  cases rb_int r1
  cases rb_int r2
  exact ⟨i, j, rfl, rfl, hc, k1 _ (.int _)⟩
theorem od_I0 {f : Int → Int → Int} : OpD p (rI0 fun i j => .int (f i j)) cT (gI fun i j => .int (f i j)) := by
  intro G H x y d1 d2 d Q hs r1 r2 hc hg k1 k2
  obtain ⟨i, j, rfl, rfl, rfl⟩ := gI_of hg
  cases rb_int r1
  cases rb_int r2
  exact ⟨i, j, rfl, rfl, k1 _ (.int _)⟩
theorem od_B0 {f : Int → Int → Bool} : OpD p (rI0 fun i j => .bl (f i j)) cT (gI fun i j => .bl (f i j)) := by
  intro G H x y d1 d2 d Q hs r1 r2 hc hg k1 k2
  obtain ⟨i, j, rfl, rfl, rfl⟩ := gI_of hg
  cases rb_int r1
  cases rb_int r2
  exact ⟨i, j, rfl, rfl, k1 _ (.bl _)⟩
/-- + -/
def gAdd : D → D → Option D
  | .int i, .int j => some (.int (i + j))
  | .str x, .str y => some (.str (x ++ y))
  | .tup x, .tup y => some (.tup (x ++ y))
  | .lst x, .lst y => some (.lst (x ++ y))
  | _, _ => none
def cAdd : D → D → Prop
  | .str x, .str y => x.length + y.length ≤ sizeLine
  | .tup x, .tup y => x.length + y.length ≤ sizeLine
  | .lst x, .lst y => x.length + y.length ≤ sizeLine
  | _, _ => True
def rAddA (K : PySem.W.Frag) : R2 := fun x y H Q => rI0 (fun i j => .int (i + j)) x y H Q ∨ ((∃ i j, x = .str i ∧ y = .str j ∧ i.length + j.length ≤ sizeLine ∧ Q (.str (i ++ j)) H) ∨ (rCatA K x y H Q ∨ rCat x y H Q))
theorem op_addA : OpR X (binaryOp .Add) (rAddA X.K) := op_add.or (op_add_str.or (op_catA.or op_cat))
theorem od_add (hK : p.K = X.K) : OpD p (rAddA X.K) cAdd gAdd := by
  intro G H x y d1 d2 d Q hs r1 r2 hc hg k1 k2
  cases d1 <;> cases d2 <;> simp only [gAdd] at hg <;> cases hg
  · cases rb_int r1
    cases rb_int r2
    exact .inl ⟨_, _, rfl, rfl, k1 _ (.int _)⟩
  · cases rb_str r1
    cases rb_str r2
    exact .inr (.inl ⟨_, _, rfl, rfl, hc, k1 _ (.str _)⟩)
  · obtain ⟨a, xs, rfl, e1, h1⟩ := r1
    obtain ⟨b, ys, rfl, e2, h2⟩ := r2
    exact .inr (.inr (.inr ⟨a, b, xs, ys, rfl, rfl, e1, e2, by rw [h1.length, h2.length]; exact hc, fun l hl => k2 l _ hl (.lst upd_same ((h1.append h2).mono (Same.upd (hs.none hl))))⟩))
  · obtain ⟨a, xs, rfl, t1, e1, h1⟩ := rb_tup hs r1
    obtain ⟨b, ys, rfl, t2, e2, h2⟩ := rb_tup hs r2
    rw [hK] at e1 e2
    have l1 := h1.length
    have l2 := h2.length
    refine .inr (.inr (.inl ⟨a, b, xs, ys, rfl, rfl, e1, e2, by rw [l1, l2]; exact hc, fun z => ?_, fun z z2 => ?_, fun z1 z2 l hl => k2 l _ hl (.tup (.inl (.inl upd_same)) ((h1.append h2).mono (Same.upd (hs.none hl))))⟩))
    · subst z
      cases h1
      exact k1 _ (.tup t2 h2)
    · subst z2
      cases h2
      exact k1 _ (.tup t1 (by rw [List.append_nil]; exact h1))
def gMul : D → D → Option D
  | .int i, .int j => some (.int (i * j))
  | _, _ => none
abbrev gSub : D → D → Option D := gI fun i j => .int (i - j)
abbrev gMod : D → D → Option D := gI fun i j => .int (i % j)
abbrev gDiv : D → D → Option D := gI fun i j => .int (i / j)
abbrev cMod : D → D → Prop := cI fun _ j => 0 < j
abbrev cDiv : D → D → Prop := cI CDiv
section
variable (ha : PE X a (lift p wa)) (hb : PE X b (lift p wb))
include ha hb
theorem pd_add (hK : p.K = X.K := by rfl) : PE X (.BinOp a .Add b pos) (lift p (wBin cAdd gAdd wa wb)) := PE.imp (pe_op op_addA ha hb) (op_lift (od_add hK))
theorem pd_sub : PE X (.BinOp a .Sub b pos) (lift p (wBin cT gSub wa wb)) := PE.imp (pe_op op_sub ha hb) (op_lift od_I0)
theorem pd_mod : PE X (.BinOp a .Mod b pos) (lift p (wBin cMod gMod wa wb)) := PE.imp (pe_op op_mod ha hb) (op_lift od_I)
theorem pd_div : PE X (.BinOp a .FloorDiv b pos) (lift p (wBin cDiv gDiv wa wb)) := PE.imp (pe_op op_fdiv ha hb) (op_lift od_I)
end
theorem pd_addV (i : Nat) (ha : PE X a (tVar i)) (hb : PE X b (lift p wb)) (hK : p.K = X.K := by rfl) : PE X (.BinOp a .Add b pos) (lift p (wBinV cAdd gAdd i wb)) := PE.imp (pe_op op_addA ha hb) (opV_lift (od_add hK))
theorem pd_neg (ha : PE X a (lift p wa)) : PE X (.UnaryOp .USub a pos) (lift p ⟨fun s P => wa.f s fun d s1 => get (match d with | .int i => some i | _ => none) fun i => P (.int (-i)) s1, fun s P P' h q => wa.mono _ _ _ (fun d s1 q => get_mono (fun i => h _ s1) q) q⟩) :=
  PE.imp (pe_un un_neg ha) fun σ H Q ⟨G, s, R, k⟩ => ⟨G, s, R, wa.mono _ _ _ (fun d s1 k1 x H1 G1 e1 R1 r1 => by
    obtain ⟨i, e, k2⟩ := get_of k1
    cases d <;> cases e
    cases r1
    exact ⟨i, rfl, k2 _ H1 G1 e1 R1 (.int _)⟩) k⟩

/-! ### equality of data -/
mutual
def toPy : D → PyData
  | .non => .none
  | .bl b => .bool b
  | .int i => .int i
  | .str x => .str x
  | .lst xs => .list (toPyA xs)
  | .tup xs => .tuple (toPyA xs)
  | .drw => .none
  | .dic0 => .dict []
  | .exc _ _ _ => .none
def toPyA : List D → List PyData
  | [] => []
  | x :: xs => toPy x :: toPyA xs
end
mutual
def plain : D → Bool
  | .drw => false
  | .dic0 => false
  | .exc _ _ _ => false
  | .lst xs => plainA xs
  | .tup xs => plainA xs
  | _ => true
def plainA : List D → Bool
  | [] => true
  | x :: xs => plain x && plainA xs
end
def shp (d : D) : Prop := plain d = true ∧ SeqAt.shaped (toPy d) = true
mutual
theorem Rp.dp {K : PySem.W.Frag} {dr : Option Addr} {G : Hp} : ∀ {v : V} {d : D}, Rp K dr G v d → plain d = true → Dp K G v (toPy d)
  | _, _, .non, _ => by simp only [toPy]; exact .non
  | _, _, .bl b, _ => by simp only [toPy]; exact .bl b
  | _, _, .int i, _ => by simp only [toPy]; exact .int i
  | _, _, .str x, _ => by simp only [toPy]; exact .str x
  | _, _, .lst h hs, q => by
    simp only [toPy]
    exact .lst (SqL.of h) (RpA.dp hs (by simpa only [plain] using q))
  | _, _, .tup h hs, q => by
    simp only [toPy]
    exact .tup h (RpA.dp hs (by simpa only [plain] using q))
  | _, _, .drw h _, q => by simp [plain] at q
  | _, _, .dic0 h _, q => by simp [plain] at q
  | _, _, .exc _ _ _ _ _ _ _ _, q => by simp [plain] at q
theorem RpA.dp {K : PySem.W.Frag} {dr : Option Addr} {G : Hp} : ∀ {vs : List V} {ds : List D}, RpA K dr G vs ds → plainA ds = true → DpAll K G vs (toPyA ds)
  | _, _, .nil, _ => by simp only [toPyA]; exact .nil
  | _, _, .cons r t, q => by
    simp only [plainA, Bool.and_eq_true] at q
    simp only [toPyA]
    exact .cons (Rp.dp r q.1) (RpA.dp t q.2)
end
theorem rb_dp {H G : Hp} {v : V} {d : D} (hs : Sub G H) (r : RpB p H G v d) (q : plain d = true) : Dp p.K H v (toPy d) := by
  cases d with
  | lst ds =>
    obtain ⟨a, xs, rfl, h, k⟩ := r
    simp only [toPy]
    exact .lst (SqL.of h) (RpA.dp (k.mono hs) (by simpa only [plain] using q))
  | _ => exact Rp.dp (Rp.mono hs r) q
def scalD : D → D → Bool
  | .non, .non => true | .non, .int _ => true | .int _, .non => true | .non, .bl _ => true | .bl _, .non => true | .non, .str _ => true | .str _, .non => true
  | .int _, .int _ => true | .bl _, .bl _ => true | .str _, .str _ => true
  | .int _, .str _ => true | .str _, .int _ => true | .bl _, .str _ => true | .str _, .bl _ => true
  | _, _ => false
def eqD (a b : D) : Bool := PyData.eqv (toPy a) (toPy b)
def cEq (a b : D) : Prop := scalD a b = true ∨ (shp a ∧ shp b)
def gEq (a b : D) : Option D := some (.bl (eqD a b))
def gNe (a b : D) : Option D := some (.bl (!eqD a b))
def rEqA (K : PySem.W.Frag) : R2 := fun x y H Q => rEq x y H Q ∨ rEqD K x y H Q
def rNeA (K : PySem.W.Frag) : R2 := fun x y H Q => rNe x y H Q ∨ rNeD K x y H Q
theorem op_eqA (hu : X.A.units + 64 < cLine) : OpR X (compareOp .Eq) (rEqA X.K) := op_eq.or (op_eqD hu)
theorem op_neA (hu : X.A.units + 64 < cLine) : OpR X (compareOp .NotEq) (rNeA X.K) := op_ne.or (op_neD hu)
theorem scal_of {H G : Hp} {x y : V} {d1 d2 : D} (r1 : RpB p H G x d1) (r2 : RpB p H G y d2) (h : scalD d1 d2 = true) : scal x y = true ∧ decide (x = y) = eqD d1 d2 := by
  cases d1 <;> cases d2 <;> simp only [scalD, Bool.false_eq_true] at h <;>
    first
    | (cases rb_non r1; cases rb_non r2; exact ⟨rfl, by simp [eqD, toPy, PyData.eqv]⟩)
    | (cases rb_non r1; cases rb_int r2; exact ⟨rfl, by simp [eqD, toPy, PyData.eqv]⟩)
    | (cases rb_non r1; cases rb_bl r2; exact ⟨rfl, by simp [eqD, toPy, PyData.eqv]⟩)
    | (cases rb_non r1; cases rb_str r2; exact ⟨rfl, by simp [eqD, toPy, PyData.eqv]⟩)
    | (cases rb_int r1; cases rb_non r2; exact ⟨rfl, by simp [eqD, toPy, PyData.eqv]⟩)
    | (cases rb_bl r1; cases rb_non r2; exact ⟨rfl, by simp [eqD, toPy, PyData.eqv]⟩)
    | (cases rb_str r1; cases rb_non r2; exact ⟨rfl, by simp [eqD, toPy, PyData.eqv]⟩)
    | (cases rb_int r1; cases rb_int r2; exact ⟨rfl, by rw [dec_int]; simp [eqD, toPy, PyData.eqv]⟩)
    | (cases rb_bl r1; cases rb_bl r2; exact ⟨rfl, by rw [dec_bl]; simp [eqD, toPy, PyData.eqv]⟩)
    | (cases rb_str r1; cases rb_str r2; exact ⟨rfl, by rw [dec_str]; simp [eqD, toPy, PyData.eqv]⟩)
    | (cases rb_int r1; cases rb_str r2; exact ⟨rfl, by simp [eqD, toPy, PyData.eqv]⟩)
    | (cases rb_str r1; cases rb_int r2; exact ⟨rfl, by simp [eqD, toPy, PyData.eqv]⟩)
    | (cases rb_bl r1; cases rb_str r2; exact ⟨rfl, by simp [eqD, toPy, PyData.eqv]⟩)
    | (cases rb_str r1; cases rb_bl r2; exact ⟨rfl, by simp [eqD, toPy, PyData.eqv]⟩)
theorem od_eq (hK : p.K = X.K) : OpD p (rEqA X.K) cEq gEq := by
  intro G H x y d1 d2 d Q hs r1 r2 hc hg k1 k2
  cases hg
  rcases hc with hc | ⟨⟨p1, s1⟩, ⟨p2, s2⟩⟩
  · obtain ⟨e1, e2⟩ := scal_of r1 r2 hc
    exact .inl ⟨e1, by rw [e2]; exact k1 _ (.bl _)⟩
  · exact .inr ⟨_, _, hK ▸ rb_dp hs r1 p1, hK ▸ rb_dp hs r2 p2, s1, s2, k1 _ (.bl _)⟩
theorem od_ne (hK : p.K = X.K) : OpD p (rNeA X.K) cEq gNe := by
  intro G H x y d1 d2 d Q hs r1 r2 hc hg k1 k2
  cases hg
  rcases hc with hc | ⟨⟨p1, s1⟩, ⟨p2, s2⟩⟩
  · obtain ⟨e1, e2⟩ := scal_of r1 r2 hc
    exact .inl ⟨e1, by rw [e2]; exact k1 _ (.bl _)⟩
  · exact .inr ⟨_, _, hK ▸ rb_dp hs r1 p1, hK ▸ rb_dp hs r2 p2, s1, s2, k1 _ (.bl _)⟩

/-! ### comparisons -/
def strLt (x y : Str) : Bool := decide (x.cps.toList < y.cps.toList)
def gLt : D → D → Option D
  | .int i, .int j => some (.bl (decide (i < j)))
  | .str x, .str y => some (.bl (strLt x y))
  | _, _ => none
def gLe : D → D → Option D
  | .int i, .int j => some (.bl (decide (i ≤ j)))
  | .str x, .str y => some (.bl (!strLt y x))
  | _, _ => none
def gGt : D → D → Option D
  | .int i, .int j => some (.bl (decide (j < i)))
  | .str x, .str y => some (.bl (strLt y x))
  | _, _ => none
def gGe : D → D → Option D
  | .int i, .int j => some (.bl (decide (j ≤ i)))
  | .str x, .str y => some (.bl (!strLt x y))
  | _, _ => none
def rS (f : Str → Str → Bool) : R2 := fun x y H Q => ∃ i j, x = .str i ∧ y = .str j ∧ Q (.bl (f i j)) H
theorem opS {op : CmpOp} {f : Str → Str → Bool} (rule : ∀ (x y : Str) (t u : Tok) (s : Shared) (Q : Value → Shared → Prop) (E : Value → Shared → Prop), Q (.bool (f x y)) s → wpAny (model X.prog X.w) X.A (compareOp op (.str x t) (.str y u)) Q E s) : OpR X (compareOp op) (rS f) := by
  intro pins s σ H x y v u Q I rx ry h
  obtain ⟨i, j, rfl, rfl, q⟩ := h
  obtain ⟨t, rfl⟩ := rx
  obtain ⟨t', rfl⟩ := ry
  exact rule i j t t' s _ _ ⟨.bl _, H, I, rfl, q⟩
theorem od_IS {f : Int → Int → Bool} {h : Str → Str → Bool} {g : D → D → Option D} (e : ∀ a b d, g a b = some d → (∃ i j, a = .int i ∧ b = .int j ∧ d = .bl (f i j)) ∨ (∃ i j, a = .str i ∧ b = .str j ∧ d = .bl (h i j))) :
    OpD p (fun x y H Q => rI0 (fun i j => .bl (f i j)) x y H Q ∨ rS h x y H Q) cT g := by
  intro G H x y d1 d2 d Q hs r1 r2 hc hg k1 k2
  rcases e _ _ _ hg with ⟨i, j, rfl, rfl, rfl⟩ | ⟨i, j, rfl, rfl, rfl⟩
  · cases rb_int r1
    cases rb_int r2
    exact .inl ⟨i, j, rfl, rfl, k1 _ (.bl _)⟩
  · cases rb_str r1
    cases rb_str r2
    exact .inr ⟨i, j, rfl, rfl, k1 _ (.bl _)⟩
/-- a comparison's rule: by values and by data -/
structure CmpR (X : Cx) (p : Pl) (op : CmpOp) (c : D → D → Prop) (g : D → D → Option D) : Prop where
  ex : ∃ r, OpR X (compareOp op) r ∧ OpD p r c g
theorem cm_lt : CmpR X p .Lt cT gLt := ⟨_, op_lt.or (opS fun _ _ _ _ _ _ _ q => PyProof.Rows.lt_str q), od_IS fun a b d h => by
  cases a <;> cases b <;> simp only [gLt] at h <;> cases h
  · exact .inl ⟨_, _, rfl, rfl, rfl⟩
  · exact .inr ⟨_, _, rfl, rfl, rfl⟩⟩
theorem cm_le : CmpR X p .LtE cT gLe := ⟨_, op_le.or (opS (f := fun x y => !strLt y x) fun _ _ _ _ _ _ _ q => PySem.P.le_str q), od_IS fun a b d h => by
  cases a <;> cases b <;> simp only [gLe] at h <;> cases h
  · exact .inl ⟨_, _, rfl, rfl, rfl⟩
  · exact .inr ⟨_, _, rfl, rfl, rfl⟩⟩
theorem cm_gt : CmpR X p .Gt cT gGt := ⟨_, op_gt.or (opS (f := fun x y => strLt y x) fun _ _ _ _ _ _ _ q => PySem.P.gt_str q), od_IS fun a b d h => by
  cases a <;> cases b <;> simp only [gGt] at h <;> cases h
  · exact .inl ⟨_, _, rfl, rfl, rfl⟩
  · exact .inr ⟨_, _, rfl, rfl, rfl⟩⟩
theorem cm_ge : CmpR X p .GtE cT gGe := ⟨_, op_ge.or (opS (f := fun x y => !strLt x y) fun _ _ _ _ _ _ _ q => PySem.P.ge_str q), od_IS fun a b d h => by
  cases a <;> cases b <;> simp only [gGe] at h <;> cases h
  · exact .inl ⟨_, _, rfl, rfl, rfl⟩
  · exact .inr ⟨_, _, rfl, rfl, rfl⟩⟩
theorem cm_eq {k : Nat} (hr : Room k X.A) (hK : p.K = X.K := by rfl) : CmpR X p .Eq cEq gEq := ⟨_, op_eqA hr.units, od_eq hK⟩
theorem cm_ne {k : Nat} (hr : Room k X.A) (hK : p.K = X.K := by rfl) : CmpR X p .NotEq cEq gNe := ⟨_, op_neA hr.units, od_ne hK⟩
/-- is None -/
def isNon : D → Bool
  | .non => true
  | _ => false
def gIsN : D → D → Option D
  | a, .non => some (.bl (isNon a))
  | _, _ => none
def gNotN : D → D → Option D
  | a, .non => some (.bl (!isNon a))
  | _, _ => none
theorem rb_isNon {H G : Hp} {x : V} {d : D} (r : RpB p H G x d) : decide (x = .non) = isNon d := by
  cases d with
  | lst ds =>
    obtain ⟨a, xs, rfl, _⟩ := r
    rfl
  | non => cases rb_non r; rfl
  | bl b => cases rb_bl r; rfl
  | int b => cases rb_int r; rfl
  | str b => cases rb_str r; rfl
  | tup ds =>
    have r' : p.Rp G x (.tup ds) := r
    cases r'
    rfl
  | drw =>
    have r' : p.Rp G x .drw := r
    cases r'
    rfl
  | dic0 =>
    have r' : p.Rp G x .dic0 := r
    cases r'
    rfl
  | exc nm fs ds =>
    have r' : p.Rp G x (.exc nm fs ds) := r
    cases r'
    rfl
theorem cm_isN : CmpR X p .Is cT gIsN := ⟨_, op_isN, fun G H x y d1 d2 d Q hs r1 r2 hc hg k1 k2 => by
  cases d2 <;> simp only [gIsN] at hg <;> cases hg
  cases rb_non r2
  exact ⟨rfl, by rw [rb_isNon r1]; exact k1 _ (.bl _)⟩⟩
theorem cm_notN : CmpR X p .IsNot cT gNotN := ⟨_, op_notN, fun G H x y d1 d2 d Q hs r1 r2 hc hg k1 k2 => by
  cases d2 <;> simp only [gNotN] at hg <;> cases hg
  cases rb_non r2
  exact ⟨rfl, by rw [rb_isNon r1]; exact k1 _ (.bl _)⟩⟩
/-- in: flat items, or a text in a text -/
def flatD : D → Bool
  | .non => true
  | .bl _ => true
  | .int _ => true
  | .str _ => true
  | _ => false
def inD (x : D) (xs : List D) : Bool := xs.any fun y => eqD y x
def inStr (x y : Str) : Bool := !(Builtin.Str.occurrences y x 0 y.length 1).isEmpty
def cIn : D → D → Prop
  | x, .tup ys => flatD x = true ∧ ys.all flatD = true
  | x, .lst ys => flatD x = true ∧ ys.all flatD = true
  | _, _ => True
def gIn : D → D → Option D
  | x, .tup ys => some (.bl (inD x ys))
  | x, .lst ys => some (.bl (inD x ys))
  | .str x, .str y => some (.bl (inStr x y))
  | _, _ => none
def gNin : D → D → Option D
  | x, .tup ys => some (.bl (!inD x ys))
  | x, .lst ys => some (.bl (!inD x ys))
  | .str x, .str y => some (.bl (!inStr x y))
  | _, _ => none
theorem flat_of {G H : Hp} {x : V} {d : D} (r : RpB p H G x d) (h : flatD d = true) : flatV x = true := by
  cases d <;> simp only [flatD, Bool.false_eq_true] at h
  · cases rb_non r; rfl
  · cases rb_bl r; rfl
  · cases rb_int r; rfl
  · cases rb_str r; rfl
theorem rp_rb {G : Hp} {x : V} {d : D} (r : p.Rp G x d) : RpB p G G x d := .of (fun _ _ h => h) r
theorem eqV_of {G H G' H' : Hp} {x y : V} {a b : D} (r1 : RpB p H G x a) (r2 : RpB p H' G' y b) (h1 : flatD a = true) (h2 : flatD b = true) : eqV x y = eqD a b := by
  cases a <;> simp only [flatD, Bool.false_eq_true] at h1 <;> cases b <;> simp only [flatD, Bool.false_eq_true] at h2 <;>
    first
    | (cases rb_non r1; cases rb_non r2; simp [eqD, toPy, PyData.eqv, eqV]; done)
    | (cases rb_non r1; cases rb_int r2; simp [eqD, toPy, PyData.eqv, eqV]; done)
    | (cases rb_non r1; cases rb_bl r2; simp [eqD, toPy, PyData.eqv, eqV]; done)
    | (cases rb_non r1; cases rb_str r2; simp [eqD, toPy, PyData.eqv, eqV]; done)
    | (cases rb_int r1; cases rb_non r2; simp [eqD, toPy, PyData.eqv, eqV]; done)
    | (cases rb_bl r1; cases rb_non r2; simp [eqD, toPy, PyData.eqv, eqV]; done)
    | (cases rb_str r1; cases rb_non r2; simp [eqD, toPy, PyData.eqv, eqV]; done)
    | (cases rb_int r1; cases rb_int r2; simp [eqD, toPy, PyData.eqv, eqV]; done)
    | (cases rb_int r1; cases rb_bl r2; simp [eqD, toPy, PyData.eqv, eqV]; done)
    | (cases rb_bl r1; cases rb_int r2; simp [eqD, toPy, PyData.eqv, eqV]; done)
    | (cases rb_bl r1; cases rb_bl r2; simp [eqD, toPy, PyData.eqv, eqV]; done)
    | (cases rb_str r1; cases rb_str r2; simp [eqD, toPy, PyData.eqv, eqV]; done)
    | (cases rb_int r1; cases rb_str r2; simp [eqD, toPy, PyData.eqv, eqV]; done)
    | (cases rb_str r1; cases rb_int r2; simp [eqD, toPy, PyData.eqv, eqV]; done)
    | (cases rb_bl r1; cases rb_str r2; simp [eqD, toPy, PyData.eqv, eqV]; done)
    | (cases rb_str r1; cases rb_bl r2; simp [eqD, toPy, PyData.eqv, eqV]; done)
theorem flats_of {G H : Hp} {x : V} {a : D} (r1 : RpB p H G x a) (h1 : flatD a = true) : ∀ {xs : List V} {ds : List D}, p.RpA G xs ds → ds.all flatD = true → xs.all flatV = true ∧ inV x xs = inD a ds
  | _, _, .nil, _ => ⟨rfl, rfl⟩
  | _, _, .cons r t, h => by
    rw [List.all_cons, Bool.and_eq_true] at h
    obtain ⟨q1, q2⟩ := flats_of r1 h1 t h.2
    refine ⟨by rw [List.all_cons, flat_of (rp_rb r) h.1, q1] <;> rfl, ?_⟩
    unfold inV inD at q2 ⊢
    rw [List.any_cons, List.any_cons, q2, eqV_of (rp_rb r) r1 h.1 h1]
theorem cm_in (hK : p.K = X.K := by rfl) : CmpR X p .In cIn gIn := ⟨_, op_in_seq.or op_in_str, fun G H x y d1 d2 d Q hs r1 r2 hc hg k1 k2 => by
  have seq : ∀ (ds : List D) (a : Addr) (xs : List V), y = .ref a → (SqL p.K H a xs ∨ SqT p.K H a xs) → p.RpA G xs ds → (flatD d1 = true ∧ ds.all flatD = true) → d = .bl (inD d1 ds) → rIn X.K false x y H Q := fun ds a xs e h k ⟨f1, f2⟩ ed => by
    obtain ⟨q1, q2⟩ := flats_of r1 f1 k f2
    exact ⟨a, xs, e, hK ▸ h, flat_of r1 f1, q1, by rw [q2]; subst ed; exact k1 _ (.bl _)⟩
  cases d2 with
  | tup ds =>
    obtain ⟨a, xs, e, _, h, k⟩ := rb_tup hs r2
    exact .inl (seq ds a xs e (.inr h) k hc (by cases hg; rfl))
  | lst ds =>
    obtain ⟨a, xs, e, h, k⟩ := r2
    exact .inl (seq ds a xs e (.inl (SqL.of h)) k hc (by cases hg; rfl))
  | str b =>
    cases d1 <;> simp only [gIn] at hg <;> cases hg
    cases rb_str r1
    cases rb_str r2
    exact .inr ⟨_, _, rfl, rfl, k1 _ (.bl _)⟩
  | _ => cases d1 <;> simp only [gIn] at hg <;> cases hg⟩
theorem cm_nin (hK : p.K = X.K := by rfl) : CmpR X p .NotIn cIn gNin := ⟨_, op_notIn_seq.or op_notin_str, fun G H x y d1 d2 d Q hs r1 r2 hc hg k1 k2 => by
  have seq : ∀ (ds : List D) (a : Addr) (xs : List V), y = .ref a → (SqL p.K H a xs ∨ SqT p.K H a xs) → p.RpA G xs ds → (flatD d1 = true ∧ ds.all flatD = true) → d = .bl (!inD d1 ds) → rIn X.K true x y H Q := fun ds a xs e h k ⟨f1, f2⟩ ed => by
    obtain ⟨q1, q2⟩ := flats_of r1 f1 k f2
    exact ⟨a, xs, e, hK ▸ h, flat_of r1 f1, q1, by rw [q2]; subst ed; exact k1 _ (.bl _)⟩
  cases d2 with
  | tup ds =>
    obtain ⟨a, xs, e, _, h, k⟩ := rb_tup hs r2
    exact .inl (seq ds a xs e (.inr h) k hc (by cases hg; rfl))
  | lst ds =>
    obtain ⟨a, xs, e, h, k⟩ := r2
    exact .inl (seq ds a xs e (.inl (SqL.of h)) k hc (by cases hg; rfl))
  | str b =>
    cases d1 <;> simp only [gNin] at hg <;> cases hg
    cases rb_str r1
    cases rb_str r2
    exact .inr ⟨_, _, rfl, rfl, k1 _ (.bl _)⟩
  | _ => cases d1 <;> simp only [gNin] at hg <;> cases hg⟩
section
variable {op op2 : CmpOp} {c c2 : D → D → Prop} {g g2 : D → D → Option D} {i : Nat}
theorem pd_cmp (R : CmpR X p op c g) (ha : PE X a (lift p wa)) (hb : PE X b (lift p wb)) (hm : behindInMarks op b = false := by first | exact nomark _ | with_unfolding_all rfl) : PE X (.Compare a [op] [b] pos) (lift p (wBin c g wa wb)) := by
  obtain ⟨r, h1, h2⟩ := R.ex
  exact PE.imp (pe_cmpR h1 ha hb hm) (op_lift h2)
theorem pd_cmpV (R : CmpR X p op c g) (ha : PE X a (tVar i)) (hb : PE X b (lift p wb)) (hm : behindInMarks op b = false := by first | exact nomark _ | with_unfolding_all rfl) : PE X (.Compare a [op] [b] pos) (lift p (wBinV c g i wb)) := by
  obtain ⟨r, h1, h2⟩ := R.ex
  exact PE.imp (pe_cmpR h1 ha hb hm) (opV_lift h2)
theorem pd_cmpR (R : CmpR X p op c g) (ha : PE X a (lift p wa)) (hb : PE X b (tVar i)) (hm : behindInMarks op b = false := by first | exact nomark _ | with_unfolding_all rfl) : PE X (.Compare a [op] [b] pos) (lift p (wBinR c g wa i)) := by
  obtain ⟨r, h1, h2⟩ := R.ex
  exact PE.imp (pe_cmpR h1 ha hb hm) (opR_lift h2)
end

/-! ### tests -/
def wT (w : W) : WT := ⟨fun s P => w.f s fun d s1 => get (match d with | .bl b => some b | _ => none) fun b => P b s1, fun s P P' h q => w.mono _ _ _ (fun d s1 q => get_mono (fun b => h b s1) q) q⟩
theorem bl_of {d : D} {P : Bool → Prop} (h : get (match d with | .bl b => some b | _ => none) P) : ∃ b, d = .bl b ∧ P b := by
  obtain ⟨b, e, q⟩ := get_of h
  cases d <;> cases e
  exact ⟨_, rfl, q⟩
theorem test_lift {t : TE} (i : ∀ σ H Q, lift p w σ H Q → t σ H Q) (σ : St) (H : Hp) (Q : Bool → Hp → Prop) (h : liftT p (wT w) σ H Q) : tTest t σ H Q := by
  obtain ⟨G, s, R, k⟩ := h
  refine i σ H _ ⟨G, s, R, w.mono _ _ _ (fun d s1 k1 v H1 G1 e1 R1 r1 => ?_) k⟩
  obtain ⟨b, rfl, k2⟩ := bl_of k1
  cases r1
  exact ⟨b, rfl, k2 H1 G1 e1 R1⟩
section
variable {op op2 : CmpOp} {c c2 : D → D → Prop} {g g2 : D → D → Option D} {i : Nat}
theorem td_cmp (R : CmpR X p op c g) (ha : PE X a (lift p wa)) (hb : PE X b (lift p wb)) (hm : behindInMarks op b = false := by first | exact nomark _ | with_unfolding_all rfl) : PT X (.Compare a [op] [b] pos) (liftT p (wT (wBin c g wa wb))) := by
  obtain ⟨r, h1, h2⟩ := R.ex
  exact PT.imp (pt_cmpR h1 ha hb hm) (test_lift (op_lift h2))
theorem td_cmpV (R : CmpR X p op c g) (ha : PE X a (tVar i)) (hb : PE X b (lift p wb)) (hm : behindInMarks op b = false := by first | exact nomark _ | with_unfolding_all rfl) : PT X (.Compare a [op] [b] pos) (liftT p (wT (wBinV c g i wb))) := by
  obtain ⟨r, h1, h2⟩ := R.ex
  exact PT.imp (pt_cmpR h1 ha hb hm) (test_lift (opV_lift h2))
theorem td_cmpR (R : CmpR X p op c g) (ha : PE X a (lift p wa)) (hb : PE X b (tVar i)) (hm : behindInMarks op b = false := by first | exact nomark _ | with_unfolding_all rfl) : PT X (.Compare a [op] [b] pos) (liftT p (wT (wBinR c g wa i))) := by
  obtain ⟨r, h1, h2⟩ := R.ex
  exact PT.imp (pt_cmpR h1 ha hb hm) (test_lift (opR_lift h2))
/-- a <= b <= c -/
def wChain (c c' : D → D → Prop) (g g' : D → D → Option D) (wa wb wc : W) : W := ⟨fun s P => wa.f s fun d1 s1 => wb.f s1 fun d2 s2 => c d1 d2 ∧ get (g d1 d2) fun z => get (match z with | .bl b => some b | _ => none) fun k =>
    if k = true then wc.f s2 fun d3 s3 => c' d2 d3 ∧ get (g' d2 d3) fun d => P d s3 else P (.bl false) s2,
  fun s P P' h q => wa.mono _ _ _ (fun d1 s1 q => wb.mono _ _ _ (fun d2 s2 q => ⟨q.1, get_mono (fun z q => get_mono (fun k q => by
    cases k with
    | true => exact wc.mono _ _ _ (fun d3 s3 q => ⟨q.1, get_mono (fun d => h d s3) q.2⟩) q
    | false => exact h _ _ q) q) q.2⟩) q) q⟩
theorem chain_lift {wc : W} {r r' : R2} (h1 : OpD p r c g) (h2 : OpD p r' c2 g2) (σ : St) (H : Hp) (Q : VK) (h : lift p (wChain c c2 g g2 wa wb wc) σ H Q) : tChain r r' (lift p wa) (lift p wb) (lift p wc) σ H Q := by
  obtain ⟨G, s, R, k⟩ := h
  refine ⟨G, s, R, wa.mono _ _ _ (fun d1 s1 k1 x H1 G1 e1 R1 r1 => ⟨G1, s1, R1, wb.mono _ _ _ (fun d2 s2 k2 y H2 G2 e2 R2 r2 => ?_) k1⟩) k⟩
  obtain ⟨kc, kg⟩ := k2
  obtain ⟨z, ez, kz⟩ := get_of kg
  obtain ⟨b, rfl, kb⟩ := bl_of kz
  refine h1 G2 H2 x y d1 d2 _ _ R2.sub (.of R2.sub (r1.mono e2)) (.of R2.sub r2) kc ez (fun v rv => ?_) fun a o ha ra => by cases ra
  cases rv
  refine ⟨b, rfl, ?_⟩
  cases b with
  | false => exact kb _ H2 G2 (e1.trans e2) R2 (.bl _)
  | true =>
    refine ⟨G2, s2, R2, wc.mono _ _ _ (fun d3 s3 k3 u H3 G3 e3 R3 r3 => ?_) kb⟩
    obtain ⟨kc3, kg3⟩ := k3
    obtain ⟨d, ed, kd⟩ := get_of kg3
    exact h2 G3 H3 y u d2 d3 d Q R3.sub (.of R3.sub (r2.mono e3)) (.of R3.sub r3) kc3 ed (fun v rv => kd v H3 G3 ((e1.trans e2).trans e3) R3 rv) fun a o ha ra => kd _ _ _ (((e1.trans e2).trans e3).trans (Same.upd (R3.sub.none ha))) (R3.alloc ha) ra
theorem pd_chain {wc : W} {cc : Expr} (R : CmpR X p op c g) (R2 : CmpR X p op2 c2 g2) (ha : PE X a (lift p wa)) (hb : PE X b (lift p wb)) (hc : PE X cc (lift p wc)) (hm : lastMarks [op, op2] [b, cc] = false := by with_unfolding_all rfl) :
    PE X (.Compare a [op, op2] [b, cc] pos) (lift p (wChain c c2 g g2 wa wb wc)) := by
  obtain ⟨r, h1, h2⟩ := R.ex
  obtain ⟨r', h3, h4⟩ := R2.ex
  exact PE.imp (pe_chain h1 h3 ha hb hc hm) (chain_lift h2 h4)
theorem td_chain {wc : W} {cc : Expr} (R : CmpR X p op c g) (R2 : CmpR X p op2 c2 g2) (ha : PE X a (lift p wa)) (hb : PE X b (lift p wb)) (hc : PE X cc (lift p wc)) (hm : lastMarks [op, op2] [b, cc] = false := by with_unfolding_all rfl) :
    PT X (.Compare a [op, op2] [b, cc] pos) (liftT p (wT (wChain c c2 g g2 wa wb wc))) := by
  obtain ⟨r, h1, h2⟩ := R.ex
  obtain ⟨r', h3, h4⟩ := R2.ex
  exact PT.imp (pt_chain h1 h3 ha hb hc hm) (test_lift (chain_lift h2 h4))
end
/-- truth of any data -/
def truD : D → Option Bool
  | .non => some false
  | .bl b => some b
  | .int i => some (i != 0)
  | .str x => some ((x.length : Int) != 0)
  | .lst xs => some (!xs.isEmpty)
  | .tup xs => some (!xs.isEmpty)
  | .dic0 => some false
  | .drw => none
  | .exc _ _ _ => none
def cTru : D → Prop
  | .str x => x.length ≤ sizeLine
  | _ => True
def wTru (w : W) : WT := ⟨fun s P => w.f s fun d s1 => cTru d ∧ get (truD d) fun b => P b s1, fun s P P' h q => w.mono _ _ _ (fun d s1 q => ⟨q.1, get_mono (fun b => h b s1) q.2⟩) q⟩
def wTruV (i : Nat) : WT := ⟨fun s P => get (vget s.env i) fun d => cTru d ∧ get (truD d) fun b => P b s, fun s P P' h q => get_mono (fun d q => ⟨q.1, get_mono (fun b => h b s) q.2⟩) q⟩
theorem RpA.isEmpty {K : PySem.W.Frag} {dr : Option Addr} {G : Hp} {xs : List V} {ds : List D} (h : RpA K dr G xs ds) : xs.isEmpty = ds.isEmpty := by
  cases h <;> rfl
theorem tru_of {G H : Hp} {x : V} {d : D} {b : Bool} (hs : Sub G H) (r : RpB p H G x d) (c : cTru d) (h : truD d = some b) : TruV p.K x H b := by
  cases d <;> simp only [truD] at h <;> cases h
  · cases rb_non r; rfl
  · cases rb_bl r; rfl
  · cases rb_int r; rfl
  · cases rb_str r; exact ⟨c, rfl⟩
  · obtain ⟨a, xs, rfl, h, k⟩ := r
    exact .inl ⟨xs, SqL.of h, by rw [k.isEmpty]⟩
  · obtain ⟨a, xs, rfl, _, h, k⟩ := rb_tup hs r
    exact .inr (.inl ⟨xs, h, by rw [k.isEmpty]⟩)
  · have r' : p.Rp G x .dic0 := r
    cases r' with
    | dic0 h _ => exact .inr (.inr ⟨_, hs _ _ h, rfl⟩)
theorem td_tru (ha : PE X a (lift p w)) (hK : p.K = X.K := by rfl) (he : ∀ whole, isTrue a X.env whole = (do let v ← whole; standAt a.pos; holding [v] (truthy v)) := by intro _; rfl) : PT X a (liftT p (wTru w)) :=
  PT.imp (pt_truth ha he) fun σ H Q ⟨G, s, R, k⟩ => ⟨G, s, R, w.mono _ _ _ (fun d s1 k1 x H1 G1 e1 R1 r1 => by
    obtain ⟨kc, kg⟩ := k1
    obtain ⟨b, eb, kb⟩ := get_of kg
    exact ⟨b, hK ▸ tru_of R1.sub (.of R1.sub r1) kc eb, kb H1 G1 e1 R1⟩) k⟩
theorem td_truV (i : Nat) (ha : PE X a (tVar i)) (hK : p.K = X.K := by rfl) (he : ∀ whole, isTrue a X.env whole = (do let v ← whole; standAt a.pos; holding [v] (truthy v)) := by intro _; rfl) : PT X a (liftT p (wTruV i)) :=
  PT.imp (pt_truth ha he) fun σ H Q ⟨G, s, R, k⟩ => by
    obtain ⟨d, ed, kc, kg⟩ := get_of k
    obtain ⟨b, eb, kb⟩ := get_of kg
    obtain ⟨x, ex, rx⟩ := vget_rb R ed
    exact ⟨x, ex, b, hK ▸ tru_of R.sub rx kc eb, kb H G (Same.refl G) R⟩
/-- an expression that gives a truth -/
theorem td_val (ha : PE X a (lift p w)) (he : ∀ whole, isTrue a X.env whole = (do let v ← whole; standAt a.pos; holding [v] (truthy v)) := by intro _; rfl) : PT X a (liftT p (wT w)) :=
  PT.imp (pt_val ha he) (test_lift fun _ _ _ q => q)
variable {t1 t2 : WT} {rest : List Expr}
def tAndD (t u : WT) : WT := ⟨fun s P => t.f s fun b s1 => if b = true then u.f s1 P else P false s1, fun s P P' h q => t.mono _ _ _ (fun b s1 q => by
  cases b with
  | true => exact u.mono _ _ _ h q
  | false => exact h _ _ q) q⟩
def tOrD (t u : WT) : WT := ⟨fun s P => t.f s fun b s1 => if b = true then P true s1 else u.f s1 P, fun s P P' h q => t.mono _ _ _ (fun b s1 q => by
  cases b with
  | false => exact u.mono _ _ _ h q
  | true => exact h _ _ q) q⟩
def tNotD (t : WT) : WT := ⟨fun s P => t.f s fun b s1 => P (!b) s1, fun s P P' h q => t.mono _ _ _ (fun b s1 q => h _ _ q) q⟩
theorem PW.imp {t t' : TT} (h : PW X e t) (i : ∀ σ H Q, t' σ H Q → t σ H Q) : PW X e t' := ⟨fun wh pins s σ H Q I q => h.run wh pins s σ H Q I (i σ H Q q)⟩
theorem wd_and1 (ha : PT X a (liftT p t1)) : PW X (.BoolOp .And [a] pos) (liftT p t1) := pw_and1 ha
theorem wd_or1 (ha : PT X a (liftT p t1)) : PW X (.BoolOp .Or [a] pos) (liftT p t1) := pw_or1 ha
theorem wd_and (ha : PT X a (liftT p t1)) (hb : PW X (.BoolOp .And (b :: rest) pos) (liftT p t2)) : PW X (.BoolOp .And (a :: b :: rest) pos) (liftT p (tAndD t1 t2)) :=
  PW.imp (pw_and ha hb) fun σ H Q ⟨G, s, R, k⟩ => ⟨G, s, R, t1.mono _ _ _ (fun b s1 k1 H1 G1 e1 R1 => by
    cases b with
    | true => exact ⟨G1, s1, R1, t2.mono _ _ _ (fun b2 s2 k2 H2 G2 e2 R2 => k2 H2 G2 (e1.trans e2) R2) k1⟩
    | false => exact k1 H1 G1 e1 R1) k⟩
theorem wd_or (ha : PT X a (liftT p t1)) (hb : PW X (.BoolOp .Or (b :: rest) pos) (liftT p t2)) : PW X (.BoolOp .Or (a :: b :: rest) pos) (liftT p (tOrD t1 t2)) :=
  PW.imp (pw_or ha hb) fun σ H Q ⟨G, s, R, k⟩ => ⟨G, s, R, t1.mono _ _ _ (fun b s1 k1 H1 G1 e1 R1 => by
    cases b with
    | false => exact ⟨G1, s1, R1, t2.mono _ _ _ (fun b2 s2 k2 H2 G2 e2 R2 => k2 H2 G2 (e1.trans e2) R2) k1⟩
    | true => exact k1 H1 G1 e1 R1) k⟩
theorem td_not (ha : PT X a (liftT p t1)) : PT X (.UnaryOp .Not a pos) (liftT p (tNotD t1)) :=
  PT.imp (pt_not ha) fun σ H Q ⟨G, s, R, k⟩ => ⟨G, s, R, k⟩
/-- and, or, not as values, of truths -/
def wAndV (wa wb : W) : W := ⟨fun s P => wa.f s fun d s1 => get (match d with | .bl b => some b | _ => none) fun b => if b = true then wb.f s1 P else P (.bl false) s1, fun s P P' h q => wa.mono _ _ _ (fun d s1 q => get_mono (fun b q => by
  cases b with
  | true => exact wb.mono _ _ _ h q
  | false => exact h _ _ q) q) q⟩
def wOrV (wa wb : W) : W := ⟨fun s P => wa.f s fun d s1 => get (match d with | .bl b => some b | _ => none) fun b => if b = true then P (.bl true) s1 else wb.f s1 P, fun s P P' h q => wa.mono _ _ _ (fun d s1 q => get_mono (fun b q => by
  cases b with
  | false => exact wb.mono _ _ _ h q
  | true => exact h _ _ q) q) q⟩
def wNotV (wa : W) : W := ⟨fun s P => wa.f s fun d s1 => get (match d with | .bl b => some b | _ => none) fun b => P (.bl (!b)) s1, fun s P P' h q => wa.mono _ _ _ (fun d s1 q => get_mono (fun b q => h _ _ q) q) q⟩
theorem pd_one {op} (h : PE X a (lift p w)) : PE X (.BoolOp op [a] pos) (lift p w) := pe_one h
theorem pd_and (ha : PE X a (lift p wa)) (hb : PE X (.BoolOp .And (b :: rest) pos) (lift p wb)) : PE X (.BoolOp .And (a :: b :: rest) pos) (lift p (wAndV wa wb)) :=
  PE.imp (pe_and ha hb) fun σ H Q ⟨G, s, R, k⟩ => ⟨G, s, R, wa.mono _ _ _ (fun d s1 k1 x H1 G1 e1 R1 r1 => by
    obtain ⟨b, rfl, k2⟩ := bl_of k1
    cases r1
    refine ⟨b, rfl, ?_⟩
    cases b with
    | true => exact ⟨G1, s1, R1, wb.mono _ _ _ (fun d2 s2 k2 v H2 G2 e2 R2 => k2 v H2 G2 (e1.trans e2) R2) k2⟩
    | false => exact k2 _ H1 G1 e1 R1 (.bl _)) k⟩
theorem pd_or (ha : PE X a (lift p wa)) (hb : PE X (.BoolOp .Or (b :: rest) pos) (lift p wb)) : PE X (.BoolOp .Or (a :: b :: rest) pos) (lift p (wOrV wa wb)) :=
  PE.imp (pe_or ha hb) fun σ H Q ⟨G, s, R, k⟩ => ⟨G, s, R, wa.mono _ _ _ (fun d s1 k1 x H1 G1 e1 R1 r1 => by
    obtain ⟨b, rfl, k2⟩ := bl_of k1
    cases r1
    refine ⟨b, rfl, ?_⟩
    cases b with
    | false => exact ⟨G1, s1, R1, wb.mono _ _ _ (fun d2 s2 k2 v H2 G2 e2 R2 => k2 v H2 G2 (e1.trans e2) R2) k2⟩
    | true => exact k2 _ H1 G1 e1 R1 (.bl _)) k⟩
theorem pd_not (ha : PE X a (lift p wa)) : PE X (.UnaryOp .Not a pos) (lift p (wNotV wa)) :=
  PE.imp (pe_not ha) fun σ H Q ⟨G, s, R, k⟩ => ⟨G, s, R, wa.mono _ _ _ (fun d s1 k1 x H1 G1 e1 R1 r1 => by
    obtain ⟨b, rfl, k2⟩ := bl_of k1
    cases r1
    exact ⟨b, rfl, k2 _ H1 G1 e1 R1 (.bl _)⟩) k⟩
def wIf (t : WT) (wa wb : W) : W := ⟨fun s P => t.f s fun b s1 => if b = true then wa.f s1 P else wb.f s1 P, fun s P P' h q => t.mono _ _ _ (fun b s1 q => by
  cases b with
  | true => exact wa.mono _ _ _ h q
  | false => exact wb.mono _ _ _ h q) q⟩
theorem pd_ifExp {c : Expr} (hc : PT X c (liftT p t1)) (ha : PE X a (lift p wa)) (hb : PE X b (lift p wb)) : PE X (.IfExp c a b pos) (lift p (wIf t1 wa wb)) :=
  PE.imp (pe_ifExp hc ha hb) fun σ H Q ⟨G, s, R, k⟩ => ⟨G, s, R, t1.mono _ _ _ (fun b s1 k1 H1 G1 e1 R1 => by
    cases b with
    | true => exact ⟨G1, s1, R1, wa.mono _ _ _ (fun d2 s2 k2 v H2 G2 e2 R2 => k2 v H2 G2 (e1.trans e2) R2) k1⟩
    | false => exact ⟨G1, s1, R1, wb.mono _ _ _ (fun d2 s2 k2 v H2 G2 e2 R2 => k2 v H2 G2 (e1.trans e2) R2) k1⟩) k⟩
end
end DI
/-! Subscripts, displays, arguments, calls. -/
namespace DI
open PySem L2
section
variable {X : Cx} {p : Pl} {e a b : Expr} {es : List Expr} {pos : Pos} {w wa wb : W}

/-! ### subscripts -/
def gIx : D → D → Option D
  | .lst ds, .int i => atI ds i
  | .tup ds, .int i => atI ds i
  | .str z, .int i => (atI z.cps.toList i).map fun c => .str ⟨#[c]⟩
  | _, _ => none
def cIx : D → D → Prop
  | .str z, _ => z.length ≤ sizeLine
  | _, _ => True
theorem RpA.atI {K : PySem.W.Frag} {dr : Option Addr} {G : Hp} {xs : List V} {ds : List D} {i : Int} {d : D} (h : RpA K dr G xs ds) (e : L2.atI ds i = some d) : ∃ v, L2.atI xs i = some v ∧ Rp K dr G v d := by
  unfold L2.atI at e ⊢
  rw [h.length]
  cases q : ixN ds.length i with
  | none => rw [q] at e; cases e
  | some j =>
    rw [q] at e
    exact h.get (i := j) (d := d) e
theorem od_ix (hK : p.K = X.K) : OpD p (rIx X.K) cIx gIx := by
  intro G H x y d1 d2 d Q hs r1 r2 hc hg k1 k2
  cases d1 <;> cases d2 <;> simp only [gIx] at hg <;> try cases hg
  · cases rb_str r1
    cases rb_int r2
    rename_i z i
    cases q : atI z.cps.toList i with
    | none => rw [q] at hg; cases hg
    | some c =>
      rw [q] at hg
      cases hg
      exact .inr (.inr ⟨_, _, c, rfl, rfl, hc, q, k1 _ (.str _)⟩)
  · obtain ⟨a, xs, rfl, h, k⟩ := r1
    cases rb_int r2
    obtain ⟨v, ev, rv⟩ := k.atI hg
    exact .inl ⟨a, xs, _, v, rfl, rfl, SqL.of h, ev, k1 _ rv⟩
  · obtain ⟨a, xs, rfl, _, h, k⟩ := rb_tup hs r1
    cases rb_int r2
    obtain ⟨v, ev, rv⟩ := k.atI hg
    exact .inr (.inl ⟨a, xs, _, v, rfl, rfl, hK ▸ h, ev, k1 _ rv⟩)
theorem pd_ix (ha : PE X a (lift p wa)) (hb : PE X b (lift p wb)) (hK : p.K = X.K := by rfl) (hs : PlainIx b := by exact fun _ _ => rfl) : PE X (.Subscript a b pos) (lift p (wBin cIx gIx wa wb)) := PE.imp (pe_ix ix_seq ha hb hs) (op_lift (od_ix hK))
theorem pd_ixV (i : Nat) (ha : PE X a (tVar i)) (hb : PE X b (lift p wb)) (hK : p.K = X.K := by rfl) (hs : PlainIx b := by exact fun _ _ => rfl) : PE X (.Subscript a b pos) (lift p (wBinV cIx gIx i wb)) := PE.imp (pe_ix ix_seq ha hb hs) (opV_lift (od_ix hK))

/-! ### slices -/
structure WO where
  f : S → (Option Int → S → Prop) → Prop
  mono : ∀ s P P', (∀ d s', P d s' → P' d s') → f s P → f s P'
def liftO (p : Pl) (w : WO) : TO := fun σ H Q => ∃ G s, p.Rs σ H G s ∧ w.f s fun o s' => ∀ H' G', Same G G' → p.Rs σ H' G' s' → Q o H'
def wNoPart : WO := ⟨fun s P => P none s, fun _ _ _ h q => h _ _ q⟩
def wPart (w : W) : WO := ⟨fun s P => w.f s fun d s1 => get (match d with | .int i => some i | _ => none) fun i => P (some i) s1, fun s P P' h q => w.mono _ _ _ (fun d s1 q => get_mono (fun i q => h _ _ q) q) q⟩
theorem od_none : PO X none (liftO p wNoPart) := ⟨fun pins s σ H Q I ⟨G, st, R, k⟩ => po_none.run pins s σ H Q I (k H G (Same.refl G) R)⟩
theorem od_some (h : PE X e (lift p w)) : PO X (some e) (liftO p (wPart w)) := ⟨fun pins s σ H Q I ⟨G, st, R, k⟩ => (po_some h).run pins s σ H Q I ⟨G, st, R, w.mono _ _ _ (fun d s1 k1 v H1 G1 e1 R1 r1 => by
  obtain ⟨i, ei, k2⟩ := get_of k1
  cases d <;> cases ei
  cases r1
  exact ⟨i, rfl, k2 H1 G1 e1 R1⟩) k⟩⟩
def cutL {α : Type} (xs : List α) (lo hi : Option Int) : List α := (xs.drop (HT.sIx xs.length 0 lo)).take (HT.sIx xs.length xs.length hi - HT.sIx xs.length 0 lo)
def gSl : D → Option Int → Option Int → Option D
  | .lst ds, lo, hi => some (.lst (cutL ds lo hi))
  | .tup ds, lo, hi => some (.tup (cutL ds lo hi))
  | .str z, lo, hi => some (.str (cutS z lo hi))
  | _, _, _ => none
def cSl : D → Prop
  | .str z => z.length ≤ sizeLine
  | _ => True
def wSl (wa : W) (lo hi : WO) : W := ⟨fun s P => wa.f s fun d s1 => lo.f s1 fun l s2 => hi.f s2 fun h s3 => cSl d ∧ get (gSl d l h) fun z => P z s3,
  fun s P P' h q => wa.mono _ _ _ (fun d s1 q => lo.mono _ _ _ (fun l s2 q => hi.mono _ _ _ (fun u s3 q => ⟨q.1, get_mono (fun z => h z s3) q.2⟩) q) q) q⟩
def wSlV (i : Nat) (lo hi : WO) : W := ⟨fun s P => get (vget s.env i) fun _ => lo.f s fun l s2 => hi.f s2 fun h s3 => get (vget s3.env i) fun d => cSl d ∧ get (gSl d l h) fun z => P z s3,
  fun s P P' h q => get_mono (fun _ q => lo.mono _ _ _ (fun l s2 q => hi.mono _ _ _ (fun u s3 q => get_mono (fun d q => ⟨q.1, get_mono (fun z => h z s3) q.2⟩) q) q) q) q⟩
theorem RpA.cut {K : PySem.W.Frag} {dr : Option Addr} {G : Hp} {xs : List V} {ds : List D} (h : RpA K dr G xs ds) (lo hi : Option Int) : RpA K dr G (cutV xs lo hi) (cutL ds lo hi) := by
  unfold cutV cutL
  rw [h.length]
  exact (h.drop _).take _
def rSlX (K : PySem.W.Frag) : V → Option Int → Option Int → Hp → VK → Prop := fun x lo hi H Q => rSlL K x lo hi H Q ∨ (rSlA K x lo hi H Q ∨ rSlS x lo hi H Q)
theorem sl_X : L2.SlR X (rSlX X.K) := sl_list.or (sl_tupA.or sl_str)
theorem slx_of {G H : Hp} {x : V} {d z : D} {l h : Option Int} {Q : VK} (hK : p.K = X.K) (hs : Sub G H) (r : RpB p H G x d) (hc : cSl d) (hg : gSl d l h = some z) (k1 : ∀ v, p.Rp G v z → Q v H)
    (k2 : ∀ a o, H a = none → p.Rp (upd G a o) (.ref a) z → Q (.ref a) (upd H a o)) : rSlX X.K x l h H Q := by
  cases d <;> simp only [gSl] at hg <;> cases hg
  · cases rb_str r
    exact .inr (.inr ⟨_, rfl, hc, k1 _ (.str _)⟩)
  · obtain ⟨a, xs, rfl, h1, k⟩ := r
    exact .inl ⟨a, xs, rfl, SqL.of h1, fun q hq => k2 q _ hq (.lst upd_same ((k.cut l h).mono (Same.upd (hs.none hq))))⟩
  · obtain ⟨a, xs, rfl, h0, h1, k⟩ := rb_tup hs r
    refine .inr (.inl ⟨a, xs, rfl, hK ▸ h1, fun ⟨q1, q2⟩ => ?_, fun _ q hq => k2 q _ hq (.tup (.inl (.inl upd_same)) ((k.cut l h).mono (Same.upd (hs.none hq))))⟩)
    have e : cutL ‹List D› l h = ‹List D› := by
      unfold cutL
      rw [k.length] at q1 q2
      rw [q1, q2]
      simp
    rw [e] at k1
    exact k1 _ (.tup h0 k)
theorem pd_sl {p2 : Pos} {lo hi : Option Expr} {wl wh : WO} (ha : PE X a (lift p wa)) (hl : PO X lo (liftO p wl)) (hh : PO X hi (liftO p wh)) (hK : p.K = X.K := by rfl) : PE X (.Subscript a (.Slice lo hi none p2) pos) (lift p (wSl wa wl wh)) :=
  PE.imp (pe_slice sl_X ha hl hh) fun σ H Q ⟨G, s, R, k⟩ => ⟨G, s, R, wa.mono _ _ _ (fun d s1 k1 x H1 G1 e1 R1 r1 => ⟨G1, s1, R1, wl.mono _ _ _ (fun l s2 k2 H2 G2 e2 R2 => ⟨G2, s2, R2, wh.mono _ _ _ (fun u s3 k3 H3 G3 e3 R3 => by
    obtain ⟨kc, kg⟩ := k3
    obtain ⟨z, ez, kz⟩ := get_of kg
    have e13 := (e1.trans e2).trans e3
    exact slx_of hK R3.sub (.of R3.sub (r1.mono (e2.trans e3))) kc ez (fun v rv => kz v H3 G3 e13 R3 rv) fun q o hq rq => kz _ _ _ (e13.trans (Same.upd (R3.sub.none hq))) (R3.alloc hq) rq) k2⟩) k1⟩) k⟩
theorem pd_slV {p2 : Pos} {lo hi : Option Expr} {wl wh : WO} (i : Nat) (ha : PE X a (tVar i)) (hl : PO X lo (liftO p wl)) (hh : PO X hi (liftO p wh)) (hK : p.K = X.K := by rfl) : PE X (.Subscript a (.Slice lo hi none p2) pos) (lift p (wSlV i wl wh)) :=
  PE.imp (pe_slice sl_X ha hl hh) fun σ H Q ⟨G, s, R, k⟩ => by
    obtain ⟨d0, e0, k⟩ := get_of k
    obtain ⟨x, hx, _⟩ := vget_rb R e0
    refine ⟨x, hx, G, s, R, wl.mono _ _ _ (fun l s2 k2 H2 G2 e2 R2 => ⟨G2, s2, R2, wh.mono _ _ _ (fun u s3 k3 H3 G3 e3 R3 => ?_) k2⟩) k⟩
    obtain ⟨d, ed, kc, kg⟩ := get_of k3
    obtain ⟨x', ex, rx⟩ := vget_rb R3 ed
    rw [hx] at ex
    cases ex
    obtain ⟨z, ez, kz⟩ := get_of kg
    have e13 := e2.trans e3
    exact slx_of hK R3.sub rx kc ez (fun v rv => kz v H3 G3 e13 R3 rv) fun q o hq rq => kz _ _ _ (e13.trans (Same.upd (R3.sub.none hq))) (R3.alloc hq) rq
/-- xs[::-1] of a list -/
def gRev : D → Option D
  | .lst ds => some (.lst ds.reverse)
  | _ => none
def wRev (wa : W) : W := ⟨fun s P => wa.f s fun d s1 => get (gRev d) fun z => P z s1, fun s P P' h q => wa.mono _ _ _ (fun d s1 q => get_mono (fun z => h z s1) q) q⟩
def wRevV (i : Nat) : W := ⟨fun s P => get (vget s.env i) fun d => get (gRev d) fun z => P z s, fun s P P' h q => get_mono (fun d q => get_mono (fun z => h z s) q) q⟩
theorem pd_rev {k : Nat} {p1 p2 p3 : Pos} (ha : PE X a (lift p wa)) : PE X (.Subscript a (.Slice none none (some (.UnaryOp .USub (.Constant (.int 1) k p1) p2)) p3) pos) (lift p (wRev wa)) :=
  PE.imp (pe_revL ha) fun σ H Q ⟨G, s, R, k⟩ => ⟨G, s, R, wa.mono _ _ _ (fun d s1 k1 x H1 G1 e1 R1 r1 => by
    obtain ⟨z, ez, kz⟩ := get_of k1
    cases d <;> cases ez
    cases r1 with
    | lst h k => exact ⟨_, _, rfl, SqL.of (R1.sub _ _ h), fun q hq => kz _ _ _ (e1.trans (Same.upd (R1.sub.none hq))) (R1.alloc hq) (.lst upd_same (k.reverse.mono (Same.upd (R1.sub.none hq))))⟩) k⟩
theorem pd_revV {k : Nat} {p1 p2 p3 : Pos} (i : Nat) (ha : PE X a (tVar i)) : PE X (.Subscript a (.Slice none none (some (.UnaryOp .USub (.Constant (.int 1) k p1) p2)) p3) pos) (lift p (wRevV i)) :=
  PE.imp (pe_revL ha) fun σ H Q ⟨G, s, R, k⟩ => by
    obtain ⟨d, ed, k⟩ := get_of k
    obtain ⟨z, ez, kz⟩ := get_of k
    obtain ⟨x, hx, rx⟩ := vget_rb R ed
    cases d <;> cases ez
    obtain ⟨q, xs, rfl, h, k⟩ := rx
    exact ⟨_, hx, q, xs, rfl, SqL.of h, fun q hq => kz _ _ _ (Same.upd (R.sub.none hq)) (R.alloc hq) (.lst upd_same (k.reverse.mono (Same.upd (R.sub.none hq))))⟩

/-! ### arguments -/
/-- values by their modes: borrowed, or plain data -/
inductive RpM (p : Pl) (H G : Hp) : List Bool → List V → List D → Prop
  | nil : RpM p H G [] [] []
  | val {v : V} {d : D} {ms : List Bool} {vs : List V} {ds : List D} : p.Rp G v d → RpM p H G ms vs ds → RpM p H G (false :: ms) (v :: vs) (d :: ds)
  | bor {v : V} {d : D} {ms : List Bool} {vs : List V} {ds : List D} : RpB p H G v d → RpM p H G ms vs ds → RpM p H G (true :: ms) (v :: vs) (d :: ds)
def liftM (p : Pl) (ms : List Bool) (w : WA) : TA := fun σ H Q => ∃ G s, p.Rs σ H G s ∧ w.f s fun ds s' => ∀ vs H' G', Same G G' → p.Rs σ H' G' s' → RpM p H' G' ms vs ds → Q vs H'
def waNil : WA := ⟨fun s P => P [] s, fun _ _ _ h q => h _ _ q⟩
def waCons (w : W) (t : WA) : WA := ⟨fun s P => w.f s fun d s1 => t.f s1 fun ds s2 => P (d :: ds) s2, fun s P P' h q => w.mono _ _ _ (fun d s1 q => t.mono _ _ _ (fun ds s2 q => h _ _ q) q) q⟩
def waBor (i : Nat) (t : WA) : WA := ⟨fun s P => get (vget s.env i) fun _ => t.f s fun ds s2 => get (vget s2.env i) fun d => P (d :: ds) s2, fun s P P' h q => get_mono (fun _ q => t.mono _ _ _ (fun ds s2 q => get_mono (fun d q => h _ _ q) q) q) q⟩
variable {ms : List Bool} {t : WA}
theorem ad_nil : PA X [] (liftM p [] waNil) := PA.imp pa_nil fun σ H Q ⟨G, s, R, k⟩ => k [] H G (Same.refl G) R .nil
theorem ad_cons (h : PE X e (lift p w)) (ht : PA X es (liftM p ms t)) (hs : starEach (e :: es) X.env = (false, eval e X.env) :: starEach es X.env := by rfl) : PA X (e :: es) (liftM p (false :: ms) (waCons w t)) :=
  PA.imp (pa_cons h ht hs) fun σ H Q ⟨G, s, R, k⟩ => ⟨G, s, R, w.mono _ _ _ (fun d s1 k1 v H1 G1 e1 R1 r1 => ⟨G1, s1, R1, t.mono _ _ _ (fun ds s2 k2 vs H2 G2 e2 R2 r2 => k2 _ H2 G2 (e1.trans e2) R2 (.val (r1.mono e2) r2)) k1⟩) k⟩
theorem ad_bor (i : Nat) (h : PE X e (tVar i)) (ht : PA X es (liftM p ms t)) (hs : starEach (e :: es) X.env = (false, eval e X.env) :: starEach es X.env := by rfl) : PA X (e :: es) (liftM p (true :: ms) (waBor i t)) :=
  PA.imp (pa_cons h ht hs) fun σ H Q ⟨G, s, R, k⟩ => by
    obtain ⟨d0, e0, k⟩ := get_of k
    obtain ⟨x, hx, _⟩ := vget_rb R e0
    refine ⟨x, hx, G, s, R, t.mono _ _ _ (fun ds s2 k2 vs H2 G2 e2 R2 r2 => ?_) k⟩
    obtain ⟨d, ed, kd⟩ := get_of k2
    obtain ⟨x', ex, rx⟩ := vget_rb R2 ed
    rw [hx] at ex
    cases ex
    exact kd _ H2 G2 e2 R2 (.bor rx r2)
/-- all plain -/
theorem RpM.all {H G : Hp} : ∀ {ms : List Bool} {vs : List V} {ds : List D}, RpM p H G ms vs ds → (∀ m ∈ ms, m = false) → p.RpA G vs ds
  | _, _, _, .nil, _ => .nil
  | _, _, _, .val r t, h => .cons r (RpM.all t fun m hm => h m (List.mem_cons_of_mem _ hm))
  | _, _, _, .bor r t, h => nomatch h true List.mem_cons_self
theorem RpM.length {H G : Hp} : ∀ {ms : List Bool} {vs : List V} {ds : List D}, RpM p H G ms vs ds → vs.length = ms.length ∧ ds.length = ms.length
  | _, _, _, .nil => ⟨rfl, rfl⟩
  | _, _, _, .val r t => ⟨by rw [List.length_cons, List.length_cons, (RpM.length t).1], by rw [List.length_cons, List.length_cons, (RpM.length t).2]⟩
  | _, _, _, .bor r t => ⟨by rw [List.length_cons, List.length_cons, (RpM.length t).1], by rw [List.length_cons, List.length_cons, (RpM.length t).2]⟩
theorem allF_replicate {n : Nat} : ∀ m ∈ List.replicate n false, m = false := fun m h => (List.mem_replicate.mp h).2

/-! ### displays -/
def wTup (t : WA) : W := ⟨fun s P => t.f s fun ds s1 => ds.length ≤ sizeLine ∧ P (.tup ds) s1, fun s P P' h q => t.mono _ _ _ (fun ds s1 q => ⟨q.1, h _ _ q.2⟩) q⟩
def wLst (t : WA) : W := ⟨fun s P => t.f s fun ds s1 => ds.length ≤ sizeLine ∧ P (.lst ds) s1, fun s P P' h q => t.mono _ _ _ (fun ds s1 q => ⟨q.1, h _ _ q.2⟩) q⟩
theorem pd_tup {x1} (h : PA X es (liftM p ms t)) (hm : ∀ m ∈ ms, m = false := by decide) : PE X (.Tuple es x1 pos) (lift p (wTup t)) :=
  PE.imp (pe_tup h) fun σ H Q ⟨G, s, R, k⟩ => ⟨G, s, R, t.mono _ _ _ (fun ds s1 k1 vs H1 G1 e1 R1 r1 => by
    have ra := r1.all hm
    exact ⟨by rw [ra.length]; exact k1.1, fun q hq => k1.2 _ _ _ (e1.trans (Same.upd (R1.sub.none hq))) (R1.alloc hq) (.tup (.inl (.inl upd_same)) (ra.mono (Same.upd (R1.sub.none hq))))⟩) k⟩
theorem pd_lst (h : PA X es (liftM p ms t)) (hm : ∀ m ∈ ms, m = false := by decide) : PE X (.List es pos) (lift p (wLst t)) :=
  PE.imp (pe_lst h) fun σ H Q ⟨G, s, R, k⟩ => ⟨G, s, R, t.mono _ _ _ (fun ds s1 k1 vs H1 G1 e1 R1 r1 => by
    have ra := r1.all hm
    exact ⟨by rw [ra.length]; exact k1.1, fun q hq => k1.2 _ _ _ (e1.trans (Same.upd (R1.sub.none hq))) (R1.alloc hq) (.lst upd_same (ra.mono (Same.upd (R1.sub.none hq))))⟩) k⟩

/-! ### calls of built-ins -/
def CallD (p : Pl) (r : List V → Hp → VK → Prop) (ms : List Bool) (c : List D → Prop) (g : List D → Option D) : Prop :=
  ∀ (G H : Hp) (vs : List V) (ds : List D) (d : D) (Q : VK), Sub G H → RpM p H G ms vs ds → c ds → g ds = some d → (∀ v, p.Rp G v d → Q v H) → (∀ a o, H a = none → p.Rp (upd G a o) (.ref a) d → Q (.ref a) (upd H a o)) → r vs H Q
def wFn (c : List D → Prop) (g : List D → Option D) (t : WA) : W := ⟨fun s P => t.f s fun ds s1 => c ds ∧ get (g ds) fun d => P d s1, fun s P P' h q => t.mono _ _ _ (fun ds s1 q => ⟨q.1, get_mono (fun d => h d s1) q.2⟩) q⟩
theorem fn_lift {r : List V → Hp → VK → Prop} {c : List D → Prop} {g : List D → Option D} (hd : CallD p r ms c g) (σ : St) (H : Hp) (Q : VK) (h : lift p (wFn c g t) σ H Q) : tCB r (liftM p ms t) σ H Q := by
  obtain ⟨G, s, R, k⟩ := h
  refine ⟨G, s, R, t.mono _ _ _ (fun ds s1 k1 vs H1 G1 e1 R1 r1 => ?_) k⟩
  obtain ⟨kc, kg⟩ := k1
  obtain ⟨d, ed, kd⟩ := get_of kg
  exact hd G1 H1 vs ds d Q R1.sub r1 kc ed (fun v rv => kd v H1 G1 e1 R1 rv) fun q o hq rq => kd _ _ _ (e1.trans (Same.upd (R1.sub.none hq))) (R1.alloc hq) rq
/-- a built-in: its name, its value, its rule by data -/
structure BtR (X : Cx) (p : Pl) (x : Str) (ms : List Bool) (c : List D → Prop) (g : List D → Option D) : Prop where
  ex : (∃ (id : String) (r : List V → Hp → VK → Prop), bootBuiltins x = some (.builtin id) ∧ CallR X (.builtin id) r ∧ CallD p r ms c g) ∨ (∃ (T : String) (r : List V → Hp → VK → Prop), bootBuiltins x = some (.type T) ∧ CallR X (.type T) r ∧ CallD p r ms c g)
theorem pd_bt {x : Str} {pf : Pos} {c : List D → Prop} {g : List D → Option D} (B : BtR X p x ms c g) (hm : X.mg x = none) (ha : PA X (e :: es) (liftM p ms t)) (hg : Gl X x := by rfl) (hn : x ≠ "__name__" := by decide) (hdb : (x == ("__debug__" : Str)) = false := by decide)
    (hs : starEach (e :: es) X.env = (false, eval e X.env) :: starEach es X.env := by rfl) (hpl : (backTo pos (starEach es X.env)).any (·.1) = false := by rfl) : PE X (.Call (.Name x pf) (e :: es) [] pos) (lift p (wFn c g t)) := by
  rcases B.ex with ⟨id, r, hv, h1, h2⟩ | ⟨T, r, hv, h1, h2⟩
  · exact PE.imp (pe_callB h1 hg hm hv ha hn hdb hs hpl) (fn_lift h2)
  · exact PE.imp (pe_callTy h1 hg hm hv ha hn hdb hs hpl) (fn_lift h2)
def c0 : List D → Prop := fun _ => True
theorem rm1 {H G : Hp} {m : Bool} {vs : List V} {ds : List D} (hs : Sub G H) (h : RpM p H G [m] vs ds) : ∃ v d, vs = [v] ∧ ds = [d] ∧ RpB p H G v d := by
  cases h with
  | val r t => cases t; exact ⟨_, _, rfl, rfl, .of hs r⟩
  | bor r t => cases t; exact ⟨_, _, rfl, rfl, r⟩
/-- len -/
def gLen : List D → Option D
  | [.lst ds] => some (.int ds.length)
  | [.tup ds] => some (.int ds.length)
  | [.str z] => some (.int z.length)
  | [.dic0] => some (.int 0)
  | _ => none
def cLen : List D → Prop
  | [.str z] => z.length ≤ sizeLine
  | [.dic0] => False
  | _ => True
theorem bt_len {m : Bool} (hK : p.K = X.K := by rfl) : BtR X p "len" [m] cLen gLen := ⟨.inl ⟨_, _, PySem.boot_len, call_len_seq.or call_len_str, fun G H vs ds d Q hs r hc hg k1 k2 => by
  obtain ⟨v, d0, rfl, rfl, rb⟩ := rm1 hs r
  cases d0 <;> simp only [gLen] at hg <;> cases hg
  · cases rb_str rb
    exact .inr ⟨_, rfl, hc, k1 _ (.int _)⟩
  · obtain ⟨a, xs, rfl, h, k⟩ := rb
    exact .inl ⟨a, xs, rfl, .inl (SqL.of h), by rw [k.length]; exact k1 _ (.int _)⟩
  · obtain ⟨a, xs, rfl, _, h, k⟩ := rb_tup hs rb
    exact .inl ⟨a, xs, rfl, .inr (hK ▸ h), by rw [k.length]; exact k1 _ (.int _)⟩
  · exact hc.elim⟩⟩
/-- tuple, list of a list or a tuple -/
def gTuple : List D → Option D
  | [.lst ds] => some (.tup ds)
  | [.tup ds] => some (.tup ds)
  | _ => none
def gList : List D → Option D
  | [.lst ds] => some (.lst ds)
  | [.tup ds] => some (.lst ds)
  | _ => none
theorem bt_tuple {m : Bool} (hK : p.K = X.K := by rfl) : BtR X p "tuple" [m] c0 gTuple := ⟨.inr ⟨_, _, by decide +kernel, call_tuple_of, fun G H vs ds d Q hs r hc hg k1 k2 => by
  obtain ⟨v, d0, rfl, rfl, rb⟩ := rm1 hs r
  cases d0 <;> simp only [gTuple] at hg <;> cases hg
  · obtain ⟨a, xs, rfl, h, k⟩ := rb
    exact ⟨a, xs, rfl, .inl ⟨SqL.of h, fun q hq => k2 q _ hq (.tup (.inl (.inl upd_same)) (k.mono (Same.upd (hs.none hq))))⟩⟩
  · obtain ⟨a, xs, rfl, h0, h, k⟩ := rb_tup hs rb
    exact ⟨a, xs, rfl, .inr ⟨hK ▸ h, k1 _ (.tup h0 k)⟩⟩⟩⟩
theorem bt_list {m : Bool} (hK : p.K = X.K := by rfl) : BtR X p "list" [m] c0 gList := ⟨.inr ⟨_, _, by decide +kernel, call_list_of, fun G H vs ds d Q hs r hc hg k1 k2 => by
  obtain ⟨v, d0, rfl, rfl, rb⟩ := rm1 hs r
  cases d0 <;> simp only [gList] at hg <;> cases hg
  · obtain ⟨a, xs, rfl, h, k⟩ := rb
    exact ⟨a, xs, rfl, .inl (SqL.of h), fun q hq => k2 q _ hq (.lst upd_same (k.mono (Same.upd (hs.none hq))))⟩
  · obtain ⟨a, xs, rfl, h0, h, k⟩ := rb_tup hs rb
    exact ⟨a, xs, rfl, .inr (hK ▸ h), fun q hq => k2 q _ hq (.lst upd_same (k.mono (Same.upd (hs.none hq))))⟩⟩⟩
/-- int of an int, a bool; str of an int; ord; all, any of truths -/
def gInt : List D → Option D
  | [.int i] => some (.int i)
  | [.bl b] => some (.int (if b then 1 else 0))
  | _ => none
theorem bt_int : BtR X p "int" [false] c0 gInt := ⟨.inr ⟨_, _, by decide +kernel, call_int1, fun G H vs ds d Q hs r hc hg k1 k2 => by
  obtain ⟨v, d0, rfl, rfl, rb⟩ := rm1 hs r
  cases d0 <;> simp only [gInt] at hg <;> cases hg
  · cases rb_bl rb
    exact .inr ⟨_, rfl, k1 _ (.int _)⟩
  · cases rb_int rb
    exact .inl ⟨_, rfl, k1 _ (.int _)⟩⟩⟩
def gStr : List D → Option D
  | [.int i] => some (.str (toString i))
  | _ => none
def cStr : List D → Prop
  | [.int i] => i.natAbs.log2 < 1920
  | _ => True
theorem bt_str : BtR X p "str" [false] cStr gStr := ⟨.inr ⟨_, _, by decide +kernel, call_str_int, fun G H vs ds d Q hs r hc hg k1 k2 => by
  obtain ⟨v, d0, rfl, rfl, rb⟩ := rm1 hs r
  cases d0 <;> simp only [gStr] at hg <;> cases hg
  cases rb_int rb
  exact ⟨_, rfl, hc, k1 _ (.str _)⟩⟩⟩
def gOrd : List D → Option D
  | [.str x] => some (.int (x.cps.getD 0 0 : Nat))
  | _ => none
def cOrd : List D → Prop
  | [.str x] => x.length = 1
  | _ => True
theorem bt_ord : BtR X p "ord" [false] cOrd gOrd := ⟨.inl ⟨_, _, by decide +kernel, call_ord, fun G H vs ds d Q hs r hc hg k1 k2 => by
  obtain ⟨v, d0, rfl, rfl, rb⟩ := rm1 hs r
  cases d0 <;> simp only [gOrd] at hg <;> cases hg
  cases rb_str rb
  exact ⟨_, rfl, hc, k1 _ (.int _)⟩⟩⟩
def blsOf : List D → Option (List Bool)
  | [] => some []
  | .bl b :: ds => (blsOf ds).map (b :: ·)
  | _ :: _ => none
theorem bls_of {G : Hp} : ∀ {ds : List D} {bs : List Bool} {xs : List V}, blsOf ds = some bs → p.RpA G xs ds → xs = bs.map V.bl
  | [], bs, xs, e, h => by
    cases e
    cases h
    rfl
  | .bl b :: ds, bs, xs, e, h => by
    simp only [blsOf, Option.map_eq_some_iff] at e
    obtain ⟨cs, e1, rfl⟩ := e
    cases h with
    | cons r t =>
      cases r
      rw [bls_of e1 t]
      rfl
  | .non :: _, _, _, e, _ => by cases e
  | .int _ :: _, _, _, e, _ => by cases e
  | .str _ :: _, _, _, e, _ => by cases e
  | .lst _ :: _, _, _, e, _ => by cases e
  | .tup _ :: _, _, _, e, _ => by cases e
  | .drw :: _, _, _, e, _ => by cases e
  | .dic0 :: _, _, _, e, _ => by cases e
def gAll : List D → Option D
  | [.lst ds] => (blsOf ds).map fun bs => .bl (bs.all (fun b => b))
  | _ => none
def gAny : List D → Option D
  | [.lst ds] => (blsOf ds).map fun bs => .bl (bs.any (fun b => b))
  | _ => none
theorem bt_all {m : Bool} (hc : X.calm = true := by rfl) : BtR X p "all" [m] c0 gAll := ⟨.inl ⟨_, _, by decide +kernel, cr_all hc, fun G H vs ds d Q hs r hc hg k1 k2 => by
  obtain ⟨v, d0, rfl, rfl, rb⟩ := rm1 hs r
  cases d0 <;> simp only [gAll] at hg <;> try cases hg
  obtain ⟨a, xs, rfl, h, k⟩ := rb
  obtain ⟨bs, e, rfl⟩ := Option.map_eq_some_iff.mp hg
  exact ⟨a, bs, rfl, SqL.of (by rw [← bls_of e k]; exact h), k1 _ (.bl _)⟩⟩⟩
theorem bt_any {m : Bool} (hc : X.calm = true := by rfl) : BtR X p "any" [m] c0 gAny := ⟨.inl ⟨_, _, by decide +kernel, cr_any hc, fun G H vs ds d Q hs r hc hg k1 k2 => by
  obtain ⟨v, d0, rfl, rfl, rb⟩ := rm1 hs r
  cases d0 <;> simp only [gAny] at hg <;> try cases hg
  obtain ⟨a, xs, rfl, h, k⟩ := rb
  obtain ⟨bs, e, rfl⟩ := Option.map_eq_some_iff.mp hg
  exact ⟨a, bs, rfl, SqL.of (by rw [← bls_of e k]; exact h), k1 _ (.bl _)⟩⟩⟩
/-- isinstance(x, T), T a built-in class -/
def tyD : D → Option String
  | .non => some "NoneType"
  | .bl _ => some "bool"
  | .int _ => some "int"
  | .str _ => some "str"
  | .lst _ => some "list"
  | .tup _ => some "tuple"
  | .dic0 => some "dict"
  | .drw => none
  | .exc _ _ _ => none
def isT (T t : String) : Bool := t == T || (t == "bool" && T == "int")
def gIsi (T : String) : D → Option D := fun d => (tyD d).map fun t => .bl (isT T t)
theorem tyx_of {G H : Hp} {x : V} {d : D} {t : String} (hs : Sub G H) (r : RpB p H G x d) (h : tyD d = some t) : TyX p.K H x (.type t) := by
  cases d <;> simp only [tyD] at h <;> cases h
  · cases rb_non r; exact .base .non
  · cases rb_bl r; exact .base (.bl _)
  · cases rb_int r; exact .base (.int _)
  · cases rb_str r; exact .base (.str _)
  · obtain ⟨a, xs, rfl, h, k⟩ := r
    exact .base (.lst h)
  · obtain ⟨a, xs, rfl, h0, h, k⟩ := rb_tup hs r
    rcases h with (h | ⟨o, h⟩) | ⟨o, its, n, h, hc, _⟩
    · exact .base (.tup h)
    · exact .fTuple h
    · exact .kTuple h hc
  · have r' : p.Rp G x .dic0 := r
    cases r' with
    | dic0 h _ => exact .base (.dK (hs _ _ h))
def wIsi (T : String) (w : W) : W := ⟨fun s P => w.f s fun d s1 => get (gIsi T d) fun z => P z s1, fun s P P' h q => w.mono _ _ _ (fun d s1 q => get_mono (fun z => h z s1) q) q⟩
def KitT (K : PySem.W.Frag) (T : String) : Prop := ∀ d t, tyD d = some t → PySem.W.kitOne K (.type t) (.type T) = some (isT T t)
theorem kit_all (K : PySem.W.Frag) {T : String} (h : ∀ t ∈ ["NoneType", "bool", "int", "str", "list", "tuple", "dict"], PySem.W.kitOne K (.type t) (.type T) = some (isT T t)) : KitT K T := fun d t e => h t (by
  cases d <;> simp only [tyD] at e <;> cases e <;> simp)
theorem pd_isi {T : String} {x : Str} {pf pt : Pos} (ha : PE X e (lift p w)) (hv : bootBuiltins x = some (.type T)) (hk : KitT X.K T) (hmi : X.mg "isinstance" = none) (hmx : X.mg x = none) (hK : p.K = X.K := by rfl) (hgi : Gl X "isinstance" := by rfl) (hg : Gl X x := by rfl)
    (hn : x ≠ "__name__" := by decide) (hdb : (x == ("__debug__" : Str)) = false := by decide) (hs : starEach (e :: [.Name x pt]) X.env = (false, eval e X.env) :: starEach [.Name x pt] X.env := by rfl) (hs2 : starEach [.Name x pt] X.env = (false, eval (.Name x pt) X.env) :: starEach [] X.env := by rfl)
    (hpl : (backTo pos (starEach [.Name x pt] X.env)).any (·.1) = false := by rfl) : PE X (.Call (.Name "isinstance" pf) [e, .Name x pt] [] pos) (lift p (wIsi T w)) := by
  have hx : PE X (.Name x pt) (tC (.ty T)) := pe_bltn hg hmx hv rfl hn hdb
  refine PE.imp (pe_callB call_isi hgi hmi (by decide +kernel) (pa_cons ha (pa_cons hx pa_nil hs2) hs) (by decide) (by decide) hs hpl) fun σ H Q ⟨G, s, R, k⟩ => ⟨G, s, R, w.mono _ _ _ (fun d s1 k1 v H1 G1 e1 R1 r1 => ?_) k⟩
  obtain ⟨z, ez, kz⟩ := get_of k1
  obtain ⟨t, et, rfl⟩ := Option.map_eq_some_iff.mp ez
  exact ⟨v, .ty T, .type t, .type T, isT T t, rfl, .ty T, hK ▸ tyx_of R1.sub (.of R1.sub r1) et, hk d t et, kz _ H1 G1 e1 R1 (.bl _)⟩

/-! ### methods of texts -/
def strD : D → Option Str
  | .str z => some z
  | _ => none
theorem strD_of {d : D} {z : Str} (h : strD d = some z) : d = .str z := by
  cases d <;> cases h
  rfl
def wMt (c : Str → D → Prop) (g : Str → D → Option D) (wa wb : W) : W := ⟨fun s P => wa.f s fun d1 s1 => get (strD d1) fun z => wb.f s1 fun d2 s2 => c z d2 ∧ get (g z d2) fun d => P d s2,
  fun s P P' h q => wa.mono _ _ _ (fun d1 s1 q => get_mono (fun z q => wb.mono _ _ _ (fun d2 s2 q => ⟨q.1, get_mono (fun d => h d s2) q.2⟩) q) q) q⟩
/-- o.m(x), o a text -/
structure MtD (X : Cx) (p : Pl) (name : Str) (c : Str → D → Prop) (g : Str → D → Option D) : Prop where
  ex : ∃ (id : String) (r : V → List V → Hp → VK → Prop), Slot "str" name id ∧ typeOf (.builtin id) = pure (.type "method_descriptor") ∧ MtR X id r ∧
    ∀ (G H : Hp) (z : Str) (y : V) (d2 d : D) (Q : VK), Sub G H → RpB p H G y d2 → c z d2 → g z d2 = some d → (∀ v, p.Rp G v d → Q v H) → (∀ a o, H a = none → p.Rp (upd G a o) (.ref a) d → Q (.ref a) (upd H a o)) → r (.str z) [y] H Q
theorem pd_mt {name : Str} {apos : Pos} {c : Str → D → Prop} {g : Str → D → Option D} (M : MtD X p name c g) (ha : PE X a (lift p wa)) (hb : PE X b (lift p wb)) (hs : starEach [b] X.env = [(false, eval b X.env)] := by rfl)
    (hbase : attributeBase a name X.env (eval a X.env) = eval a X.env := by rfl) (hline : (apos.endLine == pos.line) = true := by rfl) : PE X (.Call (.Attribute a name apos) [b] [] pos) (lift p (wMt c g wa wb)) := by
  obtain ⟨id, r, h1, h2, h3, h4⟩ := M.ex
  refine PE.imp (pe_m1 h1 h2 h3 ha hb hs hbase hline) fun σ H Q ⟨G, s, R, k⟩ => ⟨G, s, R, wa.mono _ _ _ (fun d1 s1 k1 x H1 G1 e1 R1 r1 => ?_) k⟩
  obtain ⟨z, ez, k2⟩ := get_of k1
  cases strD_of ez
  cases r1
  refine ⟨⟨z, rfl⟩, G1, s1, R1, wb.mono _ _ _ (fun d2 s2 k3 y H2 G2 e2 R2 r2 => ?_) k2⟩
  obtain ⟨kc, kg⟩ := k3
  obtain ⟨d, ed, kd⟩ := get_of kg
  exact h4 G2 H2 z y d2 d Q R2.sub (.of R2.sub r2) kc ed (fun v rv => kd v H2 G2 (e1.trans e2) R2 rv) fun q o hq rq => kd _ _ _ ((e1.trans e2).trans (Same.upd (R2.sub.none hq))) (R2.alloc hq) rq
def cZ : Str → D → Prop := fun _ _ => True
def gStarts : Str → D → Option D
  | z, .str y => some (.bl (Txt.startswith z y))
  | _, _ => none
theorem mt_st : MtD X p "startswith" cZ gStarts := ⟨_, _, F.slot_str_startswith, F.type_str_startswith, mt_startswith, fun G H z y d2 d Q hs r hc hg k1 k2 => by
  cases d2 <;> cases hg
  cases rb_str r
  exact ⟨_, _, rfl, rfl, k1 _ (.bl _)⟩⟩
def gCount : Str → D → Option D
  | z, .str y => some (.int (Txt.count z y))
  | _, _ => none
theorem mt_ct : MtD X p "count" cZ gCount := ⟨_, _, F.slot_str_count, F.type_str_count, mt_count, fun G H z y d2 d Q hs r hc hg k1 k2 => by
  cases d2 <;> cases hg
  cases rb_str r
  exact ⟨_, _, rfl, rfl, k1 _ (.int _)⟩⟩
def cPart : Str → D → Prop
  | z, .str y => (y.length == 0) = false ∧ z.length ≤ sizeLine
  | _, _ => True
def gPart : Str → D → Option D
  | z, .str y => some (.tup [.str (Txt.partition z y).1, .str (Txt.partition z y).2.1, .str (Txt.partition z y).2.2])
  | _, _ => none
theorem mt_pt : MtD X p "partition" cPart gPart := ⟨_, _, F.slot_str_partition, F.type_str_partition, mt_partition, fun G H z y d2 d Q hs r hc hg k1 k2 => by
  cases d2 <;> cases hg
  cases rb_str r
  exact ⟨_, _, rfl, rfl, hc.1, hc.2, fun q hq => k2 q _ hq (.tup (.inl (.inl upd_same)) (.cons (.str _) (.cons (.str _) (.cons (.str _) .nil))))⟩⟩
def cSplit : Str → D → Prop
  | z, .str y => (y.length == 0) = false ∧ z.length + 2 ≤ sizeLine
  | _, _ => True
def gSplit : Str → D → Option D
  | z, .str y => some (.lst ((Txt.split z y).map D.str))
  | _, _ => none
theorem mt_sp : MtD X p "split" cSplit gSplit := ⟨_, _, F.slot_str_split, F.type_str_split, mt_split, fun G H z y d2 d Q hs r hc hg k1 k2 => by
  cases d2 <;> cases hg
  cases rb_str r
  exact ⟨_, _, rfl, rfl, hc.1, hc.2, fun q hq => k2 q _ hq (.lst upd_same (RpA.strs _))⟩⟩
/-- sep.join(list or tuple of texts) -/
def strsOf : List D → Option (List Str)
  | [] => some []
  | .str b :: ds => (strsOf ds).map (b :: ·)
  | _ :: _ => none
theorem strs_of {G : Hp} : ∀ {ds : List D} {bs : List Str} {xs : List V}, strsOf ds = some bs → p.RpA G xs ds → xs = bs.map V.str
  | [], bs, xs, e, h => by
    cases e
    cases h
    rfl
  | .str b :: ds, bs, xs, e, h => by
    simp only [strsOf, Option.map_eq_some_iff] at e
    obtain ⟨cs, e1, rfl⟩ := e
    cases h with
    | cons r t =>
      cases r
      rw [strs_of e1 t]
      rfl
  | .non :: _, _, _, e, _ => by cases e
  | .int _ :: _, _, _, e, _ => by cases e
  | .bl _ :: _, _, _, e, _ => by cases e
  | .lst _ :: _, _, _, e, _ => by cases e
  | .tup _ :: _, _, _, e, _ => by cases e
  | .drw :: _, _, _, e, _ => by cases e
  | .dic0 :: _, _, _, e, _ => by cases e
def rowD : D → Option (List D)
  | .lst ds => some ds
  | .tup ds => some ds
  | _ => none
def cJoin : Str → D → Prop := fun z d => ∀ ys, (rowD d).bind strsOf = some ys → (ys.map (·.length)).sum + ys.length * z.length ≤ 16777216
def gJoin : Str → D → Option D := fun z d => ((rowD d).bind strsOf).map fun ys => .str (Txt.join z ys)
theorem mt_jn (hK : p.K = X.K := by rfl) : MtD X p "join" cJoin gJoin := ⟨_, _, F.slot_str_join, F.type_str_join, mt_join, fun G H z y d2 d Q hs r hc hg k1 k2 => by
  obtain ⟨ys, e, rfl⟩ := Option.map_eq_some_iff.mp hg
  have hz := hc ys e
  cases d2 with
  | lst ds =>
    obtain ⟨a, xs, rfl, h, k⟩ := r
    exact ⟨z, a, ys, rfl, rfl, .inl (SqL.of (by rw [← strs_of e k]; exact h)), hz, k1 _ (.str _)⟩
  | tup ds =>
    obtain ⟨a, xs, rfl, h0, h, k⟩ := rb_tup hs r
    exact ⟨z, a, ys, rfl, rfl, .inr (by rw [← strs_of e k]; exact hK ▸ h), hz, k1 _ (.str _)⟩
  | _ => cases e⟩

/-! ### calls of own functions -/
structure FT where
  f : List D → Nat → (D → Nat → Prop) → Prop
  mono : ∀ ds n P P', (∀ d m, P d m → P' d m) → f ds n P → f ds n P'
/-- the promise by data -/
def SpD (K : PySem.W.Frag) (dr : Option Addr) (ms : List Bool) (F : FT) : Sp := fun vs H Q _ => ∃ (G : Hp) (ds : List D) (n : Nat), Sub G H ∧ Drw G H dr n ∧ RpM ⟨K, dr, H, G⟩ H G ms vs ds ∧
  F.f ds n fun d m => ∀ v H' G', Same G G' → Bse dr H H' → Sub G' H' → New H G G' → Drw G' H' dr m → Rp K dr G' v d → Q v H'
theorem Rs.call {σ : St} {H G H' G' : Hp} {s : S} {m : Nat} (R : p.Rs σ H G s) (e : Same G G') (b : Bse p.dr H H') (sb : Sub G' H') (nw : New H G G') (d : Drw G' H' p.dr m) : p.Rs σ H' G' { s with n := m } := by
  have there : ∀ {q : Addr} {o : HO}, p.dr ≠ some q → H q = some o → G q = none → G' q = none := fun {q o} hd h g => nw q g (by rw [h]; exact fun z => by cases z)
  refine ⟨sb, fun a o hd h => b a o hd (R.base a o hd h), fun a h1 h2 => ?_, R.len, fun i x hx => ?_, R.inj, d⟩
  · by_cases hd : p.dr = some a
    · exact (d a hd).free
    · cases h0 : p.H0 a with
      | none => exact absurd h0 h2
      | some o => exact there hd (R.base a o hd h0) (R.new a h1 h2)
  · have q := R.slot i x hx
    cases x with
    | emp => trivial
    | val y =>
      obtain ⟨u, e1, r⟩ := q
      exact ⟨u, e1, r.mono e⟩
    | own ds =>
      obtain ⟨q1, xs, e1, h1, h2, h3, h4, r⟩ := q
      exact ⟨q1, xs, e1, b _ _ h3 h1, there h3 h1 h2, h3, h4, r.mono e⟩
    | bor ds =>
      obtain ⟨q1, xs, e1, h1, h2, r⟩ := q
      refine ⟨q1, xs, e1, b _ _ (fun z => ?_) h1, h2, r.mono e⟩
      obtain ⟨_, L, _, _, _, _, h5, _⟩ := R.drw q1 z
      rw [h1] at h5
      cases h5
def wCall (F : FT) (t : WA) : W := ⟨fun s P => t.f s fun ds s1 => F.f ds s1.n fun d m => P d { s1 with n := m }, fun s P P' h q => t.mono _ _ _ (fun ds s1 q => F.mono _ _ _ _ (fun d m q => h _ _ q) q) q⟩
theorem RpM.at_ {p p' : Pl} {H G : Hp} (h1 : p'.K = p.K) (h2 : p'.dr = p.dr) : ∀ {ms : List Bool} {vs : List V} {ds : List D}, RpM p H G ms vs ds → RpM p' H G ms vs ds
  | _, _, _, .nil => .nil
  | _, _, _, .val r t => .val (by unfold Pl.Rp; rw [h1, h2]; exact r) (RpM.at_ h1 h2 t)
  | _, _, _, .bor (d := d) r t => .bor (by
    cases d with
    | lst ds =>
      obtain ⟨a, xs, e, h, k⟩ := r
      exact ⟨a, xs, e, h, by unfold Pl.RpA; rw [h1, h2]; exact k⟩
    | _ => exact (by unfold Pl.Rp; rw [h1, h2]; exact r : p'.Rp G _ _)) (RpM.at_ h1 h2 t)
theorem call_lift {F : FT} (σ : St) (H : Hp) (Q : VK) (h : lift p (wCall F t) σ H Q) : tCall (SpD p.K p.dr ms F) [] E0 (liftM p ms t) σ H Q := by
  obtain ⟨G, s, R, k⟩ := h
  refine ⟨G, s, R, t.mono _ _ _ (fun ds s1 k1 vs H1 G1 e1 R1 r1 => ?_) k⟩
  show SpD p.K p.dr ms F (vs ++ []) H1 Q E0
  rw [List.append_nil]
  exact ⟨G1, ds, s1.n, R1.sub, R1.drw, RpM.at_ (p := p) (p' := ⟨p.K, p.dr, H1, G1⟩) rfl rfl r1, F.mono _ _ _ _ (fun d m q v H' G' e b sb nw dw rv => q v H' G' (e1.trans e) (Rs.call R1 e b sb nw dw) rv) k1⟩
theorem pd_call {F : FT} {k : Nat} {f : Addr} {fd : FuncData} {ps : List Str} {x : Str} {pf : Pos} {K : PySem.W.Frag} {dr : Option Addr} (ok : FnOk X.prog X.w X.K X.mg X.base CX0 k f fd ps (SpD K dr ms F)) (hr : Room k X.A) (hm : X.mg x = some (.ref f)) (hk : PySem.W.keepIn X.K (.ref f) = true) (hb : Binds X.K fd ps [])
    (ha : PA X (e :: es) (liftM p ms t)) (hK : p.K = K := by rfl) (hd : p.dr = dr := by rfl) (hg : Gl X x := by rfl) (hdb : (x == ("__debug__" : Str)) = false := by decide) (he : starEach (e :: es) X.env = (false, eval e X.env) :: starEach es X.env := by rfl) (hpl : (backTo pos (starEach es X.env)).any (·.1) = false := by rfl) :
    PE X (.Call (.Name x pf) (e :: es) [] pos) (lift p (wCall F t)) := by
  subst hK hd
  exact PE.imp (pe_call ok hr hg hm hk hb .nil pass0 ha hdb he hpl) call_lift
end
end DI
/-! Statements, loops, comprehensions, a def by its body. -/
namespace DI
open PySem L2

structure ED where
  nx : S → Prop
  rt : D → S → Prop
  bk : S → Prop := fun _ => False
  ct : S → Prop := fun _ => False
structure ED.Le (E E' : ED) : Prop where
  nx : ∀ s, E.nx s → E'.nx s
  rt : ∀ d s, E.rt d s → E'.rt d s
  bk : ∀ s, E.bk s → E'.bk s
  ct : ∀ s, E.ct s → E'.ct s
structure WS where
  f : ED → S → Prop
  mono : ∀ E E' s, ED.Le E E' → f E s → f E' s
structure Cmp (p : Pl) (G : Hp) (E : ED) (D : Ends) : Prop where
  nx : ∀ σ' H' G' s', Same G G' → p.Rs σ' H' G' s' → E.nx s' → D.nx σ' H'
  rt : ∀ v σ' H' G' d s', Same G G' → p.Rs σ' H' G' s' → p.Rp G' v d → E.rt d s' → D.rt v H'
  bk : ∀ σ' H' G' s', Same G G' → p.Rs σ' H' G' s' → E.bk s' → D.bk σ' H'
  ct : ∀ σ' H' G' s', Same G G' → p.Rs σ' H' G' s' → E.ct s' → D.ct σ' H'
theorem Cmp.mono {p : Pl} {G G1 : Hp} {E : ED} {D : Ends} (e : Same G G1) (c : Cmp p G E D) : Cmp p G1 E D :=
  ⟨fun σ' H' G' s' a => c.nx σ' H' G' s' (e.trans a), fun v σ' H' G' d s' a => c.rt v σ' H' G' d s' (e.trans a), fun σ' H' G' s' a => c.bk σ' H' G' s' (e.trans a), fun σ' H' G' s' a => c.ct σ' H' G' s' (e.trans a)⟩
def liftS (p : Pl) (w : WS) : TS := fun D σ H => ∃ G s E, p.Rs σ H G s ∧ w.f E s ∧ Cmp p G E D

section
variable {X : Cx} {p : Pl} {e a b c : Expr} {es : List Expr} {pos : Pos} {w wa wb : W} {t : WT} {u v : WS} {st : Stmt} {rest sa sb : List Stmt}
/-! ### blocks -/
def wNext : WS := ⟨fun E s => E.nx s, fun _ _ s h => h.nx s⟩
def wSeq (u v : WS) : WS := ⟨fun E s => u.f { E with nx := v.f E } s, fun E E' s h => u.mono _ _ s ⟨fun s' => v.mono _ _ s' h, h.rt, h.bk, h.ct⟩⟩
theorem sd_nil : PSs X [] (liftS p wNext) := PSs.imp pss_nil fun D σ H ⟨G, s, E, R, k, q⟩ => q.nx σ H G s (Same.refl G) R k
theorem sd_cons (h1 : PS X st (liftS p u)) (h2 : PSs X rest (liftS p v)) : PSs X (st :: rest) (liftS p (wSeq u v)) :=
  PSs.imp (pss_cons h1 h2) fun D σ H ⟨G, s, E, R, k, q⟩ => ⟨G, s, _, R, k, fun σ' H' G' s' a R' k' => ⟨G', s', E, R', k', q.mono a⟩, q.rt, q.bk, q.ct⟩
theorem sd_one (h1 : PS X st (liftS p u)) : PSs X [st] (liftS p u) := pss_one h1
def wBreak : WS := ⟨fun E s => E.bk s, fun _ _ s h => h.bk s⟩
def wCont : WS := ⟨fun E s => E.ct s, fun _ _ s h => h.ct s⟩
theorem sd_pass : PS X (.Pass pos) (liftS p wNext) := PS.imp ps_pass fun D σ H ⟨G, s, E, R, k, q⟩ => q.nx σ H G s (Same.refl G) R k
theorem sd_break : PS X (.Break pos) (liftS p wBreak) := PS.imp ps_break fun D σ H ⟨G, s, E, R, k, q⟩ => q.bk σ H G s (Same.refl G) R k
theorem sd_continue : PS X (.Continue pos) (liftS p wCont) := PS.imp ps_continue fun D σ H ⟨G, s, E, R, k, q⟩ => q.ct σ H G s (Same.refl G) R k
def wDrop (w : W) : WS := ⟨fun E s => w.f s fun _ s1 => E.nx s1, fun E E' s h q => w.mono _ _ _ (fun _ s1 => h.nx s1) q⟩
theorem sd_expr (h : PE X e (lift p w)) (hs : swapsWith e none pos.line X.env = pure false := by rfl) : PS X (.Expr e pos) (liftS p (wDrop w)) :=
  PS.imp (ps_expr h hs) fun D σ H ⟨G, s, E, R, k, q⟩ => ⟨G, s, R, w.mono _ _ _ (fun d s1 k1 x H1 G1 e1 R1 r1 => q.nx σ H1 G1 s1 e1 R1 k1) k⟩
def wRet (w : W) : WS := ⟨fun E s => w.f s fun d s1 => E.rt d s1, fun E E' s h q => w.mono _ _ _ (fun d s1 => h.rt d s1) q⟩
theorem sd_ret (h : PE X e (lift p w)) : PS X (.Return (some e) pos) (liftS p (wRet w)) :=
  PS.imp (ps_ret h) fun D σ H ⟨G, s, E, R, k, q⟩ => ⟨G, s, R, w.mono _ _ _ (fun d s1 k1 x H1 G1 e1 R1 r1 => q.rt x σ H1 G1 d s1 e1 R1 r1 k1) k⟩
def wRetN : WS := ⟨fun E s => E.rt .non s, fun E E' s h => h.rt _ s⟩
theorem sd_retN : PS X (.Return none pos) (liftS p wRetN) := PS.imp ps_retN fun D σ H ⟨G, s, E, R, k, q⟩ => q.rt _ σ H G _ s (Same.refl G) R .non k
def wIfS (t : WT) (u v : WS) : WS := ⟨fun E s => t.f s fun b s1 => if b = true then u.f E s1 else v.f E s1, fun E E' s h q => t.mono _ _ _ (fun b s1 q => by
  cases b with
  | true => exact u.mono _ _ _ h q
  | false => exact v.mono _ _ _ h q) q⟩
theorem sd_if (hc : PT X c (liftT p t)) (ha : PSs X sa (liftS p u)) (hb : PSs X sb (liftS p v)) : PS X (.If c sa sb pos) (liftS p (wIfS t u v)) :=
  PS.imp (ps_if hc ha hb) fun D σ H ⟨G, s, E, R, k, q⟩ => ⟨G, s, R, t.mono _ _ _ (fun b s1 k1 H1 G1 e1 R1 => by
    cases b with
    | true => exact ⟨G1, s1, E, R1, k1, q.mono e1⟩
    | false => exact ⟨G1, s1, E, R1, k1, q.mono e1⟩) k⟩
def wNever : WS := ⟨fun _ _ => False, fun _ _ _ _ h => h⟩
theorem sd_never : PS X st (liftS p wNever) := PS.imp ps_never fun D σ H ⟨G, s, E, R, k, q⟩ => k.elim

/-! ### stores -/
def wSet (i : Nat) (w : W) : WS := ⟨fun E s => w.f s fun d s1 => i < s1.env.length ∧ E.nx { s1 with env := s1.env.set i (.val d) }, fun E E' s h q => w.mono _ _ _ (fun d s1 q => ⟨q.1, h.nx _ q.2⟩) q⟩
theorem sd_set (i : Nat) {x : Str} {pos' : Pos} (hN : X.N.Nodup) (he : PE X e (lift p w)) (hi : X.N[i]? = some x := by rfl) (hx : Loc X.env.scope x := by first | exact .inl rfl | exact .inr rfl) (hs : swapsWith e (some (.Name x pos')) pos.line X.env = pure false := by rfl)
    (hf : X.fn x = true ∨ X.env.scope.names.lookup x = some .local := by first | exact .inl rfl | exact .inr rfl) : PS X (.Assign [.Name x pos'] e pos) (liftS p (wSet i w)) :=
  PS.imp (ps_set hN hi hx he hs hf) fun D σ H ⟨G, s, E, R, k, q⟩ => ⟨G, s, R, w.mono _ _ _ (fun d s1 k1 v H1 G1 e1 R1 r1 => q.nx _ H1 G1 _ e1 (R1.set (by rw [← R1.len]; exact k1.1) r1) k1.2) k⟩
/-- a new list, not kept by anyone yet -/
def liftL (p : Pl) (w : WA) : TE := fun σ H Q => ∃ G s, p.Rs σ H G s ∧ w.f s fun ds s' => ∀ q xs H' G', Same G G' → p.Rs σ H' G' s' → p.RpA G' xs ds → H' q = none → Q (.ref q) (upd H' q (.lst xs))
def wOfL (w : WA) : W := ⟨fun s P => w.f s fun ds s1 => P (.lst ds) s1, fun s P P' h q => w.mono _ _ _ (fun ds s1 q => h _ _ q) q⟩
variable {tl : WA}
theorem pd_ofL (h : PE X e (liftL p tl)) : PE X e (lift p (wOfL tl)) :=
  PE.imp h fun σ H Q ⟨G, s, R, k⟩ => ⟨G, s, R, tl.mono _ _ _ (fun ds s1 k1 q xs H1 G1 e1 R1 r1 hq => k1 _ _ _ (e1.trans (Same.upd (R1.sub.none hq))) (R1.alloc hq) (.lst upd_same (r1.mono (Same.upd (R1.sub.none hq))))) k⟩
def wsz (t : WA) : WA := ⟨fun s P => t.f s fun ds s1 => ds.length ≤ sizeLine ∧ P ds s1, fun s P P' h q => t.mono _ _ _ (fun ds s1 q => ⟨q.1, h _ _ q.2⟩) q⟩
theorem ld_lst {ms : List Bool} {ta : WA} (h : PA X es (liftM p ms ta)) (hm : ∀ m ∈ ms, m = false := by decide) : PE X (.List es pos) (liftL p (wsz ta)) :=
  PE.imp (pe_lst h) fun σ H Q ⟨G, s, R, k⟩ => ⟨G, s, R, ta.mono _ _ _ (fun ds s1 k1 vs H1 G1 e1 R1 r1 => by
    have ra := r1.all hm
    exact ⟨by rw [ra.length]; exact k1.1, fun q hq => k1.2 q vs H1 G1 e1 R1 ra hq⟩) k⟩
def wOwn (i : Nat) (t : WA) : WS := ⟨fun E s => t.f s fun ds s1 => i < s1.env.length ∧ E.nx { s1 with env := s1.env.set i (.own ds) }, fun E E' s h q => t.mono _ _ _ (fun d s1 q => ⟨q.1, h.nx _ q.2⟩) q⟩
theorem sd_own (i : Nat) {x : Str} {pos' : Pos} (hN : X.N.Nodup) (he : PE X e (liftL p tl)) (hi : X.N[i]? = some x := by rfl) (hx : Loc X.env.scope x := by first | exact .inl rfl | exact .inr rfl) (hs : swapsWith e (some (.Name x pos')) pos.line X.env = pure false := by rfl)
    (hf : X.fn x = true ∨ X.env.scope.names.lookup x = some .local := by first | exact .inl rfl | exact .inr rfl) : PS X (.Assign [.Name x pos'] e pos) (liftS p (wOwn i tl)) :=
  PS.imp (ps_set hN hi hx he hs hf) fun D σ H ⟨G, s, E, R, k, q⟩ => ⟨G, s, R, tl.mono _ _ _ (fun ds s1 k1 y xs H1 G1 e1 R1 r1 hq => q.nx _ _ G1 _ e1 (R1.setOwn (by rw [← R1.len]; exact k1.1) hq r1) k1.2) k⟩
/-- a, b = x, y: plain values -/
def wPar (i j : Nat) (t : WA) : WS := ⟨fun E s => t.f s fun ds s1 => ∃ d1 d2, ds = [d1, d2] ∧ i < s1.env.length ∧ j < s1.env.length ∧ E.nx { s1 with env := (s1.env.set i (.val d1)).set j (.val d2) },
  fun E E' s h q => t.mono _ _ _ (fun ds s1 ⟨d1, d2, e, h1, h2, q⟩ => ⟨d1, d2, e, h1, h2, h.nx _ q⟩) q⟩
theorem sd_par (i j : Nat) {ms : List Bool} {ta : WA} {x y : Str} {px py pt : Pos} {kt k2 pt2} (hN : X.N.Nodup) (ha : PA X [a, b] (liftM p ms ta)) (hm : ∀ m ∈ ms, m = false := by decide) (hc : X.calm = true := by rfl) (hi : X.N[i]? = some x := by rfl) (hj : X.N[j]? = some y := by rfl) (hij : i ≠ j := by decide)
    (hx : X.env.scope.names.lookup x = some .local := by rfl) (hy : X.env.scope.names.lookup y = some .local := by rfl)
    (hw : swappedStores [.Tuple [.Name x px, .Name y py] kt pt] (.Tuple [a, b] k2 pt2) X.env = pure (some [x, y]) := by rfl)
    (hs : swapsWithSole [.Tuple [.Name x px, .Name y py] kt pt] (.Tuple [a, b] k2 pt2) pos.line X.env = pure false := by rfl) : PS X (.Assign [.Tuple [.Name x px, .Name y py] kt pt] (.Tuple [a, b] k2 pt2) pos) (liftS p (wPar i j ta)) :=
  PS.imp (ps_par hc hN hi hj hij hx hy ha hw hs) fun D σ H ⟨G, s, E, R, k, q⟩ => ⟨G, s, R, ta.mono _ _ _ (fun ds s1 ⟨d1, d2, ed, h1, h2, k1⟩ vs H1 G1 e1 R1 r1 => by
    subst ed
    have ra := r1.all hm
    cases ra with
    | cons ra1 t1 =>
      cases t1 with
      | cons ra2 t2 =>
        cases t2
        have R2 := R1.set (i := i) (by rw [← R1.len]; exact h1) ra1
        have R3 := R2.set (i := j) (by rw [List.length_set, ← R1.len]; exact h2) ra2
        exact ⟨_, _, rfl, q.nx _ H1 G1 _ e1 R3 k1⟩) k⟩
/-- target = value by a target's rule -/
def liftG (p : Pl) (g : D → List Sl → Option (List Sl)) : TG := fun v σ H Q => ∃ G s d env', p.Rs σ H G s ∧ p.Rp G v d ∧ g d s.env = some env' ∧ ∀ σ' H' G', Same G G' → p.Rs σ' H' G' { s with env := env' } → Q σ' H'
def gNm (i : Nat) : D → List Sl → Option (List Sl) := fun d env => if i < env.length then some (env.set i (.val d)) else none
theorem PG.imp {tg : Expr} {t t' : TG} (h : PG X tg t) (i : ∀ v σ H Q, t' v σ H Q → t v σ H Q) : PG X tg t' := ⟨fun pins s σ H v u Q I r k => h.run pins s σ H v u Q I r (i v σ H Q k)⟩
theorem gd_name (i : Nat) {x : Str} (hN : X.N.Nodup) (hi : X.N[i]? = some x := by rfl) (hx : Loc X.env.scope x := by first | exact .inl rfl | exact .inr rfl) (hf : X.fn x = true ∨ X.env.scope.names.lookup x = some .local := by first | exact .inl rfl | exact .inr rfl) : PG X (.Name x pos) (liftG p (gNm i)) :=
  PG.imp (pg_name hN hi hx hf) fun v σ H Q ⟨G, s, d, env', R, r, g, k⟩ => by
    unfold gNm at g
    split at g
    · cases g
      exact k _ H G (Same.refl G) (R.set (by rw [← R.len]; assumption) r)
    · cases g
/-- several targets -/
def liftGs (p : Pl) (g : List D → List Sl → Option (List Sl)) : TGs := fun vs σ H Q => ∃ G s ds env', p.Rs σ H G s ∧ p.RpA G vs ds ∧ g ds s.env = some env' ∧ ∀ σ' H' G', Same G G' → p.Rs σ' H' G' { s with env := env' } → Q σ' H'
def gsNil : List D → List Sl → Option (List Sl)
  | [], env => some env
  | _, _ => none
def gsCons (g : D → List Sl → Option (List Sl)) (gs : List D → List Sl → Option (List Sl)) : List D → List Sl → Option (List Sl)
  | d :: ds, env => (g d env).bind (gs ds)
  | _, _ => none
theorem PGs.imp {tg : List Expr} {t t' : TGs} (h : PGs X tg t) (i : ∀ v σ H Q, t' v σ H Q → t v σ H Q) : PGs X tg t' := ⟨fun pins s σ H v u Q I r k => h.run pins s σ H v u Q I r (i v σ H Q k)⟩
theorem gds_nil : PGs X [] (liftGs p gsNil) := PGs.imp pgs_nil fun vs σ H Q ⟨G, s, ds, env', R, r, g, k⟩ => by
  cases r with
  | nil =>
    cases g
    exact ⟨rfl, k σ H G (Same.refl G) R⟩
  | cons _ _ => cases g
theorem gds_cons {g : D → List Sl → Option (List Sl)} {gs : List D → List Sl → Option (List Sl)} (h1 : PG X e (liftG p g)) (h2 : PGs X es (liftGs p gs)) (hs : (assignEach (e :: es) X.env).map (·.2) = assign e X.env :: (assignEach es X.env).map (·.2) := by rfl) :
    PGs X (e :: es) (liftGs p (gsCons g gs)) := PGs.imp (pgs_cons h1 h2 hs) fun vs σ H Q ⟨G, s, ds, env', R, r, hg, k⟩ => by
  cases r with
  | nil => cases hg
  | cons r t =>
    simp only [gsCons, Option.bind_eq_some_iff] at hg
    obtain ⟨env1, g1, g2⟩ := hg
    exact ⟨_, _, rfl, G, s, _, env1, R, r, g1, fun σ' H' G' e1 R1 => ⟨G', _, _, env', R1, t.mono e1, g2, fun σ2 H2 G2 e2 R2 => k σ2 H2 G2 (e1.trans e2) R2⟩⟩
def gTp (n : Nat) (gs : List D → List Sl → Option (List Sl)) : D → List Sl → Option (List Sl)
  | .tup ds, env => if ds.length = n then gs ds env else none
  | _, _ => none
theorem gd_tup {k : Nat} {n : Nat} {gs : List D → List Sl → Option (List Sl)} (h : PGs X es (liftGs p gs)) (hK : p.K = X.K := by rfl) (hc : X.calm = true := by rfl) (hn : (assignEach es X.env).length = n := by rfl) (hst : (assignEach es X.env).findIdx? (·.1) = none := by rfl) :
    PG X (.Tuple es k pos) (liftG p (gTp n gs)) := PG.imp (pg_tup hc h hn hst) fun v σ H Q ⟨G, s, d, env', R, r, hg, k⟩ => by
  cases d <;> simp only [gTp] at hg <;> try cases hg
  split at hg
  · cases r with
    | tup h1 r1 => exact ⟨_, _, rfl, hK ▸ Same.tup R.sub h1, by rw [r1.length]; assumption, G, s, _, env', R, r1, hg, k⟩
  · cases hg
def wAsgT (g : D → List Sl → Option (List Sl)) (w : W) : WS := ⟨fun E s => w.f s fun d s1 => get (g d s1.env) fun env' => E.nx { s1 with env := env' }, fun E E' s h q => w.mono _ _ _ (fun d s1 q => get_mono (fun env' q => h.nx _ q) q) q⟩
theorem sd_asg {tg : Expr} {g : D → List Sl → Option (List Sl)} (he : PE X e (lift p w)) (hg : PG X tg (liftG p g)) (hs : swapsWithSole [tg] e pos.line X.env = pure false := by rfl) (hw : swappedStores [tg] e X.env = pure none := by rfl)
    (h1 : (assignEach [tg] X.env).map (·.2) = [assign tg X.env] := by rfl) : PS X (.Assign [tg] e pos) (liftS p (wAsgT g w)) :=
  PS.imp (ps_asg he hg hs hw h1) fun D σ H ⟨G, s, E, R, k, q⟩ => ⟨G, s, R, w.mono _ _ _ (fun d s1 k1 v H1 G1 e1 R1 r1 => by
    obtain ⟨env', eg, kn⟩ := get_of k1
    exact ⟨G1, s1, d, env', R1, r1, eg, fun σ' H' G' e2 R2 => q.nx σ' H' G' _ (e1.trans e2) R2 kn⟩) k⟩

/-! ### what is walked -/
structure WI where
  f : S → (List D → S → Prop) → Prop
  mono : ∀ s P P', (∀ d s', P d s' → P' d s') → f s P → f s P'
def Yl (p : Pl) (H G : Hp) (x : V) (H' : Hp) (d : D) : Prop := (H' = H ∧ p.Rp G x d) ∨ ∃ q o, H q = none ∧ H' = upd H q o ∧ x = .ref q ∧ p.Rp (upd G q o) x d
def Src (p : Pl) (J : It) (ds : List D) (G : Hp) : Prop := ∀ i H' G', Same G G' → Sub G' H' → (∀ d, ds[i]? = some d → J.go i H' ∧ ∀ x H'', J.yld i H' x H'' → Yl p H' G' x H'' d) ∧ (ds.length ≤ i → J.stop i H')
def liftI (p : Pl) (w : WI) : TI := fun σ H R => ∃ G s, p.Rs σ H G s ∧ w.f s fun ds s' => ∀ J H' G', Same G G' → p.Rs σ H' G' s' → Src p J ds G' → R J H'
theorem PI.imp {tg : Expr} {t t' : TI} (h : PI X tg e t) (i : ∀ σ H R, t' σ H R → t σ H R) : PI X tg e t' := ⟨fun pins s σ H R I k => h.run pins s σ H R I (i σ H R k)⟩
def lstD : D → Option (List D)
  | .lst ds => some ds
  | _ => none
def tupD : D → Option (List D)
  | .tup ds => some ds
  | _ => none
def wiL (w : W) : WI := ⟨fun s P => w.f s fun d s1 => get (lstD d) fun ds => P ds s1, fun s P P' h q => w.mono _ _ _ (fun d s1 q => get_mono (fun ds q => h _ _ q) q) q⟩
def wiT (w : W) : WI := ⟨fun s P => w.f s fun d s1 => get (tupD d) fun ds => P ds s1, fun s P P' h q => w.mono _ _ _ (fun d s1 q => get_mono (fun ds q => h _ _ q) q) q⟩
def chrs (z : Str) : List D := z.cps.toList.map fun c => .str ⟨#[c]⟩
def wiS (w : W) : WI := ⟨fun s P => w.f s fun d s1 => get (strD d) fun z => P (chrs z) s1, fun s P P' h q => w.mono _ _ _ (fun d s1 q => get_mono (fun z q => h _ _ q) q) q⟩
variable {tg : Expr}
theorem src_list {q : Addr} {xs : List V} {ds : List D} {G : Hp} (h : G q = some (.lst xs)) (k : p.RpA G xs ds) : Src p (Itl X.K q) ds G := fun i H' G' e hs => by
  have h' : H' q = some (.lst xs) := hs _ _ (e _ _ h)
  refine ⟨fun d hd => ?_, fun hi => ⟨xs, SqL.of h', by rw [k.length]; exact hi⟩⟩
  obtain ⟨x, hx, rx⟩ := k.get hd
  refine ⟨⟨xs, x, SqL.of h', hx⟩, fun y H'' ⟨e1, e2⟩ => .inl ⟨e1, ?_⟩⟩
  have e3 := e2 xs (SqL.of h')
  rw [hx] at e3
  cases e3
  exact rx.mono e
theorem src_tup {q : Addr} {xs : List V} {ds : List D} {G : Hp} (hK : p.K = X.K) (h : SqT p.K G q xs) (k : p.RpA G xs ds) : Src p (Itt X.K q) ds G := fun i H' G' e hs => by
  have h' : SqT X.K H' q xs := hK ▸ Same.tup hs (Same.tup e h)
  refine ⟨fun d hd => ?_, fun hi => ⟨xs, h', by rw [k.length]; exact hi⟩⟩
  obtain ⟨x, hx, rx⟩ := k.get hd
  refine ⟨⟨xs, x, h', hx⟩, fun y H'' ⟨e1, e2⟩ => .inl ⟨e1, ?_⟩⟩
  have e3 := e2 xs h'
  rw [hx] at e3
  cases e3
  exact rx.mono e
theorem src_str {z : Str} {G : Hp} : Src p (Its z) (chrs z) G := fun i H' G' e hs => by
  refine ⟨fun d hd => ?_, fun hi => ?_⟩
  · unfold chrs at hd
    rw [List.getElem?_map] at hd
    cases q : z.cps.toList[i]? with
    | none => rw [q] at hd; cases hd
    | some c =>
      rw [q] at hd
      cases hd
      have hlt : i < z.cps.size := by
        have := (List.getElem?_eq_some_iff.mp q).1
        simpa using this
      refine ⟨hlt, fun y H'' ⟨e1, c', hc, e2⟩ => .inl ⟨e1, ?_⟩⟩
      rw [Array.getElem?_toList] at q
      rw [q] at hc
      cases hc
      subst e2
      exact .str _
  · show z.cps.size ≤ i
    unfold chrs at hi
    simpa using hi
theorem id_list (h : PE X e (lift p w)) (hK : p.K = X.K := by rfl) : PI X tg e (liftI p (wiL w)) := PI.imp (pi_list h) fun σ H Rr ⟨G, s, R, k⟩ => ⟨G, s, R, w.mono _ _ _ (fun d s1 k1 x H1 G1 e1 R1 r1 => by
  obtain ⟨ds, ed, k2⟩ := get_of k1
  cases d <;> cases ed
  cases r1 with
  | lst h k => exact ⟨_, rfl, ⟨_, SqL.of (R1.sub _ _ h)⟩, k2 _ H1 G1 e1 R1 (src_list h k)⟩) k⟩
theorem id_tup (h : PE X e (lift p w)) (hK : p.K = X.K := by rfl) : PI X tg e (liftI p (wiT w)) := PI.imp (pi_tup h) fun σ H Rr ⟨G, s, R, k⟩ => ⟨G, s, R, w.mono _ _ _ (fun d s1 k1 x H1 G1 e1 R1 r1 => by
  obtain ⟨ds, ed, k2⟩ := get_of k1
  cases d <;> cases ed
  cases r1 with
  | tup h k => exact ⟨_, rfl, ⟨_, hK ▸ Same.tup R1.sub h⟩, k2 _ H1 G1 e1 R1 (src_tup hK h k)⟩) k⟩
theorem id_str (h : PE X e (lift p w)) : PI X tg e (liftI p (wiS w)) := PI.imp (pi_str h) fun σ H Rr ⟨G, s, R, k⟩ => ⟨G, s, R, w.mono _ _ _ (fun d s1 k1 x H1 G1 e1 R1 r1 => by
  obtain ⟨z, ez, k2⟩ := get_of k1
  cases strD_of ez
  cases r1
  exact ⟨z, rfl, k2 _ H1 G1 e1 R1 src_str⟩) k⟩
/-- range(n), range(lo, hi) -/
def rngD (lo : Int) (n : Nat) : List D := (List.range n).map fun (i : Nat) => D.int (lo + (i : Int))
theorem src_rng {lo : Int} {n : Nat} {G : Hp} : Src p (Itr lo n) (rngD lo n) G := fun i H' G' e hs => by
  unfold rngD
  refine ⟨fun d hd => ?_, fun hi => (show n ≤ i by simpa using hi)⟩
  rw [List.getElem?_map] at hd
  by_cases hi : i < n
  · rw [List.getElem?_range hi] at hd
    cases hd
    refine ⟨hi, fun y H'' ⟨e1, e2⟩ => .inl ⟨e1, ?_⟩⟩
    subst e2
    exact .int _
  · rw [List.getElem?_eq_none (by simpa using hi)] at hd
    cases hd
def wiR1 (t : WA) : WI := ⟨fun s P => t.f s fun ds s1 => ∃ j, ds = [.int j] ∧ -(2 ^ 62) ≤ j ∧ j < 2 ^ 62 ∧ P (rngD 0 j.toNat) s1, fun s P P' h q => t.mono _ _ _ (fun ds s1 ⟨j, e, a, b, q⟩ => ⟨j, e, a, b, h _ _ q⟩) q⟩
def wiR2 (t : WA) : WI := ⟨fun s P => t.f s fun ds s1 => ∃ i j, ds = [.int i, .int j] ∧ (-(2 ^ 62) ≤ i ∧ i < 2 ^ 62 ∧ -(2 ^ 62) ≤ j ∧ j < 2 ^ 62) ∧ P (rngD i (j - i).toNat) s1, fun s P P' h q => t.mono _ _ _ (fun ds s1 ⟨i, j, e, a, q⟩ => ⟨i, j, e, a, h _ _ q⟩) q⟩
theorem id_range1 {ta : WA} {pf : Pos} (ha : PA X [e] (liftM p [false] ta)) (hm : X.mg "range" = none) (hg : Gl X "range" := by rfl) (hs : starEach [e] X.env = [(false, eval e X.env)] := by rfl) : PI X tg (.Call (.Name "range" pf) [e] [] pos) (liftI p (wiR1 ta)) :=
  PI.imp (pi_range1 hg hm ha hs) fun σ H Rr ⟨G, s, R, k⟩ => ⟨G, s, R, ta.mono _ _ _ (fun ds s1 ⟨j, ed, h1, h2, k1⟩ vs H1 G1 e1 R1 r1 => by
    subst ed
    cases r1 with
    | val r t =>
      cases t
      cases r
      exact ⟨j, rfl, h1, h2, k1 _ H1 G1 e1 R1 src_rng⟩) k⟩
theorem id_range2 {ta : WA} {pf : Pos} (ha : PA X [a, b] (liftM p [false, false] ta)) (hm : X.mg "range" = none) (hg : Gl X "range" := by rfl) (hs : starEach [a, b] X.env = [(false, eval a X.env), (false, eval b X.env)] := by rfl) (hs2 : starEach [b] X.env = [(false, eval b X.env)] := by rfl) : PI X tg (.Call (.Name "range" pf) [a, b] [] pos) (liftI p (wiR2 ta)) :=
  PI.imp (pi_range2 hg hm ha hs hs2) fun σ H Rr ⟨G, s, R, k⟩ => ⟨G, s, R, ta.mono _ _ _ (fun ds s1 ⟨i, j, ed, h1, k1⟩ vs H1 G1 e1 R1 r1 => by
    subst ed
    cases r1 with
    | val r t =>
      cases t with
      | val r2 t =>
        cases t
        cases r
        cases r2
        exact ⟨i, j, rfl, h1, k1 _ H1 G1 e1 R1 src_rng⟩) k⟩

/-! ### for -/
def forW (g : D → List Sl → Option (List Sl)) (tb : WS) (E : ED) : List D → S → Prop
  | [], s => E.nx s
  | d :: ds, s => get (g d s.env) fun env' => tb.f { nx := forW g tb E ds, rt := E.rt, bk := E.nx, ct := forW g tb E ds } { s with env := env' }
theorem forW_mono {g : D → List Sl → Option (List Sl)} {tb : WS} {E E' : ED} (h : ED.Le E E') : ∀ ds s, forW g tb E ds s → forW g tb E' ds s
  | [], s, q => h.nx s q
  | d :: ds, s, q => get_mono (fun env' q => tb.mono { nx := forW g tb E ds, rt := E.rt, bk := E.nx, ct := forW g tb E ds } { nx := forW g tb E' ds, rt := E'.rt, bk := E'.nx, ct := forW g tb E' ds } _ (ED.Le.mk (forW_mono h ds) h.rt h.nx (forW_mono h ds)) q) q
def wForS (wi : WI) (g : D → List Sl → Option (List Sl)) (tb : WS) : WS := ⟨fun E s => wi.f s fun ds s1 => forW g tb E ds s1, fun E E' s h q => wi.mono _ _ _ (fun ds s1 q => forW_mono h ds s1 q) q⟩
theorem sd_for {wi : WI} {g : D → List Sl → Option (List Sl)} {tb : WS} {body : List Stmt} (hi : PI X tg e (liftI p wi)) (hg : PG X tg (liftG p g)) (hb : PSs X body (liftS p tb)) (hp : PassesOwn (model X.prog X.w) X.A X.env X.xe := by exact PassesOwn.never) (hc : X.calm = true := by rfl) (hs : ∀ x, foldedSetIterable e X.env x = pure x := by intro _; rfl) :
    PS X (.For tg e body [] pos) (liftS p (wForS wi g tb)) := PS.imp (ps_for hp hc hi hg hb hs) fun D σ H ⟨G, s, E, R, k, q⟩ => ⟨G, s, R, wi.mono _ _ _ (fun ds s1 k1 J H1 G1 e1 R1 src => by
    refine ⟨fun i m σ' H' => m = ds.length - i ∧ i ≤ ds.length ∧ ∃ G' s', Same G1 G' ∧ p.Rs σ' H' G' s' ∧ forW g tb E (ds.drop i) s', ⟨ds.length, by simp, Nat.zero_le _, G1, s1, Same.refl G1, R1, by simpa using k1⟩, ?_⟩
    rintro i m σ' H' ⟨rfl, hi, G', s', e2, R2, k2⟩
    obtain ⟨s1', s2'⟩ := src i H' G' e2 R2.sub
    by_cases hlt : i < ds.length
    · right
      have hd : ds[i]? = some ds[i] := List.getElem?_eq_getElem hlt
      obtain ⟨go, yl⟩ := s1' _ hd
      rw [List.drop_eq_getElem_cons hlt] at k2
      obtain ⟨env', eg, k3⟩ := get_of k2
      refine ⟨go, fun σ2 H2 => ∃ G2 s2, Same G1 G2 ∧ p.Rs σ2 H2 G2 s2 ∧ forW g tb E (ds.drop (i + 1)) s2, fun σ2 H2 ⟨G2, s2, z1, z2, z3⟩ => ⟨ds.length - (i + 1), by omega, rfl, hlt, G2, s2, z1, z2, z3⟩, fun x H'' y => ?_⟩
      have cm : ∀ {G3 : Hp}, Same G1 G3 → Cmp p G3 { nx := forW g tb E (ds.drop (i + 1)), rt := E.rt, bk := E.nx, ct := forW g tb E (ds.drop (i + 1)) } { D with nx := fun σ2 H2 => ∃ G2 s2, Same G1 G2 ∧ p.Rs σ2 H2 G2 s2 ∧ forW g tb E (ds.drop (i + 1)) s2, ct := fun σ2 H2 => ∃ G2 s2, Same G1 G2 ∧ p.Rs σ2 H2 G2 s2 ∧ forW g tb E (ds.drop (i + 1)) s2, bk := D.nx } := fun {G3} e3 =>
        ⟨fun σ4 H4 G4 s4 a R4 k4 => ⟨G4, s4, e3.trans a, R4, k4⟩, fun v σ4 H4 G4 d4 s4 a R4 r4 k4 => q.rt v σ4 H4 G4 d4 s4 (e1.trans (e3.trans a)) R4 r4 k4, fun σ4 H4 G4 s4 a R4 k4 => q.nx σ4 H4 G4 s4 (e1.trans (e3.trans a)) R4 k4, fun σ4 H4 G4 s4 a R4 k4 => ⟨G4, s4, e3.trans a, R4, k4⟩⟩
      rcases yl x H'' y with ⟨rfl, rx⟩ | ⟨q1, o, hq, rfl, rfl, rx⟩
      · exact ⟨G', s', _, env', R2, rx, eg, fun σ3 H3 G3 e3 R3 => ⟨G3, _, _, R3, k3, cm (e2.trans e3)⟩⟩
      · have e4 : Same G' (upd G' q1 o) := Same.upd (R2.sub.none hq)
        exact ⟨_, s', _, env', R2.alloc hq, rx, eg, fun σ3 H3 G3 e3 R3 => ⟨G3, _, _, R3, k3, cm ((e2.trans e4).trans e3)⟩⟩
    · left
      have e0 : i = ds.length := by omega
      subst e0
      rw [List.drop_length] at k2
      exact ⟨s2' (Nat.le_refl _), q.nx σ' H' G' s' (e1.trans e2) R2 k2⟩) k⟩
end
end DI
/-! Comprehensions; a def by its body; a slot's own list. -/
namespace DI
open PySem L2
section
variable {p : Pl} {σ : St} {H G H' G' : Hp} {s : S}
/-- the slots' lists stand elsewhere -/
def Away (σ : St) (env : List Sl) (D : Addr) : Prop := ∀ (i : Nat) (ds : List DI.D) (q : Addr), (env[i]? = some (.own ds) ∨ env[i]? = some (.bor ds)) → σ[i]? = some (some (.ref q)) → q ≠ D
theorem Rs.away (R : p.Rs σ H G s) {D : Addr} (h : H D = none) : Away σ s.env D := fun i ds q e hq z => by
  subst z
  rcases e with e | e
  · obtain ⟨q1, xs, e1, h1, _⟩ := R.slot i _ e
    rw [hq] at e1
    cases e1
    rw [h] at h1
    cases h1
  · obtain ⟨q1, xs, e1, h1, _⟩ := R.slot i _ e
    rw [hq] at e1
    cases e1
    rw [h] at h1
    cases h1
/-- an object that nobody knows is changed -/
theorem Rs.poke (R : p.Rs σ H G s) {D : Addr} (k : ∀ a, a ≠ D → H' a = H a) (aw : Away σ s.env D) (g : G D = none) (d : p.dr ≠ some D) (h0 : p.H0 D = none) : p.Rs σ H' G s := by
  refine ⟨fun a o e => ?_, fun a o hd e => ?_, R.new, R.len, fun i x hx => ?_, R.inj, fun a ha => ?_⟩
  · have ne : a ≠ D := fun z => by rw [z, g] at e; cases e
    rw [k a ne]
    exact R.sub a o e
  · have ne : a ≠ D := fun z => by rw [z, h0] at e; cases e
    rw [k a ne]
    exact R.base a o hd e
  · have q := R.slot i x hx
    cases x with
    | emp => trivial
    | val y => exact q
    | own ds =>
      obtain ⟨q1, xs, e1, h1, h2⟩ := q
      exact ⟨q1, xs, e1, by rw [k q1 (aw i ds q1 (.inl hx) e1)]; exact h1, h2⟩
    | bor ds =>
      obtain ⟨q1, xs, e1, h1, h2⟩ := q
      exact ⟨q1, xs, e1, by rw [k q1 (aw i ds q1 (.inr hx) e1)]; exact h1, h2⟩
  · obtain ⟨f, L, ns, x, l, u, e1, e2, kk⟩ := R.drw a ha
    have ne : a ≠ D := fun z => d (by rw [ha, z])
    exact ⟨f, L, ns, x, l, u, by rw [k a ne]; exact e1, e2, kk⟩
def toBor : Sl → Sl
  | .own ds => .bor ds
  | x => x
def wipeE : List Nat → List Sl → List Sl
  | [], env => env
  | v :: vs, env => (wipeE vs env).set v .emp
def innE (vs : List Nat) (env : List Sl) : List Sl := wipeE vs (env.map toBor)
theorem wipeE_length : ∀ (vs : List Nat) (env : List Sl), (wipeE vs env).length = env.length
  | [], _ => rfl
  | v :: vs, env => by rw [wipeE, List.length_set, wipeE_length vs env]
theorem innE_length (vs : List Nat) (env : List Sl) : (innE vs env).length = env.length := by
  unfold innE
  rw [wipeE_length, List.length_map]
theorem wipe_get {i : Nat} : ∀ {vs : List Nat} {env : List Sl} {x : Sl}, (wipeE vs env)[i]? = some x → x = .emp ∨ (env[i]? = some x ∧ (wipe σ vs)[i]? = σ[i]?)
  | [], env, x, h => .inr ⟨h, rfl⟩
  | v :: vs, env, x, h => by
    unfold wipeE at h
    by_cases hv : v = i
    · subst hv
      by_cases hl : v < (wipeE vs env).length
      · rw [List.getElem?_set_self hl] at h
        cases h
        exact .inl rfl
      · rw [List.getElem?_eq_none (by rw [List.length_set]; omega)] at h
        cases h
    · rw [List.getElem?_set_ne hv] at h
      rcases wipe_get h with q | ⟨q1, q2⟩
      · exact .inl q
      · refine .inr ⟨q1, ?_⟩
        show ((wipe σ vs).set v none)[i]? = σ[i]?
        rw [List.getElem?_set_ne hv]
        exact q2
/-- the block's own state -/
theorem Rs.inner (R : p.Rs σ H G s) (vs : List Nat) : (⟨p.K, p.dr, H, G⟩ : Pl).Rs (wipe σ vs) H G ⟨innE vs s.env, s.n⟩ := by
  refine ⟨R.sub, fun a o _ e => e, fun a h1 _ => h1, by rw [wipe_length, innE_length]; exact R.len, fun i x hx => ?_, fun i j q ds es hij e1 e2 e3 => ?_, R.drw⟩
  · rcases wipe_get (σ := σ) hx with rfl | ⟨h1, h2⟩
    · trivial
    · rw [h2]
      rw [List.getElem?_map] at h1
      cases e : s.env[i]? with
      | none => rw [e] at h1; cases h1
      | some y =>
        rw [e] at h1
        cases h1
        have q := R.slot i y e
        cases y with
        | emp => trivial
        | val d => exact q
        | own ds =>
          obtain ⟨q1, xs, e1, h1, h2, h3, h4, r⟩ := q
          exact ⟨q1, xs, e1, h1, (by rw [show (⟨p.K, p.dr, H, G⟩ : Pl).H0 = H from rfl, h1]; exact (fun z => nomatch z)), r⟩
        | bor ds =>
          obtain ⟨q1, xs, e1, h1, h2, r⟩ := q
          exact ⟨q1, xs, e1, h1, (by rw [show (⟨p.K, p.dr, H, G⟩ : Pl).H0 = H from rfl, h1]; exact (fun z => nomatch z)), r⟩
  · have no : ∀ {k : Nat} {fs : List D}, (innE vs s.env)[k]? ≠ some (.own fs) := fun {k fs} z => by
      rcases wipe_get (σ := σ) z with z | ⟨z, _⟩
      · cases z
      · rw [List.getElem?_map] at z
        cases e : s.env[k]? with
        | none => rw [e] at z; cases z
        | some y =>
          rw [e] at z
          cases y <;> cases z
    exact absurd e1 no
end

section
variable {X : Cx} {p : Pl}
/-- a comprehension's target -/
structure LcT (p : Pl) (g : TG) (ge : D → List Sl → Option (List Sl)) (vs : List Nat) : Prop where
  run : ∀ (σ0 : St) (H0 G0 H G : Hp) (v : V) (d : D) (n : Nat) (env env' : List Sl), (⟨p.K, p.dr, H0, G0⟩ : Pl).Rs (wipe σ0 vs) H G ⟨env, n⟩ → p.Rp G v d → ge d env = some env' →
    ∃ σ2, wipe σ2 vs = wipe σ0 vs ∧ (⟨p.K, p.dr, H0, G0⟩ : Pl).Rs σ2 H G ⟨env', n⟩ ∧ ∀ Q : St → Hp → Prop, Q σ2 H → g v (wipe σ0 vs) H Q
theorem wipe_set_in {v : Nat} {x : Option V} : ∀ {vs : List Nat} {σ : St}, v ∈ vs → wipe (σ.set v x) vs = wipe σ vs
  | [], _, h => by cases h
  | u :: vs, σ, h => by
    unfold wipe
    by_cases e : v ∈ vs
    · rw [wipe_set_in e]
    · have e2 : v = u := by
        rcases List.mem_cons.mp h with z | z
        · exact z
        · exact absurd z e
      subst e2
      have comm : ∀ (ws : List Nat) (τ : St), v ∉ ws → wipe (τ.set v x) ws = (wipe τ ws).set v x := fun ws => by
        induction ws with
        | nil => intro τ _; rfl
        | cons w ws ih =>
          intro τ hw
          have h1 : v ≠ w := fun z => hw (by rw [z]; exact List.mem_cons_self)
          have h2 : v ∉ ws := fun z => hw (List.mem_cons_of_mem _ z)
          show (wipe (τ.set v x) ws).set w none = ((wipe τ ws).set w none).set v x
          rw [ih τ h2, List.set_comm _ _ h1]
      rw [comm vs σ e, List.set_set]
theorem wipe_twice : ∀ {vs : List Nat} {σ : St}, wipe (wipe σ vs) vs = wipe σ vs := fun {vs σ} => by
  have key : ∀ (ws : List Nat), (∀ w ∈ ws, w ∈ vs) → wipe (wipe σ ws) vs = wipe σ vs := fun ws => by
    induction ws with
    | nil => intro _; rfl
    | cons w ws ih =>
      intro h
      show wipe ((wipe σ ws).set w none) vs = wipe σ vs
      rw [wipe_set_in (h w List.mem_cons_self)]
      exact ih fun u hu => h u (List.mem_cons_of_mem _ hu)
  exact key vs fun _ h => h
theorem lct_name {j : Nat} {vs : List Nat} (h : j ∈ vs := by decide) : LcT p (gName j) (gNm j) vs := ⟨fun σ0 H0 G0 H G v d n env env' R r e => by
  unfold gNm at e
  split at e
  · cases e
    refine ⟨(wipe σ0 vs).set j (some v), by rw [wipe_set_in h, wipe_twice], ?_, fun Q q => q⟩
    exact Rs.set R (by rw [← R.len]; assumption) r
  · cases e⟩

/-- [elt for target in ds if ..] -/
def lcGo (ge : D → List Sl → Option (List Sl)) (vs : List Nat) (tt : WT) (te : W) (env : List Sl) : List D → List D → Nat → (List D → Nat → Prop) → Prop
  | [], acc, n, P => P acc n
  | d :: ds, acc, n, P => get (ge d (innE vs env)) fun env' => tt.f ⟨env', n⟩ fun b s1 => if b = true then te.f s1 fun y s2 => acc.length < sizeLine ∧ lcGo ge vs tt te env ds (acc ++ [y]) s2.n P else lcGo ge vs tt te env ds acc s1.n P
theorem lcGo_mono {ge : D → List Sl → Option (List Sl)} {vs : List Nat} {tt : WT} {te : W} {env : List Sl} {P P' : List D → Nat → Prop} (h : ∀ a n, P a n → P' a n) : ∀ (ds acc : List D) (n : Nat), lcGo ge vs tt te env ds acc n P → lcGo ge vs tt te env ds acc n P'
  | [], acc, n, q => h _ _ q
  | d :: ds, acc, n, q => get_mono (fun env' q => tt.mono _ _ _ (fun b s1 q => by
    cases b with
    | true => exact te.mono _ _ _ (fun y s2 q => ⟨q.1, lcGo_mono h ds _ _ q.2⟩) q
    | false => exact lcGo_mono h ds _ _ q) q) q
def wLc (wi : WI) (ge : D → List Sl → Option (List Sl)) (vs : List Nat) (tt : WT) (te : W) : WA := ⟨fun s P => wi.f s fun ds s1 => lcGo ge vs tt te s1.env ds [] s1.n fun acc n => P acc { s1 with n := n },
  fun s P P' h q => wi.mono _ _ _ (fun ds s1 q => lcGo_mono (fun a n q => h _ _ q) _ _ _ q) q⟩
def wtYes : WT := ⟨fun s P => P true s, fun _ _ _ h q => h _ _ q⟩
/-- the block's readings, wherever it starts -/
def liftX (p : Pl) (w : W) : TE := fun σ H Q => ∃ H0 G0, lift ⟨p.K, p.dr, H0, G0⟩ w σ H Q
def liftXT (p : Pl) (w : WT) : TT := fun σ H Q => ∃ H0 G0, liftT ⟨p.K, p.dr, H0, G0⟩ w σ H Q
theorem pe_X {Y : Cx} {e : Expr} {w : W} (h : ∀ H0 G0, PE Y e (lift ⟨p.K, p.dr, H0, G0⟩ w)) : PE Y e (liftX p w) := ⟨fun pins s σ H Q I ⟨H0, G0, k⟩ => (h H0 G0).run pins s σ H Q I k⟩
theorem pts_X {Y : Cx} {es : List Expr} {w : WT} (h : ∀ H0 G0, PTs Y es (liftT ⟨p.K, p.dr, H0, G0⟩ w)) : PTs Y es (liftXT p w) := ⟨fun pins s σ H Q I ⟨H0, G0, k⟩ => (h H0 G0).run pins s σ H Q I k⟩
theorem pts_yes {Y : Cx} : PTs Y [] (liftT p wtYes) := ⟨fun pins s σ H Q I ⟨G, st, R, k⟩ => pts_nil.run pins s σ H Q I (k H G (Same.refl G) R)⟩
theorem pts_of {Y : Cx} {c : Expr} {w : WT} (h : PT Y c (liftT p w)) : PTs Y [c] (liftT p w) := pts_one h

theorem lc_lift {wi : WI} {g : TG} {ge : D → List Sl → Option (List Sl)} {vs : List Nat} {tt : WT} {te : W} (T : LcT p g ge vs) (σ : St) (H : Hp) (Q : VK) (h : liftL p (wLc wi ge vs tt te) σ H Q) : tLc (liftI p wi) g (liftXT p tt) (liftX p te) vs σ H Q := by
  obtain ⟨G, s, R, k⟩ := h
  refine ⟨G, s, R, wi.mono _ _ _ (fun ds s1 k1 J H1 G1 e1 R1 src L hL => ?_) k⟩
  have gL : G1 L = none := R1.sub.none hL
  have dL : p.dr ≠ some L := R1.drw.ne hL
  have h0L : p.H0 L = none := by
    cases e : p.H0 L with
    | none => rfl
    | some o =>
      have z := R1.base L o dL e
      rw [hL] at z
      cases z
  have aw := Rs.away R1 hL
  refine ⟨fun i m H' => m = ds.length - i ∧ i ≤ ds.length ∧ ∃ G' n acc accV, Same G1 G' ∧ p.Rs σ H' G' { s1 with n := n } ∧ G' L = none ∧ H' L = some (.lst accV) ∧ p.RpA G' accV acc ∧
    lcGo ge vs tt te s1.env (ds.drop i) acc n (fun acc n => ∀ q xs H' G', Same G G' → p.Rs σ H' G' { s1 with n := n } → p.RpA G' xs acc → H' q = none → Q (.ref q) (upd H' q (.lst xs))),
    ⟨ds.length, by simp, Nat.zero_le _, G1, s1.n, [], [], Same.refl G1, Rs.poke R1 (fun a ha => upd_ne ha) aw gL dL h0L, gL, upd_same, .nil, by simpa using k1⟩, ?_⟩
  rintro i m H' ⟨rfl, hi, G', n, acc, accV, e2, R2, g2, l2, ra, k2⟩
  obtain ⟨s1', s2'⟩ := src i H' G' e2 R2.sub
  by_cases hlt : i < ds.length
  · right
    have hd : ds[i]? = some ds[i] := List.getElem?_eq_getElem hlt
    obtain ⟨go, yl⟩ := s1' _ hd
    rw [List.drop_eq_getElem_cons hlt] at k2
    obtain ⟨env', eg, k3⟩ := get_of k2
    refine ⟨go, fun H' => i + 1 ≤ ds.length ∧ ∃ G' n acc accV, Same G1 G' ∧ p.Rs σ H' G' { s1 with n := n } ∧ G' L = none ∧ H' L = some (.lst accV) ∧ p.RpA G' accV acc ∧
      lcGo ge vs tt te s1.env (ds.drop (i + 1)) acc n (fun acc n => ∀ q xs H' G', Same G G' → p.Rs σ H' G' { s1 with n := n } → p.RpA G' xs acc → H' q = none → Q (.ref q) (upd H' q (.lst xs))), fun H2 ⟨z0, z⟩ => ⟨ds.length - (i + 1), by omega, rfl, z0, z⟩, fun x H'' y => ?_⟩
    -- the turn, from a state of both heaps
    have turn : ∀ (H3 G3 : Hp), Same G' G3 → p.Rs σ H3 G3 { s1 with n := n } → G3 L = none → H3 L = some (.lst accV) → p.Rp G3 x ds[i] → g x (wipe σ vs) H3 fun σ2 H2 => wipe σ2 vs = wipe σ vs ∧ liftXT p tt σ2 H2 fun b H3 =>
        if b = true then liftX p te σ2 H3 fun y H4 => ∃ acc, H4 L = some (.lst acc) ∧ acc.length < sizeLine ∧ (i + 1 ≤ ds.length ∧ ∃ G' n acc' accV, Same G1 G' ∧ p.Rs σ (upd H4 L (.lst (acc ++ [y]))) G' { s1 with n := n } ∧ G' L = none ∧ (upd H4 L (.lst (acc ++ [y]))) L = some (.lst accV) ∧ p.RpA G' accV acc' ∧
          lcGo ge vs tt te s1.env (ds.drop (i + 1)) acc' n (fun acc n => ∀ q xs H' G', Same G G' → p.Rs σ H' G' { s1 with n := n } → p.RpA G' xs acc → H' q = none → Q (.ref q) (upd H' q (.lst xs))))
        else i + 1 ≤ ds.length ∧ ∃ G' n acc accV, Same G1 G' ∧ p.Rs σ H3 G' { s1 with n := n } ∧ G' L = none ∧ H3 L = some (.lst accV) ∧ p.RpA G' accV acc ∧
          lcGo ge vs tt te s1.env (ds.drop (i + 1)) acc n (fun acc n => ∀ q xs H' G', Same G G' → p.Rs σ H' G' { s1 with n := n } → p.RpA G' xs acc → H' q = none → Q (.ref q) (upd H' q (.lst xs))) := fun H3 G3 e3 R3 g3 l3 rx => by
      obtain ⟨σ2, w2, R4, kq⟩ := T.run σ H3 G3 H3 G3 x ds[i] n _ env' (Rs.inner R3 vs) rx eg
      refine kq _ ⟨w2, H3, G3, G3, _, R4, tt.mono _ _ _ (fun b sb kb H5 G5 e5 R5 => ?_) k3⟩
      have l5 : H5 L = some (.lst accV) := R5.base L _ dL l3
      have g5 : G5 L = none := R5.new L g3 (by rw [show (⟨p.K, p.dr, H3, G3⟩ : Pl).H0 = H3 from rfl, l3]; exact fun z => by cases z)
      cases b with
      | true =>
        refine ⟨H3, G3, G5, sb, R5, te.mono _ _ _ (fun y s6 k6 v H6 G6 e6 R6 r6 => ?_) kb⟩
        have l6 : H6 L = some (.lst accV) := R6.base L _ dL l3
        have g6 : G6 L = none := R6.new L g3 (by rw [show (⟨p.K, p.dr, H3, G3⟩ : Pl).H0 = H3 from rfl, l3]; exact fun z => by cases z)
        have e36 := e5.trans e6
        have R7 := Rs.call R3 e36 R6.base R6.sub R6.new R6.drw
        refine ⟨accV, l6, by rw [ra.length]; exact k6.1, hlt, G6, s6.n, acc ++ [y], accV ++ [v], (e2.trans e3).trans e36, Rs.poke R7 (fun a ha => upd_ne ha) aw g6 dL h0L, g6, upd_same, (ra.mono (e3.trans e36)).append (.cons r6 .nil), k6.2⟩
      | false =>
        have R7 := Rs.call R3 e5 R5.base R5.sub R5.new R5.drw
        exact ⟨hlt, G5, sb.n, acc, accV, (e2.trans e3).trans e5, R7, g5, l5, ra.mono (e3.trans e5), kb⟩
    rcases yl x H'' y with ⟨rfl, rx⟩ | ⟨q1, o, hq, rfl, rfl, rx⟩
    · exact turn _ G' (Same.refl G') R2 g2 l2 rx
    · have ne : L ≠ q1 := fun z => by
        subst z
        rw [l2] at hq
        cases hq
      exact turn _ _ (Same.upd (R2.sub.none hq)) (R2.alloc hq) (by rw [upd_ne ne]; exact g2) (by rw [upd_ne ne]; exact l2) rx
  · left
    have e0 : i = ds.length := by omega
    subst e0
    rw [List.drop_length] at k2
    refine ⟨s2' (Nat.le_refl _), ?_⟩
    have R3 : p.Rs σ (fun a => if a = L then none else H' a) G' { s1 with n := n } := Rs.poke R2 (fun a ha => if_neg ha) aw g2 dL h0L
    have q := k2 L accV _ G' (e1.trans e2) R3 ra (if_pos rfl)
    have eH : upd (fun a => if a = L then none else H' a) L (.lst accV) = H' := by
      funext a
      unfold upd
      by_cases h : a = L
      · subst h
        rw [if_pos rfl, l2]
      · rw [if_neg h]
        exact if_neg h
    rw [eH] at q
    exact q
theorem ld_lc {elt tg iter : Expr} {ifs : List Expr} {scope : Scope} {own : List (Str × Nat)} {pos : Pos} {wi : WI} {g : TG} {ge : D → List Sl → Option (List Sl)} {tt : WT} {te : W} (hN : X.N.Nodup) (hi : PI X tg iter (liftI p wi)) (T : LcT p g ge (own.map (·.2))) (ok : blkC X.N X.env.scope scope own = true)
    (hg : ∀ (s : Shared) (H : Hp) (C : Addr) (cl : List (Str × Addr)) (fp : List Addr), PG (X.blk s H scope (compEnvC scope cl C X.env) fp) tg g)
    (ht : ∀ (s : Shared) (H : Hp) (C : Addr) (cl : List (Str × Addr)) (fp : List Addr) (H0 G0 : Hp), PTs (X.blk s H scope (compEnvC scope cl C X.env) fp) ifs (liftT ⟨p.K, p.dr, H0, G0⟩ tt))
    (he : ∀ (s : Shared) (H : Hp) (C : Addr) (cl : List (Str × Addr)) (fp : List Addr) (H0 G0 : Hp), PE (X.blk s H scope (compEnvC scope cl C X.env) fp) elt (lift ⟨p.K, p.dr, H0, G0⟩ te))
    (hc : X.calm = true := by rfl) (hs : ∀ x, foldedSetIterable iter X.env x = pure x := by intro _; rfl) : PE X (.ListComp elt [⟨tg, iter, ifs, 0⟩] scope pos) (liftL p (wLc wi ge (own.map (·.2)) tt te)) :=
  PE.imp (pe_lc (own := own) hc hN hi (blkOk_by ok) hg (fun s H C cl fp => pts_X (ht s H C cl fp)) (fun s H C cl fp => pe_X (he s H C cl fp)) hs) (lc_lift T)
end
end DI
/-! A def by its body, where it is known that no object is being shown; repr; a slot's own list; the law's end. -/
namespace DI
open PySem PySem.Spec PyProof.Rows L2
/-- a def's promise, kept where no object is being shown -/
structure FnG (P : Program) (w : World) (K : PySem.W.Frag) (mg : Str → Option Value) (base : Heap) (k : Nat) (f : Addr) (fd : FuncData) (ps : List Str) (sp : Sp) : Prop where
  len : ∀ vs H Q E, sp vs H Q E → vs.length = ps.length
  go : ∀ (A : Around) (callers : List Env) (st : Shared) (H : Hp) (args : Args) (us : List Value) (vs : List V) (Q : VK) (E : XK), Room k A → A.guards = some [] → Env0 P w K mg base A callers st H →
    BindsTo st fd args (ps.zip us) → Vals vs us → sp vs H Q E → codeAny (model P w) A (.call (.ref f) args) (CR CX0 callers P w H st Q E) st
theorem FnG.mono {P : Program} {w : World} {K : PySem.W.Frag} {mg : Str → Option Value} {base : Heap} {j k : Nat} {f : Addr} {fd : FuncData} {ps : List Str} {sp : Sp} (F : FnG P w K mg base j f fd ps sp) (h : j ≤ k) : FnG P w K mg base k f fd ps sp :=
  ⟨F.len, fun A callers st H args us vs Q E hr => F.go A callers st H args us vs Q E (hr.mono h)⟩
section
variable {P : Program} {w : World} {K : PySem.W.Frag} {mg : Str → Option Value} {base : Heap}
theorem fng_of {k : Nat} {f : Addr} {nm qual : Str} {prm : Arguments} {body : List Stmt} {scope : Scope} {dV kV doc pm cdv ct oc : Value} {an od : Option Addr} {osl : Array (Option Value)} {N ps : List Str} {sp : Sp}
    (lk : K.lookup f = some ⟨oc, od, .func (PySem.W.fnOf nm qual prm body scope dV kV doc pm an cdv ct), osl⟩) (hcd : PySem.W.codeIn K cdv qual = true) (Sc : FnScope N ps scope) (len : ∀ vs H Q E, sp vs H Q E → vs.length = ps.length)
    (hbody : ∀ (A : Around) (callers : List Env) (st : Shared) (H : Hp) (vs : List V) (Q : VK) (E : XK), Room k (A.deeper (envOfC qual scope st.heap.objs.size f cdv)) → A.guards = some [] → sp vs H Q E →
      ∃ t, PSs (cxOf CX0 P w K mg base N qual scope f cdv A callers st H E) body t ∧ t { nx := fun _ H' => Q .non H', rt := Q } (L2.start N vs) H) :
    FnG P w K mg base (k + 1) f (PySem.W.fnOf nm qual prm body scope dV kV doc pm an cdv ct) ps sp := by
  refine ⟨len, fun A callers st H args us vs Q E room hga env0 hb rv hsp => ?_⟩
  have kin : K.In st.heap := env0.mod.kin.keeps fun b o e => (env0.bs b o e).1
  have nolim : st.heap.NoLimit := env0.mod.nolimit.keeps fun b o e => (env0.bs b o e).1
  have kinds : ∀ y ∈ ps.zip us, scope.names.lookup y.1 = some .local ∨ (scope.names.lookup y.1 = some .cell ∧ ((cellsFrom (st.heap.objs.size + 1) scope.names []).lookup y.1).isSome = true) := by
    rintro ⟨n, v⟩ hy
    cases Sc.par n (List.of_mem_zip hy).1 with
    | inl q => exact Or.inl q
    | inr q => exact Or.inr ⟨q, PySem.W.cellsFrom_some _ _ _ (Or.inl q)⟩
  refine codeAny_call_function room.depth (kin _ _ lk) rfl Sc.co Sc.gen rfl (PySem.W.codeRec_of kin hcd) (hb _ _ _ _ ?_)
  refine wpAny_newFunctionEnv_cells Sc.kind kinds fun env he st1 ic => ?_
  cases he
  refine ⟨nolim.keeps ic.toInCall.keep, codeAny_func ?_⟩
  obtain ⟨t, ht, tq⟩ := hbody A callers st H vs Q E (room.deeper _) hga hsp
  have I : Inv (cxOf CX0 P w K mg base N qual scope f cdv A callers st H E) [] (L2.start N vs) H st1 := inv_start Sc room.hd env0 (len _ _ _ _ hsp) rv ic
  refine wpAny_mono (ht.run [] st1 (L2.start N vs) H _ I tq) (fun fl st2 hs => ?_) fun _ _ z => z
  cases fl with
  | next =>
    obtain ⟨σ2, H2, J, q⟩ := hs
    exact ⟨.non, H2, J.os, J.bare, J.base, J.hok, rfl, q⟩
  | ret u =>
    obtain ⟨v, σ2, H2, J, r2, q⟩ := hs
    exact ⟨v, H2, J.os, J.bare, J.base, J.hok, r2, q⟩
  | brk =>
    obtain ⟨_, _, _, q⟩ := hs
    exact q.elim
  | cont =>
    obtain ⟨_, _, _, q⟩ := hs
    exact q.elim
end
section
variable {X : Cx} {k : Nat} {f : Addr} {fd : FuncData} {ps : List Str} {sp : Sp} {x : Str} {pf pos : Pos} {e : Expr} {es : List Expr} {t : TA}
theorem run_fng {pins : List (Addr × Obj)} {σ : L2.St} {H : Hp} {st : Shared} {Q : VK} {us : List Value} {vs : List V} (F : FnG X.prog X.w X.K X.mg X.base k f fd ps sp) (room : Room k X.A) (hga : X.A.guards = some []) (hb : Binds X.K fd ps [])
    (I : Inv X pins σ H st) (r : Vals vs us) (h : sp vs H Q E0) : wpAny (model X.prog X.w) X.A (call (.ref f) us) (EP X pins σ Q) X.xe st := by
  have hl : (us ++ []).length = ps.length := by rw [List.append_nil, ← r.length]; exact F.len _ _ _ _ h
  have hb' := hb st us I.kIn hl
  rw [List.append_nil] at hb'
  refine wpAny_call (codeAny_mono (F.go X.A X.stack st H ⟨us, []⟩ us vs Q E0 room hga I.env0 hb' r h) fun res st2 hq => ?_)
  cases res with
  | error err => exact (show False from hq).elim
  | ok fl =>
    cases fl with
    | ret u => exact I.after hq
    | next => exact (show False from hq).elim
    | brk => exact (show False from hq).elim
    | cont => exact (show False from hq).elim
theorem pe_callG (F : FnG X.prog X.w X.K X.mg X.base k f fd ps sp) (room : Room k X.A) (hga : X.A.guards = some []) (hm : X.mg x = some (.ref f)) (hk : PySem.W.keepIn X.K (.ref f) = true) (hb : Binds X.K fd ps []) (ha : PA X (e :: es) t) (hg : Gl X x := by rfl)
    (hdb : (x == ("__debug__" : Str)) = false := by decide) (he : starEach (e :: es) X.env = (false, eval e X.env) :: starEach es X.env := by rfl) (hpl : (backTo pos (starEach es X.env)).any (·.1) = false := by rfl) :
    PE X (.Call (.Name x pf) (e :: es) [] pos) (fun σ H Q => t σ H fun vs H1 => sp vs H1 Q E0) := by
  refine ⟨fun pins st σ H Q I h => wpAny_Call_Name_kw (ld_glob I hg hm ?_ hdb)⟩
  exact PySem.W.callWith_K (h₀ := X.base) I.ok.mod.kin hk (thn (ha.run pos pins st σ H _ I h) fun us st1 ⟨vs, H1, I1, r, q⟩ => ⟨I1.kIn, run_fng F room hga hb I1 r q⟩) he hpl
end

/-! ### a def by data -/
def initSl : Bool → D → Sl
  | true, .lst ds => .bor ds
  | _, d => .val d
def initE : Nat → List Bool → List D → List Sl
  | n, m :: ms, d :: ds => initSl m d :: initE (n - 1) ms ds
  | n, _, _ => List.replicate n .emp
theorem initE_length : ∀ (n : Nat) (ms : List Bool) (ds : List D), ms.length = ds.length → ms.length ≤ n → (initE n ms ds).length = n
  | n, [], [], _, _ => by simp [initE]
  | n, m :: ms, d :: ds, h, hn => by
    simp only [initE, List.length_cons]
    simp only [List.length_cons] at h hn
    rw [initE_length (n - 1) ms ds (by omega) (by omega)]
    omega
  | n, [], d :: ds, h, _ => by simp at h
  | n, m :: ms, [], h, _ => by simp at h
theorem initE_slot {p : Pl} {H G : Hp} (h0 : p.H0 = H) (hs : Sub G H) : ∀ {ms : List Bool} {vs : List V} {ds : List D}, RpM p H G ms vs ds → ∀ (n : Nat) (i : Nat) (x : Sl), (initE n ms ds)[i]? = some x →
    SlR p.K p.dr p.H0 H G (vs.map some ++ List.replicate (n - vs.length) none)[i]? x ∧ ∀ fs, x ≠ .own fs
  | _, _, _, .nil, n, i, x, hx => by
    simp only [initE] at hx
    rw [List.getElem?_replicate] at hx
    split at hx <;> cases hx
    exact ⟨trivial, fun fs z => nomatch z⟩
  | _, _, _, .val r t, n, i, x, hx => by
    simp only [initE] at hx
    cases i with
    | zero =>
      have e : x = .val ‹D› := by
        simp only [List.getElem?_cons_zero, Option.some.injEq] at hx
        subst hx
        rfl
      subst e
      exact ⟨⟨_, rfl, r⟩, fun fs z => nomatch z⟩
    | succ i =>
      simp only [List.getElem?_cons_succ] at hx
      have q := initE_slot h0 hs t (n - 1) i x hx
      simpa [Nat.sub_sub, Nat.add_comm] using q
  | _, _, _, .bor (d := d) r t, n, i, x, hx => by
    simp only [initE] at hx
    cases i with
    | zero =>
      simp only [List.getElem?_cons_zero, Option.some.injEq] at hx
      subst hx
      cases d with
      | lst ds =>
        obtain ⟨a, xs, rfl, h, k⟩ := r
        exact ⟨⟨a, xs, rfl, h, by rw [h0, h]; exact (fun z => nomatch z), k⟩, fun fs z => nomatch z⟩
      | _ => exact ⟨⟨_, rfl, r⟩, fun fs z => nomatch z⟩
    | succ i =>
      simp only [List.getElem?_cons_succ] at hx
      have q := initE_slot h0 hs t (n - 1) i x hx
      simpa [Nat.sub_sub, Nat.add_comm] using q
theorem fnd_of {P : Program} {w : World} {K : PySem.W.Frag} {mg : Str → Option Value} {base : Heap} {nm qual : Str} {st : Stmt} {f : Addr} {fd : FuncData} {N ps : List Str} {k : Nat} {ms : List Bool} {F : FT} {ws : WS} {dr : Option Addr} (U : Fun K nm qual st f fd) (Sc : FnScope N ps (defScope st))
    (hms : ms.length = ps.length)
    (body : ∀ (cdv : Value) (A : Around) (callers : List Env) (s0 : Shared) (H : Hp) (E : XK) (G0 : Hp), Room k (A.deeper (envOfC qual (defScope st) s0.heap.objs.size f cdv)) → A.guards = some [] →
      PSs (cxOf CX0 P w K mg base N qual (defScope st) f cdv A callers s0 H E).nox (defBody st) (liftS ⟨K, dr, H, G0⟩ ws))
    (wp : ∀ ds n Q, ds.length = ms.length → F.f ds n Q → ws.f { nx := fun s => Q .non s.n, rt := fun d s => Q d s.n } ⟨initE N.length ms ds, n⟩) : FnG P w K mg base (k + 1) f fd ps (SpD K dr ms F) := by
  obtain ⟨oc, od, kV, doc, pm, an, cdv, ct, osl, rfl, lk, hcd⟩ := U.ex
  have hle : ps.length ≤ N.length := by
    have h := congrArg List.length Sc.pre
    rw [List.length_take] at h
    omega
  refine fng_of lk hcd Sc (fun vs H Q E h => ?_) fun A callers s0 H vs Q E hr hga hsp => ?_
  · obtain ⟨G, ds, n, _, _, r, _⟩ := h
    rw [r.length.1, hms]
  · obtain ⟨G, ds, n, sub, dw, r, q⟩ := hsp
    refine ⟨_, (body cdv A callers s0 H E G hr hga).nox, ?_⟩
    have hl := r.length
    have slots : ∀ (i : Nat) (x : Sl), (initE N.length ms ds)[i]? = some x → SlR K dr H H G (L2.start N vs)[i]? x ∧ ∀ fs, x ≠ .own fs := fun i x hx => initE_slot (p := ⟨K, dr, H, G⟩) rfl sub r N.length i x hx
    refine ⟨G, ⟨initE N.length ms ds, n⟩, _, ⟨sub, fun a o _ e => e, fun a h1 _ => h1, ?_, fun i x hx => (slots i x hx).1, fun i j q1 es fs _ e1 _ _ => absurd rfl ((slots i _ e1).2 es), dw⟩, wp ds n _ hl.2 q, ?_⟩
    · rw [initE_length _ _ _ hl.2.symm (by rw [hms]; exact hle)]
      unfold L2.start
      rw [List.length_append, List.length_map, List.length_replicate, hl.1, hms]
      omega
    · exact ⟨fun σ' H' G' s' e R k => k .non H' G' e R.base R.sub R.new R.drw .non, fun v σ' H' G' d s' e R r k => k v H' G' e R.base R.sub R.new R.drw r, fun _ _ _ _ _ _ k => k.elim, fun _ _ _ _ _ _ k => k.elim⟩
section
variable {X : Cx} {p : Pl} {e : Expr} {es : List Expr} {ms : List Bool} {t : WA} {pos : Pos}
theorem pd_callG {F : FT} {k : Nat} {f : Addr} {fd : FuncData} {ps : List Str} {x : Str} {pf : Pos} {K : PySem.W.Frag} {dr : Option Addr} (ok : FnG X.prog X.w X.K X.mg X.base k f fd ps (SpD K dr ms F)) (hr : Room k X.A) (hga : X.A.guards = some []) (hm : X.mg x = some (.ref f)) (hk : PySem.W.keepIn X.K (.ref f) = true) (hb : Binds X.K fd ps [])
    (ha : PA X (e :: es) (liftM p ms t)) (hK : p.K = K := by rfl) (hd : p.dr = dr := by rfl) (hg : Gl X x := by rfl) (hdb : (x == ("__debug__" : Str)) = false := by decide) (he : starEach (e :: es) X.env = (false, eval e X.env) :: starEach es X.env := by rfl) (hpl : (backTo pos (starEach es X.env)).any (·.1) = false := by rfl) :
    PE X (.Call (.Name x pf) (e :: es) [] pos) (lift p (wCall F t)) := by
  subst hK hd
  refine PE.imp (pe_callG ok hr hga hm hk hb ha hg hdb he hpl) fun σ H Q h => ?_
  have q := call_lift (ms := ms) σ H Q h
  obtain ⟨G, s, R, kk⟩ := q
  exact ⟨G, s, R, t.mono _ _ _ (fun ds s1 k1 vs H1 G1 e1 R1 r1 => by
    have z : SpD p.K p.dr ms F (vs ++ []) H1 Q E0 := k1 vs H1 G1 e1 R1 r1
    rw [List.append_nil] at z
    exact z) kk⟩

/-! ### a slot's own list -/
def ownE (env : List Sl) (i : Nat) : Option (List D) := match env[i]? with
  | some (.own ds) => some ds
  | _ => none
theorem ownE_of {env : List Sl} {i : Nat} {ds : List D} (h : ownE env i = some ds) : env[i]? = some (.own ds) := by
  unfold ownE at h
  cases e : env[i]? with
  | none => rw [e] at h; cases h
  | some x =>
    rw [e] at h
    cases x <;> cases h
    rfl
/-- x.append(e) -/
def wApp (i : Nat) (w : W) : WS := ⟨fun E s => get (ownE s.env i) fun _ => w.f s fun d s1 => get (ownE s1.env i) fun ds => ds.length < sizeLine ∧ E.nx { s1 with env := s1.env.set i (.own (ds ++ [d])) },
  fun E E' s h q => get_mono (fun _ q => w.mono _ _ _ (fun d s1 q => get_mono (fun ds q => ⟨q.1, h.nx _ q.2⟩) q) q) q⟩
theorem sd_app (i : Nat) {x : Str} {apos p1 cpos : Pos} {a : Expr} {w : W} (hv : PE X (.Name x p1) (tVar i)) (ha : PE X a (lift p w)) (hbase : attributeBase (.Name x p1) "append" X.env (eval (.Name x p1) X.env) = eval (.Name x p1) X.env := by rfl)
    (hfew : ((backTo cpos (starEach (a :: []) X.env)).all (fun x => !x.1) && (backToKw cpos (keywordEach [] X.env)).all (fun x => x.1.isSome) && decide ((a :: ([] : List Expr)).length + ([] : List Keyword).length + (if ([] : List Keyword).isEmpty then 0 else 1) < 30)) = true := by rfl)
    (hline : (apos.endLine == cpos.line) = true := by rfl) (hs : starEach (a :: []) X.env = (false, eval a X.env) :: starEach [] X.env := by rfl) (hplain : (backTo cpos (starEach [] X.env)).any (·.1) = false := by rfl)
    (hsw : swapsWith (.Call (.Attribute (.Name x p1) "append" apos) [a] [] cpos) none pos.line X.env = pure false := by rfl) (hK : p.K = X.K := by rfl) :
    PS X (.Expr (.Call (.Attribute (.Name x p1) "append" apos) [a] [] cpos) pos) (liftS p (wApp i w)) :=
  PS.imp (ps_expr (pe_bm PySem.F.plainAttrs_list PySem.F.slot_list_append PySem.F.type_list_append mt_append hv (pa_cons ha pa_nil hs) hbase hfew hline hs hplain) hsw) fun D σ H ⟨G, s, E, R, k, q⟩ => by
    obtain ⟨ds0, e0, k1⟩ := get_of k
    obtain ⟨l, xs0, el, hl, _⟩ := R.slot i _ (ownE_of e0)
    refine ⟨.ref l, el, .inl ⟨rfl, xs0, SqL.of hl⟩, G, s, R, w.mono _ _ _ (fun d s1 k2 v H1 G1 e1 R1 r1 => ?_) k1⟩
    obtain ⟨ds, e2, hz, kn⟩ := get_of k2
    obtain ⟨l', xs, el', hl', g1, _, _, ra⟩ := R1.slot i _ (ownE_of e2)
    rw [el] at el'
    cases el'
    exact ⟨l, xs, v, rfl, rfl, hl', by rw [ra.length]; exact hz, q.nx σ _ G1 _ e1 (R1.write (ownE_of e2) el (ra.append (.cons r1 .nil))) kn⟩
/-- x.pop() -/
def wPop (i : Nat) : W := ⟨fun s P => get (ownE s.env i) fun ds => get ds[ds.length - 1]? fun d => P d { s with env := s.env.set i (.own ds.dropLast) }, fun s P P' h q => get_mono (fun ds q => get_mono (fun d q => h _ _ q) q) q⟩
theorem pd_pop (i : Nat) {x : Str} {apos p1 : Pos} (hv : PE X (.Name x p1) (tVar i)) (hbase : attributeBase (.Name x p1) "pop" X.env (eval (.Name x p1) X.env) = eval (.Name x p1) X.env := by rfl) (hline : (apos.endLine == pos.line) = true := by rfl) :
    PE X (.Call (.Attribute (.Name x p1) "pop" apos) [] [] pos) (lift p (wPop i)) :=
  PE.imp (pe_bm0 PySem.F.plainAttrs_list PySem.F.slot_list_pop PySem.F.type_list_pop mt_pop hv hbase hline) fun σ H Q ⟨G, s, R, k⟩ => by
    obtain ⟨ds, e0, k1⟩ := get_of k
    obtain ⟨d, ed, kd⟩ := get_of k1
    obtain ⟨l, xs, el, hl, g1, _, _, ra⟩ := R.slot i _ (ownE_of e0)
    obtain ⟨v, ev, rv⟩ := ra.get ed
    exact ⟨.ref l, el, .inl ⟨rfl, xs, SqL.of hl⟩, l, xs, v, rfl, rfl, hl, by rw [ra.length]; exact ev, kd v _ G (Same.refl G) (R.write (ownE_of e0) el ra.dropLast) rv⟩
end
end DI
/-! Further rules: * and **, min, three targets, in over nested data, repr, keywords, dict cells of the draws. -/
namespace DI
open PySem L2
section
variable {X : Cx} {p : Pl} {e a b : Expr} {es : List Expr} {pos : Pos} {w wa wb : W} {ms : List Bool} {t : WA}
abbrev gMulI : D → D → Option D := gI fun i j => .int (i * j)
abbrev cMul : D → D → Prop := cI CMul
abbrev gPow : D → D → Option D := gI fun i j => .int (i ^ j.toNat)
abbrev cPow : D → D → Prop := cI CPow
theorem pd_mul (ha : PE X a (lift p wa)) (hb : PE X b (lift p wb)) : PE X (.BinOp a .Mult b pos) (lift p (wBin cMul gMulI wa wb)) := PE.imp (pe_op op_mul ha hb) (op_lift od_I)
theorem pd_pow (ha : PE X a (lift p wa)) (hb : PE X b (lift p wb)) : PE X (.BinOp a .Pow b pos) (lift p (wBin cPow gPow wa wb)) := PE.imp (pe_op op_pow ha hb) (op_lift od_I)
/-- min of two ints -/
def gMin : List D → Option D
  | [.int i, .int j] => some (.int (if j < i then j else i))
  | _ => none
def gMax : List D → Option D
  | [.int i, .int j] => some (.int (if j > i then j else i))
  | _ => none
theorem bt_min (hc : X.calm = true := by rfl) : BtR X p "min" [false, false] c0 gMin := ⟨.inl ⟨_, _, by decide +kernel, call_min2 hc, fun G H vs ds d Q hs r hc hg k1 k2 => by
  cases r with
  | val r1 t =>
    cases t with
    | val r2 t =>
      cases t
      cases r1 <;> cases r2 <;> simp only [gMin] at hg <;> cases hg
      exact ⟨_, _, rfl, k1 _ (.int _)⟩⟩⟩
theorem bt_max (hc : X.calm = true := by rfl) : BtR X p "max" [false, false] c0 gMax := ⟨.inl ⟨_, _, by decide +kernel, call_max2 hc, fun G H vs ds d Q hs r hc hg k1 k2 => by
  cases r with
  | val r1 t =>
    cases t with
    | val r2 t =>
      cases t
      cases r1 <;> cases r2 <;> simp only [gMax] at hg <;> cases hg
      exact ⟨_, _, rfl, k1 _ (.int _)⟩⟩⟩
/-- a, b, c = x, y, z: plain values -/
def wPar3 (i j l : Nat) (t : WA) : WS := ⟨fun E s => t.f s fun ds s1 => ∃ d1 d2 d3, ds = [d1, d2, d3] ∧ i < s1.env.length ∧ j < s1.env.length ∧ l < s1.env.length ∧ E.nx { s1 with env := ((s1.env.set i (.val d1)).set j (.val d2)).set l (.val d3) },
  fun E E' s h q => t.mono _ _ _ (fun ds s1 ⟨d1, d2, d3, e, h1, h2, h3, q⟩ => ⟨d1, d2, d3, e, h1, h2, h3, h.nx _ q⟩) q⟩
theorem sd_par3 (i j l : Nat) {c : Expr} {ta : WA} {x y z : Str} {px py pz pt : Pos} {kt k2 pt2} (hN : X.N.Nodup) (ha : PA X [a, b, c] (liftM p ms ta)) (hm : ∀ m ∈ ms, m = false := by decide) (hc : X.calm = true := by rfl) (hi : X.N[i]? = some x := by rfl) (hj : X.N[j]? = some y := by rfl) (hl : X.N[l]? = some z := by rfl) (hij : i ≠ j := by decide) (hil : i ≠ l := by decide) (hjl : j ≠ l := by decide)
    (hx : X.env.scope.names.lookup x = some .local := by rfl) (hy : X.env.scope.names.lookup y = some .local := by rfl) (hz : X.env.scope.names.lookup z = some .local := by rfl)
    (hw : swappedStores [.Tuple [.Name x px, .Name y py, .Name z pz] kt pt] (.Tuple [a, b, c] k2 pt2) X.env = pure (some [x, y, z]) := by rfl)
    (hs : swapsWithSole [.Tuple [.Name x px, .Name y py, .Name z pz] kt pt] (.Tuple [a, b, c] k2 pt2) pos.line X.env = pure false := by rfl) : PS X (.Assign [.Tuple [.Name x px, .Name y py, .Name z pz] kt pt] (.Tuple [a, b, c] k2 pt2) pos) (liftS p (wPar3 i j l ta)) :=
  PS.imp (ps_par3 hc hN hi hj hl hij hil hjl hx hy hz ha hw hs) fun D σ H ⟨G, s, E, R, k, q⟩ => ⟨G, s, R, ta.mono _ _ _ (fun ds s1 ⟨d1, d2, d3, ed, h1, h2, h3, k1⟩ vs H1 G1 e1 R1 r1 => by
    subst ed
    have ra := r1.all hm
    cases ra with
    | cons ra1 t1 =>
      cases t1 with
      | cons ra2 t2 =>
        cases t2 with
        | cons ra3 t3 =>
          cases t3
          have R2 := R1.set (i := i) (by rw [← R1.len]; exact h1) ra1
          have R3 := R2.set (i := j) (by rw [List.length_set, ← R1.len]; exact h2) ra2
          have R4 := R3.set (i := l) (by rw [List.length_set, List.length_set, ← R1.len]; exact h3) ra3
          exact ⟨_, _, _, rfl, q.nx _ H1 G1 _ e1 R4 k1⟩) k⟩

/-! ### in over nested data -/
def cInN : D → D → Prop
  | x, .tup ys => shp x ∧ shp (.tup ys)
  | x, .lst ys => shp x ∧ shp (.lst ys)
  | _, _ => False
theorem any_toPy {x : D} : ∀ {ys : List D}, ((toPyA ys).any fun z => PyData.eqv z (toPy x)) = inD x ys
  | [] => by simp [toPyA, inD]
  | y :: ys => by
    have h := any_toPy (x := x) (ys := ys)
    unfold inD at h ⊢
    simp only [toPyA, List.any_cons, h, eqD]
def rInT (K : PySem.W.Frag) : R2 := fun x y H Q => ∃ d ds, Dp K H x d ∧ Dp K H y (.tuple ds) ∧ SeqAt.shaped d = true ∧ SeqAt.shaped (.tuple ds) = true ∧ Q (.bl (ds.any fun z => PyData.eqv z d)) H
theorem op_inT (hu : X.A.units + 65 < cLine) : OpR X (compareOp .In) (rInT X.K) := by
  intro pins st σ H x y v u Q I rx ry h
  obtain ⟨d, ds, hd, he, sd, se, q⟩ := h
  obtain ⟨as, q1⟩ := Dp.reads I d x v hd rx
  obtain ⟨bs, q2⟩ := Dp.reads I (.tuple ds) y u he ry
  exact SeqAt.in_tuple_reads q2 q1 (by simpa only [PyData.canLay0] using SeqAt.canLay_of_shaped se) (SeqAt.canLay_of_shaped sd) (by
    have z := SeqAt.depth_of_shaped sd
    omega) ⟨.bl _, H, I, rfl, q⟩
theorem cm_inN {k : Nat} (hr : Room k X.A) (hK : p.K = X.K := by rfl) : CmpR X p .In cInN gIn := ⟨_, (op_inT (by have := hr.un; omega)).or (op_inD (by have := hr.un; omega)), fun G H x y d1 d2 d Q hs r1 r2 hc hg k1 k2 => by
  cases d2 with
  | tup ys =>
    obtain ⟨⟨p1, s1⟩, p2, s2⟩ := hc
    cases hg
    refine .inl ⟨toPy d1, toPyA ys, hK ▸ rb_dp hs r1 p1, ?_, s1, ?_, ?_⟩
    · have z := rb_dp hs r2 p2
      simp only [toPy] at z
      exact hK ▸ z
    · simpa only [toPy] using s2
    · rw [any_toPy]
      exact k1 _ (.bl _)
  | lst ys =>
    obtain ⟨⟨p1, s1⟩, p2, s2⟩ := hc
    cases hg
    refine .inr ⟨toPy d1, toPyA ys, hK ▸ rb_dp hs r1 p1, ?_, s1, ?_, ?_⟩
    · have z := rb_dp hs r2 p2
      simp only [toPy] at z
      exact hK ▸ z
    · simpa only [toPy] using s2
    · rw [any_toPy]
      exact k1 _ (.bl _)
  | _ => exact hc.elim⟩

/-! ### repr -/
def gRepr : List D → Option D
  | [d] => some (.str (toPy d).shown)
  | _ => none
def cRepr : List D → Prop
  | [d] => plain d = true ∧ (toPy d).showable = true ∧ (toPy d).hasDict = false ∧ (toPy d).depth ≤ 60 ∧ (toPy d).shown.length ≤ sizeLine
  | _ => False
def rRepr (K : PySem.W.Frag) : List V → Hp → VK → Prop := fun vs H Q => ∃ v d, vs = [v] ∧ Dp K H v d ∧ d.showable = true ∧ d.hasDict = false ∧ d.depth ≤ 60 ∧ d.shown.length ≤ sizeLine ∧ Q (.str d.shown) H
theorem call_reprD {k : Nat} (hr : Room k X.A) (hga : X.A.guards = some []) : CallR X (.builtin "repr") (rRepr X.K) := by
  intro pins st σ H xs us Q I r h
  obtain ⟨v, d, rfl, hd, hs, hn, hdp, hz, q⟩ := h
  obtain ⟨u, rfl, rv⟩ := vals1 r
  obtain ⟨as, hrd⟩ := Dp.reads I d v u hd rv
  have hun := hr.un
  cases hd with
  | non =>
    cases rv
    simp only [PyData.shown] at q
    exact PySem.P.repr_of_none ⟨.str _, H, I.tok _, ⟨_, rfl⟩, q⟩
  | bl b =>
    cases rv
    simp only [PyData.shown] at q
    exact PySem.P.repr_of_bool ⟨.str _, H, I.tok _, ⟨_, rfl⟩, q⟩
  | int i =>
    obtain ⟨tk, rfl⟩ := rv
    simp only [PyData.shown] at q
    exact PySem.P.repr_of_int (by simpa [PyData.showable] using hs) ⟨.str _, H, I.tok _, ⟨_, rfl⟩, q⟩
  | str z =>
    obtain ⟨tk, rfl⟩ := rv
    simp only [PyData.shown] at q hz
    exact PySem.P.repr_of_str ⟨.str _, H, I.tok _, ⟨_, rfl⟩, q⟩ hz
  | lst h1 h2 =>
    cases rv
    exact PySem.repr_of_reads' hrd hs (PyData.noDict_hsm hn) hga (by omega) (fun _ _ z => z) (fun h' u' tk hk => ⟨.str _, H, I.kept (t' := tk) hk, ⟨_, rfl⟩, q⟩) hz
  | tup h1 h2 =>
    cases rv
    exact PySem.repr_of_reads' hrd hs (PyData.noDict_hsm hn) hga (by omega) (fun _ _ z => z) (fun h' u' tk hk => ⟨.str _, H, I.kept (t' := tk) hk, ⟨_, rfl⟩, q⟩) hz
theorem bt_repr {m : Bool} {k : Nat} (hr : Room k X.A) (hga : X.A.guards = some []) (hK : p.K = X.K := by rfl) : BtR X p "repr" [m] cRepr gRepr := ⟨.inl ⟨_, _, by decide +kernel, call_reprD hr hga, fun G H vs ds d Q hs r hc hg k1 k2 => by
  obtain ⟨v, d0, rfl, rfl, rb⟩ := rm1 hs r
  cases hg
  obtain ⟨h1, h2, h3, h4, h5⟩ := hc
  exact ⟨v, toPy d0, rfl, hK ▸ rb_dp hs rb h1, h2, h3, h4, h5, k1 _ (.str _)⟩⟩⟩

/-! ### a call by keywords, in the parameters' order -/
structure PKd (X : Cx) (p : Pl) (kws : List Keyword) (n : Nat) (t : WA) : Prop where
  pk : PK X kws (liftM p (List.replicate n false) t)
theorem kd_nil : PKd X p [] 0 waNil := ⟨⟨fun pos pins st σ H Q I ⟨G, s, R, k⟩ => (pk_nil (X := X)).run pos pins st σ H Q I (k [] H G (Same.refl G) R .nil)⟩⟩
theorem kd_cons {nm : Option Str} {kpos : Pos} {kws : List Keyword} {n : Nat} (h : PE X e (lift p w)) (ht : PKd X p kws n t) : PKd X p (⟨nm, e, kpos⟩ :: kws) (n + 1) (waCons w t) :=
  ⟨⟨fun pos pins st σ H Q I ⟨G, s, R, k⟩ => (pk_cons (nm := nm) (kpos := kpos) h ht.pk).run pos pins st σ H Q I ⟨G, s, R, w.mono _ _ _ (fun d s1 k1 v H1 G1 e1 R1 r1 => ⟨G1, s1, R1, t.mono _ _ _ (fun ds s2 k2 vs H2 G2 e2 R2 r2 => k2 _ H2 G2 (e1.trans e2) R2 (.val (r1.mono e2) r2)) k1⟩) k⟩⟩⟩
theorem pd_callK {F : FT} {k : Nat} {f : Addr} {fd : FuncData} {ps ks : List Str} {x : Str} {pf : Pos} {K : PySem.W.Frag} {dr : Option Addr} {kws : List Keyword} {n : Nat} (ok : FnG X.prog X.w X.K X.mg X.base k f fd ps (SpD K dr (List.replicate n false) F)) (room : Room k X.A) (hga : X.A.guards = some []) (hm : X.mg x = some (.ref f)) (hk : PySem.W.keepIn X.K (.ref f) = true)
    (hb : ∀ (s : Shared) (ws : List Value), ws.length = ps.length → BindsTo s fd ⟨[], ks.zip ws⟩ (ps.zip ws)) (ha : PKd X p kws n t) (hK : p.K = K := by rfl) (hd : p.dr = dr := by rfl) (hg : Gl X x := by rfl) (hdb : (x == ("__debug__" : Str)) = false := by decide)
    (hall : (backToKw pos (keywordEach kws X.env)).all (·.1.isSome) = true := by rfl) (hks : (backToKw pos (keywordEach kws X.env)).filterMap (·.1) = ks := by rfl)
    (hpl : ((backTo pos (starEach [] X.env)).any (·.1) || (backToKw pos (keywordEach kws X.env)).any (·.1.isNone)) = false := by rfl) :
    PE X (.Call (.Name x pf) [] kws pos) (lift p (wCall F t)) := by
  subst hK hd
  refine ⟨fun pins st σ H Q I h => wpAny_Call_Name_kw (ld_glob I hg hm ?_ hdb)⟩
  obtain ⟨G, s, R, kk⟩ := call_lift (ms := List.replicate n false) σ H Q h
  refine PySem.W.callWith_KW0 (h₀ := X.base) I.ok.mod.kin hk hall (thn (ha.pk.run pos pins st σ H (fun vs H1 => SpD p.K p.dr (List.replicate n false) F vs H1 Q E0) I ⟨G, s, R, t.mono _ _ _ (fun ds s1 k1 vs H1 G1 e1 R1 r1 => ?_) kk⟩) fun ws st2 ⟨zs, H2, I2, rz, q2⟩ => ⟨I2.kIn, ?_⟩) hpl
  · have z : SpD p.K p.dr (List.replicate n false) F (vs ++ []) H1 Q E0 := k1 vs H1 G1 e1 R1 r1
    rw [List.append_nil] at z
    exact z
  · rw [hks]
    have hl : ws.length = ps.length := by rw [← rz.length]; exact ok.len _ _ _ _ q2
    refine wpAny_call (codeAny_mono (ok.go X.A X.stack st2 H2 ⟨[], ks.zip ws⟩ ws zs Q E0 room hga I2.env0 (hb st2 ws hl) rz q2) fun res st3 hq => ?_)
    cases res with
    | error err => exact (show False from hq).elim
    | ok fl =>
      cases fl with
      | ret u => exact I2.after hq
      | next => exact (show False from hq).elim
      | brk => exact (show False from hq).elim
      | cont => exact (show False from hq).elim
end
end DI
/-! The draws. -/
namespace DI
open PySem PySem.Spec PyProof.Rows L2
theorem kAt : ¬ (("cells" : Str) = "at") ∧ ¬ (("cells" : Str) = "left") ∧ ¬ (("cells" : Str) = "used") ∧ ¬ (("at" : Str) = "left") ∧ ¬ (("at" : Str) = "used") ∧ ¬ (("left" : Str) = "used") := by decide +kernel
theorem drw_cells {L : Addr} {a l u : Int} : valV (drwK L a l u) (Sum.inr "cells" : Key) = some (.ref L) := valV_pos rfl
theorem drw_at {L : Addr} {a l u : Int} : valV (drwK L a l u) (Sum.inr "at" : Key) = some (.int a) := by
  unfold drwK
  rw [valV_neg (by intro z; exact kAt.1 (Sum.inr.inj z)), valV_pos rfl]
theorem drw_left {L : Addr} {a l u : Int} : valV (drwK L a l u) (Sum.inr "left" : Key) = some (.int l) := by
  unfold drwK
  rw [valV_neg (by intro z; exact kAt.2.1 (Sum.inr.inj z)), valV_neg (by intro z; exact kAt.2.2.2.1 (Sum.inr.inj z)), valV_pos rfl]
theorem drw_used {L : Addr} {a l u : Int} : valV (drwK L a l u) (Sum.inr "used" : Key) = some (.int u) := by
  unfold drwK
  rw [valV_neg (by intro z; exact kAt.2.2.1 (Sum.inr.inj z)), valV_neg (by intro z; exact kAt.2.2.2.2.1 (Sum.inr.inj z)), valV_neg (by intro z; exact kAt.2.2.2.2.2 (Sum.inr.inj z)), valV_pos rfl]
theorem put_at {L : Addr} {a l u y : Int} : putK (drwK L a l u) (Sum.inr "at" : Key) (.int y) = drwK L y l u := by
  obtain ⟨h1, h2, h3, h4, h5, h6⟩ := kAt
  have g1 : ¬ (("at" : Str) = "cells") := fun z => h1 z.symm
  have g2 : ¬ (("left" : Str) = "cells") := fun z => h2 z.symm
  have g3 : ¬ (("used" : Str) = "cells") := fun z => h3 z.symm
  have g4 : ¬ (("left" : Str) = "at") := fun z => h4 z.symm
  have g5 : ¬ (("used" : Str) = "at") := fun z => h5 z.symm
  have g6 : ¬ (("used" : Str) = "left") := fun z => h6 z.symm
  simp [putK, drwK, h1, h2, h3, h4, h5, h6, g1, g2, g3, g4, g5, g6]
theorem put_left {L : Addr} {a l u y : Int} : putK (drwK L a l u) (Sum.inr "left" : Key) (.int y) = drwK L a y u := by
  obtain ⟨h1, h2, h3, h4, h5, h6⟩ := kAt
  have g1 : ¬ (("at" : Str) = "cells") := fun z => h1 z.symm
  have g2 : ¬ (("left" : Str) = "cells") := fun z => h2 z.symm
  have g3 : ¬ (("used" : Str) = "cells") := fun z => h3 z.symm
  have g4 : ¬ (("left" : Str) = "at") := fun z => h4 z.symm
  have g5 : ¬ (("used" : Str) = "at") := fun z => h5 z.symm
  have g6 : ¬ (("used" : Str) = "left") := fun z => h6 z.symm
  simp [putK, drwK, h1, h2, h3, h4, h5, h6, g1, g2, g3, g4, g5, g6]
theorem put_used {L : Addr} {a l u y : Int} : putK (drwK L a l u) (Sum.inr "used" : Key) (.int y) = drwK L a l y := by
  obtain ⟨h1, h2, h3, h4, h5, h6⟩ := kAt
  have g1 : ¬ (("at" : Str) = "cells") := fun z => h1 z.symm
  have g2 : ¬ (("left" : Str) = "cells") := fun z => h2 z.symm
  have g3 : ¬ (("used" : Str) = "cells") := fun z => h3 z.symm
  have g4 : ¬ (("left" : Str) = "at") := fun z => h4 z.symm
  have g5 : ¬ (("used" : Str) = "at") := fun z => h5 z.symm
  have g6 : ¬ (("used" : Str) = "left") := fun z => h6 z.symm
  simp [putK, drwK, h1, h2, h3, h4, h5, h6, g1, g2, g3, g4, g5, g6]
/-- script + [0]: lists of any sort -/
def rCatS (K : PySem.W.Frag) : R2 := fun x y H Q => ∃ a b xs zs, x = .ref a ∧ y = .ref b ∧ SqL K H a xs ∧ SqL K H b zs ∧ xs.length + zs.length ≤ sizeLine ∧ ∀ p, H p = none → Q (.ref p) (upd H p (.lst (xs ++ zs)))
theorem op_catS {X : Cx} : OpR X (binaryOp .Add) (rCatS X.K) := by
  intro pins s σ H x y v u Q I rx ry ⟨a, b, xs, zs, ex, ey, h1, h2, hz, q⟩
  subst ex ey
  cases rx
  cases ry
  obtain ⟨i1, v1, ⟨⟨c1, d1, dt1, s1⟩, n1, g1, e1, e2, e3⟩, z1⟩ := I.list h1
  obtain ⟨i2, v2, ⟨⟨c2, d2, dt2, s2⟩, n2, g2, f1, f2, f3⟩, z2⟩ := I.list h2
  subst e1 e2 e3 f1 f2 f3
  have hlen : i1.toArray.size + i2.toArray.size ≤ sizeLine := by
    have := v1.length; have := v2.length
    simp only [List.size_toArray]; omega
  refine concat_meets ⟨_, g1, rfl⟩ ⟨_, g2, rfl⟩ noFill_list_add seq_list_add F.slot_list_add F.entry_list_add (F.args_list_add_2 _ _) (list_addW a b _ _ n1 n2 _ _ _ _ hlen) ⟨g1, g2, ?_⟩
  have I2 := I.lnew (t' := s.toks) (v1.append v2) (by rw [List.length_append]; exact hz)
  refine ⟨.ref _, _, ?_, rfl, q _ I.fresh⟩
  simpa using I2
/-- _law_next: some number below the bound; more draws -/
def fNext : FT := ⟨fun ds n Q => ∃ b : Int, ds = [.drw, .int b] ∧ n < 2 ^ 60 ∧ 0 < b ∧ b < 1073741824 ∧ ∀ r : Int, 0 ≤ r → r < b → Q (.int r) (n + 2),
  fun ds n P P' h ⟨b, e, h1, h2, h3, q⟩ => ⟨b, e, h1, h2, h3, fun r r0 r1 => h _ _ (q r r0 r1)⟩⟩
/-- _law_mixed: some number -/
def fMix : FT := ⟨fun ds n Q => ∃ c k : Int, ds = [.int c, .int k] ∧ 0 ≤ k ∧ k < 2 ^ 62 ∧ ∀ r : Int, Q (.int r) n, fun ds n P P' h ⟨c, k, e, h1, h2, q⟩ => ⟨c, k, e, h1, h2, fun r => h _ _ (q r)⟩⟩
/-- the dict's cells are written -/
theorem drw_write {G H : Hp} {a L : Addr} {ns : List Int} {x l u : Int} {n m : Nat} (d : DrwAt G H a n) (h : G L = some (.lst (ns.map V.int))) (o : DrwOk ns x l u m) : DrwAt G (upd H a (.dK (drwK L x l u))) a m :=
  ⟨d.free, L, ns, x, l, u, upd_same, h, o⟩
section
variable {X : Cx} {p : Pl} {e o : Expr} {pos : Pos} {w : W}
theorem Rs.dwrite {σ : L2.St} {H G : Hp} {s : S} {a L : Addr} {ns : List Int} {x l u : Int} {m : Nat} (R : p.Rs σ H G s) (ea : p.dr = some a) (h : G L = some (.lst (ns.map V.int))) (k : DrwOk ns x l u m) : p.Rs σ (upd H a (.dK (drwK L x l u))) G { s with n := m } := by
  have d := R.drw a ea
  refine Rs.call R (Same.refl G) (fun b o hb e => ?_) (fun b o e => ?_) (fun b e _ => e) (fun b eb => ?_)
  · rw [upd_ne (fun z => hb (by rw [ea, z]))]
    exact e
  · have ne : b ≠ a := fun z => by
      rw [z, d.free] at e
      cases e
    rw [upd_ne ne]
    exact R.sub b o e
  · rw [ea] at eb
    cases eb
    exact drw_write d h k
theorem vget_drw {σ : L2.St} {H G : Hp} {s : S} {i : Nat} (R : p.Rs σ H G s) (h : vget s.env i = some .drw) : ∃ a, σ[i]? = some (some (.ref a)) ∧ p.dr = some a := by
  obtain ⟨v, e, r⟩ := vget_rb R h
  cases r with
  | drw h _ => exact ⟨_, e, h⟩
/-- draw["left"] -/
def wDgL (i : Nat) : W := ⟨fun s P => vget s.env i = some .drw ∧ ∀ l : Int, P (.int l) s, fun s P P' h q => ⟨q.1, fun l => h _ _ (q.2 l)⟩⟩
/-- draw["at"], draw["used"] -/
def wDgA (i : Nat) : W := ⟨fun s P => vget s.env i = some .drw ∧ ∀ l : Int, 0 ≤ l → l ≤ s.n → P (.int l) s, fun s P P' h q => ⟨q.1, fun l h1 h2 => h _ _ (q.2 l h1 h2)⟩⟩
/-- draw["cells"] -/
def wDgC (i : Nat) : W := ⟨fun s P => vget s.env i = some .drw ∧ ∀ ns : List Int, 0 < ns.length → ns.length ≤ 64 → P (.lst (ns.map D.int)) s, fun s P P' h q => ⟨q.1, fun l h1 h2 => h _ _ (q.2 l h1 h2)⟩⟩
theorem dgL_of {k : Nat} (hr : Room k X.A) (i : Nat) {j : Nat} {p1 : Pos} (ho : PE X o (tVar i)) : PE X (.Subscript o (.Constant (.str "left") j p1) pos) (lift p (wDgL i)) :=
  PE.imp (pe_dget (hu_of hr) ho pe_str (fun _ _ => rfl)) fun σ H Q ⟨G, s, R, h, k⟩ => by
    obtain ⟨a, ev, ea⟩ := vget_drw R h
    obtain ⟨f, L, ns, x, l, u, e1, e2, _⟩ := R.drw a ea
    exact ⟨_, ev, a, _, rfl, by rw [← drw_left (L := L) (a := x) (l := l) (u := u)]; exact DGet.k (k := Sum.inr "left") e1, k l _ H G (Same.refl G) R (.int l)⟩
theorem dgA_of {k : Nat} (hr : Room k X.A) (i : Nat) {j : Nat} {p1 : Pos} (ho : PE X o (tVar i)) : PE X (.Subscript o (.Constant (.str "at") j p1) pos) (lift p (wDgA i)) :=
  PE.imp (pe_dget (hu_of hr) ho pe_str (fun _ _ => rfl)) fun σ H Q ⟨G, s, R, h, k⟩ => by
    obtain ⟨a, ev, ea⟩ := vget_drw R h
    obtain ⟨f, L, ns, x, l, u, e1, e2, ok⟩ := R.drw a ea
    exact ⟨_, ev, a, _, rfl, by rw [← drw_at (L := L) (a := x) (l := l) (u := u)]; exact DGet.k (k := Sum.inr "at") e1, k x ok.a0 ok.an _ H G (Same.refl G) R (.int x)⟩
theorem dgU_of {k : Nat} (hr : Room k X.A) (i : Nat) {j : Nat} {p1 : Pos} (ho : PE X o (tVar i)) : PE X (.Subscript o (.Constant (.str "used") j p1) pos) (lift p (wDgA i)) :=
  PE.imp (pe_dget (hu_of hr) ho pe_str (fun _ _ => rfl)) fun σ H Q ⟨G, s, R, h, k⟩ => by
    obtain ⟨a, ev, ea⟩ := vget_drw R h
    obtain ⟨f, L, ns, x, l, u, e1, e2, ok⟩ := R.drw a ea
    exact ⟨_, ev, a, _, rfl, by rw [← drw_used (L := L) (a := x) (l := l) (u := u)]; exact DGet.k (k := Sum.inr "used") e1, k u ok.u0 ok.un _ H G (Same.refl G) R (.int u)⟩
theorem dgC_of {k : Nat} (hr : Room k X.A) (i : Nat) {j : Nat} {p1 : Pos} (ho : PE X o (tVar i)) : PE X (.Subscript o (.Constant (.str "cells") j p1) pos) (lift p (wDgC i)) :=
  PE.imp (pe_dget (hu_of hr) ho pe_str (fun _ _ => rfl)) fun σ H Q ⟨G, s, R, h, k⟩ => by
    obtain ⟨a, ev, ea⟩ := vget_drw R h
    obtain ⟨f, L, ns, x, l, u, e1, e2, ok⟩ := R.drw a ea
    refine ⟨_, ev, a, _, rfl, by rw [← drw_cells (L := L) (a := x) (l := l) (u := u)]; exact DGet.k (k := Sum.inr "cells") e1, k ns ok.ne ok.le _ H G (Same.refl G) R (.lst e2 ?_)⟩
    exact RpA.ints ns
/-- draw["left"] = e -/
def wDpL (i : Nat) (w : W) : WS := ⟨fun E s => w.f s fun d s1 => vget s1.env i = some .drw ∧ ∃ (y : Int) (m : Nat), d = .int y ∧ s1.n ≤ m ∧ E.nx { s1 with n := m }, fun E E' s h q => w.mono _ _ _ (fun d s1 ⟨a, y, m, b, c, q⟩ => ⟨a, y, m, b, c, h.nx _ q⟩) q⟩
/-- draw["at"] = e, draw["used"] = e -/
def wDpA (i : Nat) (w : W) : WS := ⟨fun E s => w.f s fun d s1 => vget s1.env i = some .drw ∧ ∃ (y : Int), d = .int y ∧ 0 ≤ y ∧ y ≤ s1.n + 1 ∧ E.nx { s1 with n := s1.n + 1 }, fun E E' s h q => w.mono _ _ _ (fun d s1 ⟨a, y, b, c, e, q⟩ => ⟨a, y, b, c, e, h.nx _ q⟩) q⟩
theorem small4 {L : Addr} {a l u : Int} : (drwK L a l u).length < sizeLine := by show 4 < sizeLine; decide
theorem sdpL {k : Nat} (hr : Room k X.A) (i : Nat) {j : Nat} {p1 p2 : Pos} (ho : PE X o (tVar i)) (he : PE X e (lift p w)) (hs : swapsWith e (some (.Subscript o (.Constant (.str "left") j p1) p2)) pos.line X.env = pure false := by rfl) : PS X (.Assign [.Subscript o (.Constant (.str "left") j p1) p2] e pos) (liftS p (wDpL i w)) :=
  PS.imp (ps_dput (hu_of hr) ho pe_str he hs) fun D σ H ⟨G, s, E, R, k, q⟩ => ⟨G, s, R, w.mono _ _ _ (fun d s1 ⟨h, y, m, ed, hm, k1⟩ v H1 G1 e1 R1 r1 => by
    subst ed
    cases r1
    obtain ⟨a, ev, ea⟩ := vget_drw R1 h
    obtain ⟨f, L, ns, x, l, u, z1, z2, ok⟩ := R1.drw a ea
    refine ⟨_, ev, a, _, rfl, DPut.k (k := Sum.inr "left") z1 small4, ?_⟩
    rw [put_left]
    exact q.nx σ _ G1 _ e1 (R1.dwrite ea z2 ⟨ok.ne, ok.le, ok.a0, by have := ok.an; omega, ok.u0, by have := ok.un; omega⟩) k1) k⟩
theorem sdpA {k : Nat} (hr : Room k X.A) (i : Nat) {j : Nat} {p1 p2 : Pos} (ho : PE X o (tVar i)) (he : PE X e (lift p w)) (hs : swapsWith e (some (.Subscript o (.Constant (.str "at") j p1) p2)) pos.line X.env = pure false := by rfl) : PS X (.Assign [.Subscript o (.Constant (.str "at") j p1) p2] e pos) (liftS p (wDpA i w)) :=
  PS.imp (ps_dput (hu_of hr) ho pe_str he hs) fun D σ H ⟨G, s, E, R, k, q⟩ => ⟨G, s, R, w.mono _ _ _ (fun d s1 ⟨h, y, ed, h0, h1, k1⟩ v H1 G1 e1 R1 r1 => by
    subst ed
    cases r1
    obtain ⟨a, ev, ea⟩ := vget_drw R1 h
    obtain ⟨f, L, ns, x, l, u, z1, z2, ok⟩ := R1.drw a ea
    refine ⟨_, ev, a, _, rfl, DPut.k (k := Sum.inr "at") z1 small4, ?_⟩
    rw [put_at]
    exact q.nx σ _ G1 _ e1 (R1.dwrite ea z2 ⟨ok.ne, ok.le, h0, by omega, ok.u0, by have := ok.un; omega⟩) k1) k⟩
theorem sdpU {k : Nat} (hr : Room k X.A) (i : Nat) {j : Nat} {p1 p2 : Pos} (ho : PE X o (tVar i)) (he : PE X e (lift p w)) (hs : swapsWith e (some (.Subscript o (.Constant (.str "used") j p1) p2)) pos.line X.env = pure false := by rfl) : PS X (.Assign [.Subscript o (.Constant (.str "used") j p1) p2] e pos) (liftS p (wDpA i w)) :=
  PS.imp (ps_dput (hu_of hr) ho pe_str he hs) fun D σ H ⟨G, s, E, R, k, q⟩ => ⟨G, s, R, w.mono _ _ _ (fun d s1 ⟨h, y, ed, h0, h1, k1⟩ v H1 G1 e1 R1 r1 => by
    subst ed
    cases r1
    obtain ⟨a, ev, ea⟩ := vget_drw R1 h
    obtain ⟨f, L, ns, x, l, u, z1, z2, ok⟩ := R1.drw a ea
    refine ⟨_, ev, a, _, rfl, DPut.k (k := Sum.inr "used") z1 small4, ?_⟩
    rw [put_used]
    exact q.nx σ _ G1 _ e1 (R1.dwrite ea z2 ⟨ok.ne, ok.le, ok.a0, by have := ok.an; omega, h0, by omega⟩) k1) k⟩
end
end DI
/-! The law is called where no object is being shown; defs, constants, empty dicts by data. -/
namespace DI
open PySem PySem.Spec PyProof.Rows L2
section
variable {P : Program} {w : World} {K : PySem.W.Frag} {mg mb : Str → Option Value} {k : Nat} {fa a : Addr} {fd : FuncData} {x : Str} {sp : Sp} {s₁ : Shared} {vs : List Value} {ns : List Int}
theorem lawG_core {H : Hp} (KX : K.In s₁.heap) (hns : s₁.heap.Ns mainGlobals mg) (hb : s₁.heap.Ns builtinsNs mb) (hbb : ∀ y : Str, y ≠ Str.ofString "__name__" → mb y = bootBuiltins y) (hlim : s₁.heap.NoLimit) (hg : s₁.gens = #[])
    (ha : s₁.heap.get? a = some { cls := Value.type "list", data := Data.seq vs.toArray }) (hi : IntsAre vs ns) (hr : Room k callerA) (F : ∀ base : Heap, K.In base → base.Ns mainGlobals mg → FnG P w K mg base k fa fd [x] sp)
    (hbind : ∀ (s : Shared) (u : Value), BindsTo s fd ⟨[u], []⟩ [(x, u)]) (hO : Only H) (hok : HOk P w H s₁.heap) (hA : ∀ b, H b ≠ none → b = a) (hK : H a ≠ none → K.lookup a = none)
    (hsp : sp [.ref a] H (fun v _ => v = .bl true) E0) :
    codeAny (model P w) callerA (.call (.ref fa) ⟨[.ref a], []⟩) (fun r s' => r = .ok (.ret (.bool true)) ∧ OldK s₁.heap s'.heap ∧ s'.os = s₁.os ∧ AllBare s'.gens) s₁ := by
  have free : ∀ {b : Addr} {o : Obj}, s₁.heap.get? b = some o → (∀ its n, o.data ≠ .seq its n) → H b = none := fun {b o} e d => by
    cases q : H b with
    | none => rfl
    | some u =>
      have eb := hA b (by rw [q]; exact fun z => nomatch z)
      subst eb
      rw [ha] at e
      cases e
      exact absurd rfl (d _ _)
  have names : ∀ {b : Addr} {m : Str → Option Value}, s₁.heap.Ns b m → (hidT s₁.heap H).Ns b m := fun {b m} ⟨o, es, ep, e, d, r⟩ =>
    ⟨o, es, ep, hidT_get e (free e fun its n z => by rw [d] at z; cases z), d, r⟩
  have inK : K.In (hidT s₁.heap H) := fun b o e => hidT_get (KX b o e) (by
    cases q : H b with
    | none => rfl
    | some u =>
      have ne : H b ≠ none := by rw [q]; exact fun z => nomatch z
      have eb := hA b ne
      subst eb
      rw [hK ne] at e
      cases e)
  have M : L2.Mod K mg (hidT s₁.heap H) := ⟨inK, names hns, ⟨mb, names hb, hbb⟩, by
    obtain ⟨mc, h1, h2⟩ := hlim
    exact ⟨mc, names h1, h2⟩⟩
  have env : Env0 P w K mg (hidT s₁.heap H) callerA [] s₁ H := ⟨rfl, M, fun b o e => of_hidT e, Nat.le_of_eq (hidT_size s₁.heap H), trivial, fun b h => absurd h List.not_mem_nil, hok, AllBare.of_eq hg⟩
  refine codeAny_mono ((F _ inK (names hns)).go callerA [] s₁ H ⟨[.ref a], []⟩ [.ref a] [.ref a] _ E0 hr rfl env (hbind s₁ _) (.cons rfl .nil) hsp) fun r s' h => ?_
  cases r with
  | error e => exact (show False from h).elim
  | ok fl =>
    cases fl with
    | next => exact (show False from h).elim
    | brk => exact (show False from h).elim
    | cont => exact (show False from h).elim
    | ret u =>
      obtain ⟨v, H', os, bare, un, hok', rv, q⟩ := h
      subst q
      cases rv
      refine ⟨rfl, OldK.of_keep fun b o e => ?_, os, bare⟩
      cases q : H b with
      | none => exact un.keep b o e q (fun z => absurd z List.not_mem_nil) List.not_mem_nil
      | some u =>
        rcases hO b with z | ⟨ob, xs, z⟩
        · rw [q] at z
          cases z
        · have z2 := un.frzs b ob _ z
          obtain ⟨e1, _⟩ := hok b _ z
          obtain ⟨e2, _⟩ := hok' b _ z2
          rw [e] at e1
          cases e1
          exact e2
end

section
variable {P : Program} {w : World} {K : PySem.W.Frag} {mg mb : Str → Option Value} {k : Nat} {fa a : Addr} {fd : FuncData} {x : Str} {sp : Sp} {s₁ : Shared} {vs : List Value} {ns : List Int}
theorem lawG (KX : K.In s₁.heap) (hns : s₁.heap.Ns mainGlobals mg) (hb : s₁.heap.Ns builtinsNs mb) (hbb : ∀ y : Str, y ≠ Str.ofString "__name__" → mb y = bootBuiltins y) (hlim : s₁.heap.NoLimit) (hg : s₁.gens = #[])
    (ha : s₁.heap.get? a = some { cls := Value.type "list", data := Data.seq vs.toArray }) (hi : IntsAre vs ns) (hl : ns.length ≤ sizeLine) (hr : Room k callerA) (F : ∀ base : Heap, K.In base → base.Ns mainGlobals mg → FnG P w K mg base k fa fd [x] sp)
    (hbind : ∀ (s : Shared) (u : Value), BindsTo s fd ⟨[u], []⟩ [(x, u)]) (hsp : ∀ H, Only H → SqL K H a (ns.map V.int) → sp [.ref a] H (fun v _ => v = .bl true) E0) :
    codeAny (model P w) callerA (.call (.ref fa) ⟨[.ref a], []⟩) (fun r s' => r = .ok (.ret (.bool true)) ∧ OldK s₁.heap s'.heap ∧ s'.os = s₁.os ∧ AllBare s'.gens) s₁ := by
  have rv := vals_ints hi
  have hz : vs.length ≤ sizeLine := by rw [← rv.length, List.length_map]; exact hl
  cases e : K.lookup a with
  | none =>
    let H : Hp := fun b => if b = a then some (.frz { cls := Value.type "list", data := Data.seq vs.toArray } (.lst (ns.map V.int))) else none
    have hH : H a = some (.frz { cls := Value.type "list", data := Data.seq vs.toArray } (.lst (ns.map V.int))) := if_pos rfl
    have hN : ∀ b, b ≠ a → H b = none := fun b hb => if_neg hb
    have hO : Only H := fun b => by
      by_cases hb : b = a
      · subst hb
        exact .inr ⟨_, _, hH⟩
      · exact .inl (hN b hb)
    refine lawG_core KX hns hb hbb hlim hg ha hi hr F hbind hO (fun b o z => ?_) (fun b z => ?_) (fun _ => e) (hsp H hO (.inl (.inr ⟨_, hH⟩)))
    · by_cases hb : b = a
      · subst hb
        rw [hH] at z
        cases z
        simp only [ObjOk]
        exact ⟨ha, by rw [List.length_map]; exact hl, vs, 0, rv, ha⟩
      · rw [hN b hb] at z
        cases z
    · by_cases hb : b = a
      · exact hb
      · exact absurd (hN b hb) z
  | some o =>
    have eo := (KX a o e).symm.trans ha
    cases eo
    refine lawG_core (H := fun _ => none) KX hns hb hbb hlim hg ha hi hr F hbind (fun b => .inl rfl) (fun b o z => nomatch z) (fun b z => absurd rfl z) (fun z => absurd rfl z) (hsp _ (fun b => .inl rfl) (.inr ⟨_, vs.toArray, _, e, rfl, rfl, rfl, by simpa using hz, by simpa using rv⟩))
theorem walkG {l : PySem.W.OpenLaw} {n k : Nat} {q : Program} {loose : List Str} {XP : (Str → Option Value) → Heap → Prop} {YP : World → Heap → Prop} {d : DefRec} {K : Params → PySem.W.Frag} {sp : World → Sp} {x : Str} (hn : l.most = some n) (hn2 : n ≤ sizeLine) (hdf : d.params.defaults = []) (hr : Room k callerA)
    (hY : ∀ (w : World) (h : Heap), YP w h → (K w.params).In h)
    (F : ∀ (w : World) (mg : Str → Option Value) (fa : Addr) (h : Heap), (K w.params).In h → h.Ns mainGlobals mg → mg d.name = some (.ref fa) →
      ∃ fd : FuncData, (∀ (s : Shared) (u : Value), BindsTo s fd ⟨[u], []⟩ [(x, u)]) ∧ ∀ base : Heap, (K w.params).In base → base.Ns mainGlobals mg → FnG l.prog w (K w.params) mg base k fa fd [x] (sp w))
    (hsp : ∀ (w : World) (H : Hp) (a : Addr) (ns : List Int), ns.length ≤ n → Only H → SqL (K w.params) H a (ns.map V.int) → sp w [.ref a] H (fun v _ => v = .bl true) E0) :
    PySem.W.WalkO q loose XP YP l.row.toRowW d [] (fun f vs => PySem.call f vs) :=
  Att.attach_call hn hdf fun w s₀ s₁ mg mb fa o pm cd doc a vs ns G Y ho hd hcd hmg hobj hints hlen hg => by
    obtain ⟨fd, h1, h2⟩ := F w mg fa s₁.heap (hY w s₁.heap Y) G.T.g hmg
    exact lawG (hY w s₁.heap Y) G.T.g G.T.b G.T.builtins G.T.nolimit hg hobj hints (Nat.le_trans hlen hn2) hr h2 h1 fun H hO hS => hsp w H a ns hlen hO hS
end
/-! ### a def by its name -/
/-- a def of the top, by its promise on data -/
structure Dn (P : Program) (w : World) (K : PySem.W.Frag) (mg : Str → Option Value) (base : Heap) (k : Nat) (x : Str) (ps : List Str) (F : FT) : Prop where
  ex : ∃ (f : Addr) (fd : FuncData), mg x = some (.ref f) ∧ PySem.W.keepIn K (.ref f) = true ∧ Binds K fd ps [] ∧
    (∀ (s : Shared) (us : List Value), us.length = ps.length → BindsTo s fd ⟨[], ps.zip us⟩ (ps.zip us)) ∧ ∀ dr, FnG P w K mg base k f fd ps (SpD K dr (List.replicate ps.length false) F)
/-- a constant of the top -/
def Gc (K : PySem.W.Frag) (mg : Str → Option Value) (x : Str) (d : D) : Prop := ∃ (v : V) (u : Value), mg x = some u ∧ RelV v u ∧ ∀ dr G, Rp K dr G v d
section
variable {X : Cx} {p : Pl} {e : Expr} {es : List Expr} {t : WA} {pos pf : Pos} {x : Str} {ps : List Str} {F : FT} {k : Nat}
theorem pd_const {d : D} (h : Gc X.K X.mg x d) (hg : Gl X x := by rfl) (hK : p.K = X.K := by rfl) (hd : (x == ("__debug__" : Str)) = false := by decide) : PE X (.Name x pos) (lift p (wC d)) := by
  obtain ⟨v, u, h1, h2, h3⟩ := h
  exact pd_glob hg h1 h2 (fun G => by
    have z := h3 p.dr G
    rw [← hK] at z
    exact z) hd
theorem pd_cl (D : Dn X.prog X.w X.K X.mg X.base k x ps F) {j : Nat} (hr : Room j X.A) (hj : k ≤ j) (hga : X.A.guards = some []) (ha : PA X (e :: es) (liftM p (List.replicate ps.length false) t)) (hK : p.K = X.K := by rfl) (hg : Gl X x := by rfl)
    (hdb : (x == ("__debug__" : Str)) = false := by decide) (he : starEach (e :: es) X.env = (false, eval e X.env) :: starEach es X.env := by rfl) (hpl : (backTo pos (starEach es X.env)).any (·.1) = false := by rfl) :
    PE X (.Call (.Name x pf) (e :: es) [] pos) (lift p (wCall F t)) := by
  obtain ⟨f, fd, h1, h2, h3, h4, h5⟩ := D.ex
  exact pd_callG (h5 p.dr) (hr.mono hj) hga h1 h2 h3 ha hK rfl hg hdb he hpl
theorem pd_clK (D : Dn X.prog X.w X.K X.mg X.base k x ps F) {j : Nat} {kws : List Keyword} (hr : Room j X.A) (hj : k ≤ j) (hga : X.A.guards = some []) (ha : PKd X p kws ps.length t) (hK : p.K = X.K := by rfl) (hg : Gl X x := by rfl)
    (hdb : (x == ("__debug__" : Str)) = false := by decide) (hall : (backToKw pos (keywordEach kws X.env)).all (·.1.isSome) = true := by rfl) (hks : (backToKw pos (keywordEach kws X.env)).filterMap (·.1) = ps := by rfl)
    (hpl : ((backTo pos (starEach [] X.env)).any (·.1) || (backToKw pos (keywordEach kws X.env)).any (·.1.isNone)) = false := by rfl) :
    PE X (.Call (.Name x pf) [] kws pos) (lift p (wCall F t)) := by
  obtain ⟨f, fd, h1, h2, h3, h4, h5⟩ := D.ex
  exact pd_callK (h5 p.dr) (hr.mono hj) hga h1 h2 h4 ha hK rfl hg hdb hall hks hpl
/-- {}, where a slot holds the draws -/
def wDic (i : Nat) : W := ⟨fun s P => vget s.env i = some .drw ∧ P .dic0 s, fun s P P' h q => ⟨q.1, h _ _ q.2⟩⟩
theorem drw_one {σ : L2.St} {H G : Hp} {s : S} {i : Nat} (R : p.Rs σ H G s) (h : vget s.env i = some .drw) : One p.K G := by
  obtain ⟨v, e, r⟩ := vget_rb R h
  have r' : p.Rp G v .drw := r
  cases r' with
  | drw _ o => exact o
theorem pd_dict0 (i : Nat) : PE X (.Dict [] [] pos) (lift p (wDic i)) := PE.imp pe_dnewK fun σ H Q ⟨G, s, R, k⟩ q hq => k.2 _ _ _ (Same.upd (R.sub.none hq)) (R.alloc hq) (.dic0 upd_same ((drw_one R k.1).mono (Same.upd (R.sub.none hq))))
/-- the law's block, where the draws' dict is new -/
def liftSX (K : PySem.W.Frag) (ws : WS) : TS := fun D σ H => ∃ a H0 G0, liftS ⟨K, some a, H0, G0⟩ ws D σ H
theorem pss_SX {sts : List Stmt} {ws : WS} {K : PySem.W.Frag} (h : ∀ a H0 G0, PSs X sts (liftS ⟨K, some a, H0, G0⟩ ws)) : PSs X sts (liftSX K ws) := ⟨fun pins s σ H D I ⟨a, H0, G0, k⟩ => (h a H0 G0).run pins s σ H D I k⟩
end
end DI
/-! What each part asks, as equations. -/
namespace DI
open PySem PySem.Spec PyProof.Rows L2
section
variable {w wa wb wc : W} {t u : WT} {a b v : WS} {ta : WA} {i j l : Nat} {d : D} {E : ED} {s : S} {n : Nat} {env : List Sl}
  {P : D → S → Prop} {PT : Bool → S → Prop} {PA : List D → S → Prop} {PO : Option Int → S → Prop} {c c' : D → D → Prop} {g g' : D → D → Option D}
theorem f_wC : (wC d).f s P = P d s := rfl
theorem f_wVar : (wVar i).f ⟨env, n⟩ P = (match env[i]? with
  | some (.val d) => P d ⟨env, n⟩
  | some (.own ds) => P (.lst ds) ⟨env.set i (.val (.lst ds)), n⟩
  | _ => False) := rfl
theorem f_wBin : (wBin c g wa wb).f s P = wa.f s fun d1 s1 => wb.f s1 fun d2 s2 => c d1 d2 ∧ get (g d1 d2) fun d => P d s2 := rfl
theorem f_wBinV : (wBinV c g i wb).f ⟨env, n⟩ P = get (vget env i) fun _ => wb.f ⟨env, n⟩ fun d2 s2 => get (vget s2.env i) fun d1 => c d1 d2 ∧ get (g d1 d2) fun d => P d s2 := rfl
theorem f_wBinR : (wBinR c g wa i).f s P = wa.f s fun d1 s1 => get (vget s1.env i) fun d2 => c d1 d2 ∧ get (g d1 d2) fun d => P d s1 := rfl
def blD : D → Option Bool
  | .bl b => some b
  | _ => none
def intD : D → Option Int
  | .int b => some b
  | _ => none
theorem bl_eq (d : D) : (match d with | .bl b => some b | _ => none) = blD d := by cases d <;> rfl
theorem int_eq (d : D) : (match d with | .int b => some b | _ => none) = intD d := by cases d <;> rfl
theorem f_wT : (wT w).f s PT = w.f s fun d s1 => get (blD d) fun b => PT b s1 := rfl
theorem f_wChain : (wChain c c' g g' wa wb wc).f s P = wa.f s fun d1 s1 => wb.f s1 fun d2 s2 => c d1 d2 ∧ get (g d1 d2) fun z => get (blD z) fun k => if k = true then wc.f s2 fun d3 s3 => c' d2 d3 ∧ get (g' d2 d3) fun y => P y s3 else P (.bl false) s2 := rfl
end
section
theorem f_wTru {w : W} {s P} : (wTru w).f s P = (w.f s fun d s1 => cTru d ∧ get (truD d) fun b => P b s1) := rfl
theorem f_wTruV {i : Nat} {s P} : (wTruV i).f s P = (get (vget s.env i) fun d => cTru d ∧ get (truD d) fun b => P b s) := rfl
theorem f_tAnd {t u : WT} {s P} : (tAndD t u).f s P = (t.f s fun b s1 => if b = true then u.f s1 P else P false s1) := rfl
theorem f_tOr {t u : WT} {s P} : (tOrD t u).f s P = (t.f s fun b s1 => if b = true then P true s1 else u.f s1 P) := rfl
theorem f_tNot {t : WT} {s P} : (tNotD t).f s P = (t.f s fun b s1 => P (!b) s1) := rfl
theorem f_andV {wa wb : W} {s P} : (wAndV wa wb).f s P = (wa.f s fun d s1 => get (blD d) fun b => if b = true then wb.f s1 P else P (.bl false) s1) := rfl
theorem f_orV {wa wb : W} {s P} : (wOrV wa wb).f s P = (wa.f s fun d s1 => get (blD d) fun b => if b = true then P (.bl true) s1 else wb.f s1 P) := rfl
theorem f_notV {wa : W} {s P} : (wNotV wa).f s P = (wa.f s fun d s1 => get (blD d) fun b => P (.bl (!b)) s1) := rfl
theorem f_if {t : WT} {wa wb : W} {s P} : (wIf t wa wb).f s P = (t.f s fun b s1 => if b = true then wa.f s1 P else wb.f s1 P) := rfl
theorem f_noPart {s P} : wNoPart.f s P = (P none s) := rfl
theorem f_part {w : W} {s P} : (wPart w).f s P = (w.f s fun d s1 => get (intD d) fun i => P (some i) s1) := rfl
theorem f_sl {wa : W} {lo hi : WO} {s P} : (wSl wa lo hi).f s P = (wa.f s fun d s1 => lo.f s1 fun l s2 => hi.f s2 fun h s3 => cSl d ∧ get (gSl d l h) fun z => P z s3) := rfl
theorem f_slV {i : Nat} {lo hi : WO} {s P} : (wSlV i lo hi).f s P = (get (vget s.env i) fun _ => lo.f s fun l s2 => hi.f s2 fun h s3 => get (vget s3.env i) fun d => cSl d ∧ get (gSl d l h) fun z => P z s3) := rfl
theorem f_nil {s P} : waNil.f s P = (P [] s) := rfl
theorem f_cons {w : W} {t : WA} {s P} : (waCons w t).f s P = (w.f s fun d s1 => t.f s1 fun ds s2 => P (d :: ds) s2) := rfl
theorem f_bor {i : Nat} {t : WA} {s P} : (waBor i t).f s P = (get (vget s.env i) fun _ => t.f s fun ds s2 => get (vget s2.env i) fun d => P (d :: ds) s2) := rfl
theorem f_tup {t : WA} {s P} : (wTup t).f s P = (t.f s fun ds s1 => ds.length ≤ sizeLine ∧ P (.tup ds) s1) := rfl
theorem f_lst {t : WA} {s P} : (wLst t).f s P = (t.f s fun ds s1 => ds.length ≤ sizeLine ∧ P (.lst ds) s1) := rfl
theorem f_fn {c : List D → Prop} {g : List D → Option D} {t : WA} {s P} : (wFn c g t).f s P = (t.f s fun ds s1 => c ds ∧ get (g ds) fun d => P d s1) := rfl
theorem f_isi {T : String} {w : W} {s P} : (wIsi T w).f s P = (w.f s fun d s1 => get (gIsi T d) fun z => P z s1) := rfl
theorem f_mt {c : Str → D → Prop} {g : Str → D → Option D} {wa wb : W} {s P} : (wMt c g wa wb).f s P = (wa.f s fun d1 s1 => get (strD d1) fun z => wb.f s1 fun d2 s2 => c z d2 ∧ get (g z d2) fun d => P d s2) := rfl
theorem f_call {F : FT} {t : WA} {s P} : (wCall F t).f s P = (t.f s fun ds s1 => F.f ds s1.n fun d m => P d { s1 with n := m }) := rfl
theorem f_next {E s} : wNext.f E s = (E.nx s) := rfl
theorem f_seq {u v : WS} {E s} : (wSeq u v).f E s = (u.f { E with nx := v.f E } s) := rfl
theorem f_break {E s} : wBreak.f E s = (E.bk s) := rfl
theorem f_cont {E s} : wCont.f E s = (E.ct s) := rfl
theorem f_drop {w : W} {E s} : (wDrop w).f E s = (w.f s fun _ s1 => E.nx s1) := rfl
theorem f_ret {w : W} {E s} : (wRet w).f E s = (w.f s fun d s1 => E.rt d s1) := rfl
theorem f_retN {E s} : wRetN.f E s = (E.rt .non s) := rfl
theorem f_ifS {t : WT} {u v : WS} {E s} : (wIfS t u v).f E s = (t.f s fun b s1 => if b = true then u.f E s1 else v.f E s1) := rfl
theorem f_set {i : Nat} {w : W} {E s} : (wSet i w).f E s = (w.f s fun d s1 => i < s1.env.length ∧ E.nx { s1 with env := s1.env.set i (.val d) }) := rfl
theorem f_ofL {w : WA} {s P} : (wOfL w).f s P = (w.f s fun ds s1 => P (.lst ds) s1) := rfl
theorem f_sz {t : WA} {s P} : (wsz t).f s P = (t.f s fun ds s1 => ds.length ≤ sizeLine ∧ P ds s1) := rfl
theorem f_own {i : Nat} {t : WA} {E s} : (wOwn i t).f E s = (t.f s fun ds s1 => i < s1.env.length ∧ E.nx { s1 with env := s1.env.set i (.own ds) }) := rfl
theorem f_par {i j : Nat} {t : WA} {E s} : (wPar i j t).f E s = (t.f s fun ds s1 => ∃ d1 d2, ds = [d1, d2] ∧ i < s1.env.length ∧ j < s1.env.length ∧ E.nx { s1 with env := (s1.env.set i (.val d1)).set j (.val d2) }) := rfl
theorem f_par3 {i j l : Nat} {t : WA} {E s} : (wPar3 i j l t).f E s = (t.f s fun ds s1 => ∃ d1 d2 d3, ds = [d1, d2, d3] ∧ i < s1.env.length ∧ j < s1.env.length ∧ l < s1.env.length ∧ E.nx { s1 with env := ((s1.env.set i (.val d1)).set j (.val d2)).set l (.val d3) }) := rfl
theorem f_asgT {g : D → List Sl → Option (List Sl)} {w : W} {E s} : (wAsgT g w).f E s = (w.f s fun d s1 => get (g d s1.env) fun env' => E.nx { s1 with env := env' }) := rfl
theorem f_iL {w : W} {s P} : (wiL w).f s P = (w.f s fun d s1 => get (lstD d) fun ds => P ds s1) := rfl
theorem f_iT {w : W} {s P} : (wiT w).f s P = (w.f s fun d s1 => get (tupD d) fun ds => P ds s1) := rfl
theorem f_iS {w : W} {s P} : (wiS w).f s P = (w.f s fun d s1 => get (strD d) fun z => P (chrs z) s1) := rfl
theorem f_iR1 {t : WA} {s P} : (wiR1 t).f s P = (t.f s fun ds s1 => ∃ j, ds = [.int j] ∧ -(2 ^ 62) ≤ j ∧ j < 2 ^ 62 ∧ P (rngD 0 j.toNat) s1) := rfl
theorem f_for {wi : WI} {g : D → List Sl → Option (List Sl)} {tb : WS} {E s} : (wForS wi g tb).f E s = (wi.f s fun ds s1 => forW g tb E ds s1) := rfl
theorem f_lc {wi : WI} {ge : D → List Sl → Option (List Sl)} {vs : List Nat} {tt : WT} {te : W} {s P} : (wLc wi ge vs tt te).f s P = (wi.f s fun ds s1 => lcGo ge vs tt te s1.env ds [] s1.n fun acc n => P acc { s1 with n := n }) := rfl
theorem f_yes {s P} : wtYes.f s P = (P true s) := rfl
theorem f_dgL {i : Nat} {s P} : (wDgL i).f s P = (vget s.env i = some .drw ∧ ∀ l : Int, P (.int l) s) := rfl
theorem f_dgA {i : Nat} {s P} : (wDgA i).f s P = (vget s.env i = some .drw ∧ ∀ l : Int, 0 ≤ l → l ≤ s.n → P (.int l) s) := rfl
theorem f_dgC {i : Nat} {s P} : (wDgC i).f s P = (vget s.env i = some .drw ∧ ∀ ns : List Int, 0 < ns.length → ns.length ≤ 64 → P (.lst (ns.map D.int)) s) := rfl
theorem f_dpL {i : Nat} {w : W} {E s} : (wDpL i w).f E s = (w.f s fun d s1 => vget s1.env i = some .drw ∧ ∃ (y : Int) (m : Nat), d = .int y ∧ s1.n ≤ m ∧ E.nx { s1 with n := m }) := rfl
theorem f_dpA {i : Nat} {w : W} {E s} : (wDpA i w).f E s = (w.f s fun d s1 => vget s1.env i = some .drw ∧ ∃ (y : Int), d = .int y ∧ 0 ≤ y ∧ y ≤ s1.n + 1 ∧ E.nx { s1 with n := s1.n + 1 }) := rfl
theorem f_app {i : Nat} {w : W} {E s} : (wApp i w).f E s = (get (ownE s.env i) fun _ => w.f s fun d s1 => get (ownE s1.env i) fun ds => ds.length < sizeLine ∧ E.nx { s1 with env := s1.env.set i (.own (ds ++ [d])) }) := rfl
theorem f_pop {i : Nat} {s P} : (wPop i).f s P = (get (ownE s.env i) fun ds => get ds[ds.length - 1]? fun d => P d { s with env := s.env.set i (.own ds.dropLast) }) := rfl
end
theorem get_if {α : Type} {c : Prop} [Decidable c] {x y : Option α} {P : α → Prop} : get (if c then x else y) P = if c then get x P else get y P := by split <;> rfl
theorem env0 {n : Nat} {ms : List Bool} {d : D} {ds : List D} : initE n (false :: ms) (d :: ds) = .val d :: initE (n - 1) ms ds := by
  show initSl false d :: _ = _
  cases d <;> rfl
theorem env1 {n : Nat} : initE n [] [] = List.replicate n .emp := rfl
theorem bl_bl {b : Bool} : blD (.bl b) = some b := rfl
theorem int_int {b : Int} : intD (.int b) = some b := rfl
theorem str_str {b : Str} : strD (.str b) = some b := rfl
theorem gNm_lt {i : Nat} {d : D} {env : List Sl} (h : i < env.length) : gNm i d env = some (env.set i (.val d)) := if_pos h
end DI
/-! while; reversed(range(n)). -/
namespace DI
open PySem PySem.Spec PyProof.Rows L2
section
variable {X : Cx} {p : Pl} {c e tg : Expr} {body : List Stmt} {pos : Pos}
/-- while, by an invariant with a measure -/
def wWhile (tc : WT) (tb : WS) : WS := ⟨fun E s => ∃ I : Nat → S → Prop, (∃ m, I m s) ∧ ∀ m s, I m s → tc.f s fun b s1 => if b = true then tb.f { nx := fun s' => ∃ m', m' < m ∧ I m' s', rt := E.rt, bk := E.nx, ct := fun s' => ∃ m', m' < m ∧ I m' s' } s1 else E.nx s1,
  fun E E' s h ⟨I, h0, k⟩ => ⟨I, h0, fun m s hi => tc.mono _ _ _ (fun b s1 q => by
    cases b with
    | true => exact tb.mono { nx := fun s' => ∃ m', m' < m ∧ I m' s', rt := E.rt, bk := E.nx, ct := fun s' => ∃ m', m' < m ∧ I m' s' } { nx := fun s' => ∃ m', m' < m ∧ I m' s', rt := E'.rt, bk := E'.nx, ct := fun s' => ∃ m', m' < m ∧ I m' s' } _ (ED.Le.mk (fun _ z => z) h.rt h.nx (fun _ z => z)) q
    | false => exact h.nx _ q) (k m s hi)⟩⟩
theorem sd_while {tc : WT} {tb : WS} (hc : PT X c (liftT p tc)) (hb : PSs X body (liftS p tb)) (hp : PassesOwn (model X.prog X.w) X.A X.env X.xe := by exact PassesOwn.never) : PS X (.While c body [] pos) (liftS p (wWhile tc tb)) :=
  PS.imp (ps_while hp hc hb) fun D σ H ⟨G, s, E, R, ⟨I, ⟨m0, h0⟩, step⟩, q⟩ => by
    refine ⟨fun m σ' H' => ∃ G' s', Same G G' ∧ p.Rs σ' H' G' s' ∧ I m s', ⟨m0, G, s, Same.refl G, R, h0⟩, fun m σ' H' ⟨G', s', e, R', hi⟩ => ⟨G', s', R', tc.mono _ _ _ (fun b s1 k1 H1 G1 e1 R1 => ?_) (step m s' hi)⟩⟩
    cases b with
    | true =>
      rw [if_pos rfl]
      have k2 : tb.f { nx := fun s' => ∃ m', m' < m ∧ I m' s', rt := E.rt, bk := E.nx, ct := fun s' => ∃ m', m' < m ∧ I m' s' } s1 := k1
      have e2 := e.trans e1
      refine ⟨fun σ2 H2 => ∃ G2 s2, Same G G2 ∧ p.Rs σ2 H2 G2 s2 ∧ ∃ m', m' < m ∧ I m' s2, fun σ2 H2 ⟨G2, s2, z1, z2, m', z3, z4⟩ => ⟨m', z3, G2, s2, z1, z2, z4⟩, G1, s1, _, R1, k2, ?_, ?_, ?_, ?_⟩
      · exact fun σ4 H4 G4 s4 a R4 k4 => ⟨G4, s4, e2.trans a, R4, k4⟩
      · exact fun v σ4 H4 G4 d4 s4 a R4 r4 k4 => q.rt v σ4 H4 G4 d4 s4 (e2.trans a) R4 r4 k4
      · exact fun σ4 H4 G4 s4 a R4 k4 => q.nx σ4 H4 G4 s4 (e2.trans a) R4 k4
      · exact fun σ4 H4 G4 s4 a R4 k4 => ⟨G4, s4, e2.trans a, R4, k4⟩
    | false =>
      rw [if_neg (by decide)]
      exact q.nx _ H1 G1 s1 (e.trans e1) R1 k1
/-- n - 1, .., 0 -/
def dwnD (n : Nat) : List D := (List.range n).map fun (i : Nat) => D.int ((n : Int) - 1 - (i : Int))
theorem src_dwn {n : Nat} {G : Hp} : Src p (Itc ((n : Int) - 1) (-1) n) (dwnD n) G := fun i H' G' e hs => by
  constructor
  · intro d hd
    have hi : i < n := by
      have := (List.getElem?_eq_some_iff.mp hd).1
      unfold dwnD at this
      simpa using this
    refine ⟨hi, fun x H'' y => .inl ⟨y.1, ?_⟩⟩
    unfold dwnD at hd
    rw [List.getElem?_map, List.getElem?_range hi] at hd
    cases hd
    have ex : x = .int ((n : Int) - 1 + (i : Int) * (-1)) := y.2
    rw [ex, show (n : Int) - 1 + (i : Int) * (-1) = (n : Int) - 1 - (i : Int) from by omega]
    exact .int _
  · intro h
    unfold dwnD at h
    show n ≤ i
    simpa using h
def wiDown (w : W) : WI := ⟨fun s P => w.f s fun d s1 => ∃ j : Int, d = .int j ∧ 0 ≤ j ∧ j < 2 ^ 62 ∧ P (dwnD j.toNat) s1, fun s P P' h q => w.mono _ _ _ (fun d s1 ⟨j, a, b, c, q⟩ => ⟨j, a, b, c, h _ _ q⟩) q⟩
theorem id_down {w : W} {pf pr pp : Pos} (he : PE X e (lift p w)) (hm : X.mg "reversed" = none) (hr : X.mg "range" = none) (hg : Gl X "reversed" := by rfl) (hg2 : Gl X "range" := by rfl) (hs2 : starEach [e] X.env = (false, eval e X.env) :: starEach [] X.env := by rfl)
    (hs : starEach [.Call (.Name "range" pr) [e] [] pp] X.env = (false, eval (.Call (.Name "range" pr) [e] [] pp) X.env) :: starEach [] X.env := by rfl) :
    PI X tg (.Call (.Name "reversed" pf) [.Call (.Name "range" pr) [e] [] pp] [] pos) (liftI p (wiDown w)) :=
  PI.imp (pi_revR hg hm (prg_1 hg2 hr he hs2) hs) fun σ H Rr ⟨G, s, R, k⟩ => ⟨G, s, R, w.mono _ _ _ (fun d s1 ⟨j, ed, j0, j1, k1⟩ v H1 G1 e1 R1 r1 => by
    subst ed
    cases r1
    refine ⟨j, rfl, by decide, by decide, by omega, j1, ?_⟩
    have e : (0 : Int) + (((j - 0).toNat : Nat) : Int) - 1 = ((j.toNat : Nat) : Int) - 1 := by omega
    have e' : (j - 0).toNat = j.toNat := by omega
    rw [e, e']
    exact k1 _ H1 G1 e1 R1 src_dwn) k⟩
end
end DI
namespace EX
open PySem PySem.W PySem.Calls PyProof.Rows PySem.HandSPX
section
variable {prog : Program} {w : World} {A : Around} {R : Result → Shared → Prop} {h : Heap} {g : Array GenState} {d : Drawn} {t : Nat} {os : OsState} {nm q : Str} {C N : Addr} {bs bm bmB : List Value}
  {hdct : Bool} {sn : List Str} {sub : List Value} {ab : Bool} {col : Option Bool} {dd : Option Addr} {k0 k1 k2 k3 k5 : Option Value} {B newId initId : String}
theorem new_ownK (F : ExcBaseFacts B newId initId bmB) (hT : ∀ X : String, bm.contains (Value.type X) = bmB.contains (Value.type X)) {rest : List Value} {kw : List (Str × Value)}
    (hC : h.get? C = some (excClassObj nm q C N bs bm hdct sn sub ab col dd k0 k1 k2 k3 k5 newId))
    (hq : R (.ok (.ret (.ref (h.objs.size + 1)))) { heap := (h.push (kdv_tup rest)).push (excO C h.objs.size), gens := g, drawn := d, toks := t, os := os }) (hrest : rest.length ≤ sizeLine) :
    codeAny (model prog w) A (Code.builtin newId ⟨.ref C :: rest, kw⟩) R { heap := h, gens := g, drawn := d, toks := t, os := os } := by
  have hends := F.ends
  have hcB : (Value.ref C :: bm).contains (Value.type B) = true := by
    rw [List.contains_cons, hT B, F.hasB, Bool.or_true]
  have hcA : (Value.ref C :: bm).contains (Value.type "AttributeError") = false := by
    rw [List.contains_cons, hT, F.noAttr]
    rfl
  have hcN : (Value.ref C :: bm).contains (Value.type "NameError") = false := by
    rw [List.contains_cons, hT, F.noName]
    rfl
  refine PySem.codeAny_builtinAt F.entry ?_
  refine PySem.wpAt_bind ?_
  refine PySem.wpAt_bind ?_
  refine PySem.wpAt_stack fun p below => ?_
  refine PySem.wpAt_of_wpAny ?_
  refine PySem.wpAny_ite_true (by simpa using hends) ?_
  refine PySem.wpAny_pure ?_
  refine PySem.wpAt_of_wpAny ?_
  rw [show (newId.dropRight 8) = B from F.owner]
  refine PySem.wpAny_bind ?_
  refine PySem.wpAny_bind ?_
  refine PySem.wpAny_loadPart_at hC ?_
  refine PySem.wpAny_pure ?_
  refine PySem.wpAny_ite_false rfl ?_
  refine PySem.wpAny_bind ?_
  refine wpAny_isSubtype_exc hC ?_
  rw [hcB]
  refine PySem.wpAny_ite_false rfl ?_
  refine PySem.wpAny_bind ?_
  refine wpAny_madeHere_exc F.canon hC ?_
  refine PySem.wpAny_bind ?_
  refine PySem.wpAny_bind ?_
  refine wpAny_isSubtype_exc hC ?_
  rw [hcA]
  refine PySem.wpAny_ite_false rfl ?_
  refine PySem.wpAny_bind ?_
  refine wpAny_isSubtype_exc hC ?_
  rw [hcN]
  refine PySem.wpAny_ite_false rfl ?_
  refine PySem.wpAny_pure ?_
  refine PySem.wpAny_bind ?_
  refine PySem.wpAny_ite_false (by simpa using hrest) ?_
  refine PySem.wpAny_bind ?_
  refine PySem.wpAny_alloc' ?_
  refine PySem.wpAny_pure ?_
  refine PySem.wpAny_bind ?_
  unfold PySem.newObj
  dsimp only
  refine PySem.wpAny_ite_false (by rfl) ?_
  refine PySem.wpAny_bind ?_
  refine PySem.wpAny_alloc' ?_
  refine PySem.wpAny_bind ?_
  refine PySem.wpAny_bind ?_
  refine PySem.wpAny_load' (by have hC' := Heap.get?_push_of_some (excO C h.objs.size) (Heap.get?_push_of_some (kdv_tup rest) hC); exact hC') ?_
  refine PySem.wpAny_pure ?_
  refine PySem.wpAny_ite_false rfl ?_
  refine PySem.wpAny_pure ?_
  refine PySem.wpAny_pure ?_
  have e := Heap.size_push h (kdv_tup rest)
  show R (.ok (.ret (.ref _))) _
  rw [show (h.push (kdv_tup rest)).objs.size = h.objs.size + 1 from e]
  exact hq
end
theorem any_args {id B : String} {a : List Value} {kw : List (Str × Value)} {r : Manifest.Receiver} {ps : List Manifest.Param} : Bind.checkArgs id { machinery := Manifest.Machinery.any, full := B, short := B, receiver := r, params := ps } ⟨a, kw⟩ = Bind.checkArgs id { machinery := Manifest.Machinery.any, full := B, short := B, receiver := r, params := ps } ⟨a, []⟩ := by
  unfold Bind.checkArgs Bind.check
  rfl
theorem any_call {B newId initId : String} {bm : List Value} (F : ExcBaseFacts B newId initId bm) {c : Value} {rest : List Value} {kw : List (Str × Value)} : checkBuiltinCall newId ⟨c :: rest, kw⟩ = checkBuiltinCall newId ⟨c :: rest, []⟩ := by
  unfold checkBuiltinCall
  simp only [F.newRow, F.newKind, F.newSplit]
  rw [show Bind.checkArgs newId _ ⟨c :: rest, kw⟩ = _ from any_args]
end EX
namespace EX
open PySem PySem.W PySem.Calls PyProof.Rows PySem.HandSPX
theorem tc_args {id F S : String} {a : List Value} {kw : List (Str × Value)} {r : Manifest.Receiver} {ps : List Manifest.Param} : Bind.checkArgs id { machinery := Manifest.Machinery.hand, full := F, short := S, receiver := r, params := ps } ⟨a, kw⟩ = Bind.checkArgs id { machinery := Manifest.Machinery.hand, full := F, short := S, receiver := r, params := ps } ⟨a, []⟩ := by
  unfold Bind.checkArgs Bind.check
  rfl
theorem tc_hand : (Manifest.signature? "type.__call__").map (fun s => s.machinery) = some Manifest.Machinery.hand := by decide +kernel
theorem tc_kind : builtinKind "type.__call__" = some Manifest.AttrKind.slot := by decide +kernel
theorem tc_split : splitId "type.__call__" = some ("type", "__call__") := by decide +kernel
theorem tc_call {c : Value} {rest : List Value} {kw : List (Str × Value)} : checkBuiltinCall "type.__call__" ⟨c :: rest, kw⟩ = checkBuiltinCall "type.__call__" ⟨c :: rest, []⟩ := by
  have e := tc_hand
  cases q : Manifest.signature? "type.__call__" with
  | none => rw [q] at e; cases e
  | some s =>
    rw [q] at e
    obtain ⟨m, F, S, r, ps⟩ := s
    have e' : m = Manifest.Machinery.hand := by simpa using e
    subst e'
    unfold checkBuiltinCall
    simp only [q, tc_kind, tc_split]
    unfold Bind.checkArgs Bind.check
    rfl
section
variable {prog : Program} {w : World} {A : Around} {h : Heap} {g : Array GenState} {d : Drawn} {t : Nat} {os : OsState} {nm q : Str} {C N : Addr} {bs bm bmB : List Value}
  {hdct : Bool} {sn : List Str} {sub : List Value} {ab : Bool} {col : Option Bool} {dd : Option Addr} {k0 k1 k2 k3 k5 : Option Value} {B newId initId : String}
theorem type_call_ownK {E : Value → Shared → Prop} {Q : PySem.Fin → Shared → Prop} (F : ExcBaseFacts B newId initId bmB) (hT : ∀ X : String, bm.contains (Value.type X) = bmB.contains (Value.type X)) {rest : List Value} {kw : List (Str × Value)} {fI : Addr}
    (hC : h.get? C = some (excClassObj nm q C N bs bm hdct sn sub ab col dd k0 k1 k2 k3 k5 newId))
    (hi : Looks (model prog w) h (typeLookup (.ref C) (Str.ofString "__init__")) (some (.ref fI)))
    (hb : ∀ self : Value, Looks (model prog w) h (bindSpecial (.ref fI) self) (.ref fI, [self])) (hrest : rest.length ≤ sizeLine)
    (hq : codeAny (model prog w) A (Code.call (.ref fI) ⟨.ref (h.objs.size + 1) :: rest, kw⟩) (fun r s' => match r with
      | .ok (.ret v) => v = .none ∧ Q (.done (.ret (.ref (h.objs.size + 1)))) s'
      | .ok _ => False
      | .error e => E e s') { heap := (h.push (kdv_tup rest)).push (excO C h.objs.size), gens := g, drawn := d, toks := t, os := os }) :
    wpAny (model prog w) A (Builtin.«type.__call__» ⟨.ref C :: rest, kw⟩) Q E { heap := h, gens := g, drawn := d, toks := t, os := os } := by
  unfold Builtin.«type.__call__»
  dsimp only
  refine PySem.wpAny_ite_false (by rfl) ?_
  refine PySem.wpAny_bind ?_
  refine PySem.wpAny_bind ?_
  refine PySem.wpAny_bind ?_
  refine PySem.wpAny_load' hC ?_
  refine PySem.wpAny_pure ?_
  refine PySem.wpAny_pure ?_
  refine PySem.wpAny_ite_false (by rfl) ?_
  refine PySem.wpAny_bind ?_
  refine wpAny_madeBy_exc hC ?_
  refine PySem.wpAny_bind ?_
  refine PySem.wpAny_pure ?_
  refine PySem.wpAny_bind ?_
  refine PySem.wpAny_holding ?_
  refine PySem.wpAny_call ?_
  refine codeAny_call_builtin_code (Code.quiet_builtin _ F.quiet) ?_
  rw [any_call F]
  refine check_new_own F hT hC ?_
  refine new_ownK F hT hC ?_ hrest
  have k : ∀ b o, h.get? b = some o → ((h.push (kdv_tup rest)).push (excO C h.objs.size)).get? b = some o := fun b o e => Heap.get?_push_of_some _ (Heap.get?_push_of_some _ e)
  have hC₁ := k _ _ hC
  have hget : ((h.push (kdv_tup rest)).push (excO C h.objs.size)).get? (h.objs.size + 1) = some (excO C h.objs.size) := by heap_get
  have hcC : (Value.ref C :: bm).contains (Value.ref C) = true := by simp
  have i1 := hi.keeps k
  have b1 := (hb (.ref (h.objs.size + 1))).keeps k
  refine PySem.wpAny_bind ?_
  refine PySem.wpAny_bind ?_
  refine PySem.wpAny_bind ?_
  refine PySem.wpAny_loadPart_at hget ?_
  refine PySem.wpAny_pure ?_
  refine wpAny_isSubtype_exc hC₁ ?_
  rw [hcC]
  refine PySem.wpAny_ite_false (by rfl) ?_
  refine PySem.wpAny_bind ?_
  refine PySem.wpAny_holding ?_
  refine PySem.wpAny_bind ?_
  refine PySem.wpAny_bind ?_
  refine PySem.wpAny_bind ?_
  refine PySem.wpAny_loadPart_at hget ?_
  refine PySem.wpAny_pure ?_
  refine i1.at ?_
  refine PySem.wpAny_holding ?_
  refine PySem.wpAny_bind ?_
  refine b1.at ?_
  refine PySem.wpAny_bind ?_
  refine PySem.wpAny_call (codeAny_mono hq fun r s' z => ?_)
  cases r with
  | error e => exact z
  | ok f =>
    cases f with
    | next => exact z
    | brk => exact z
    | cont => exact z
    | ret v =>
      obtain ⟨e, z⟩ := z
      subst e
      exact PySem.wpAny_pure (PySem.wpAny_pure z)
theorem call_ownK {R : Result → Shared → Prop} (F : ExcBaseFacts B newId initId bmB) (hT : ∀ X : String, bm.contains (Value.type X) = bmB.contains (Value.type X)) {rest : List Value} {kw : List (Str × Value)} {fI : Addr}
    (hC : h.get? C = some (excClassObj nm q C N bs bm hdct sn sub ab col dd k0 k1 k2 k3 k5 newId))
    (hi : Looks (model prog w) h (typeLookup (.ref C) (Str.ofString "__init__")) (some (.ref fI)))
    (hb : ∀ self : Value, Looks (model prog w) h (bindSpecial (.ref fI) self) (.ref fI, [self])) (hrest : rest.length ≤ sizeLine)
    (hq : codeAny (model prog w) (A.under (.builtin "type.__call__" ⟨.ref C :: rest, kw⟩)) (Code.call (.ref fI) ⟨.ref (h.objs.size + 1) :: rest, kw⟩) (InitBack (h.objs.size + 1) R)
      { heap := (h.push (kdv_tup rest)).push (excO C h.objs.size), gens := g, drawn := d, toks := t, os := os }) :
    codeAny (model prog w) A (.call (.ref C) ⟨rest, kw⟩) R { heap := h, gens := g, drawn := d, toks := t, os := os } := by
  have f1 := tc_lookup
  have f2 := tc_bind (.ref C)
  have hTy : Shared.TypeIs { heap := h, gens := g, drawn := d, toks := t, os := os } (.ref C) "type" := ⟨_, hC, rfl⟩
  refine codeAny_of_tree ?_
  refine PySem.wpAny_bind ?_
  refine PySem.wpAny_load' hC ?_
  refine PySem.wpAny_bind ?_
  refine wpAny_specialOf hTy f1 ?_
  refine PySem.wpAny_bind ?_
  refine PySem.wpAny_of_eq f2 ?_
  refine PySem.wpAny_bind ?_
  refine PySem.wpAny_pure ?_
  refine PySem.wpAny_ite_true (by rfl) ?_
  refine PySem.wpAny_pure ?_
  refine ⟨rfl, ?_⟩
  refine codeAny_call_builtin_at (Code.quiet_builtin _ (by decide +kernel)) entry_typeCall ?_
  show wpAny _ _ (checkBuiltinCall "type.__call__" ⟨.ref C :: rest, kw⟩) _ _ _
  rw [tc_call]
  refine wpAny_check_type_call_sub hC ?_
  refine type_call_ownK F hT hC hi hb hrest ?_
  refine codeAny_mono hq fun r s' z => ?_
  cases r with
  | error e => exact z
  | ok f =>
    cases f with
    | next => exact z
    | brk => exact z
    | cont => exact z
    | ret v => exact z
end
end EX
namespace EX
open PySem PySem.W PySem.Calls PyProof.Rows PySem.HandSPX
section
variable {prog : Program} {w : World} {A : Around} {R : Result → Shared → Prop} {hp : Heap} {g : Array GenState} {d : Drawn} {t : Nat} {os : OsState} {K : Frag} {name : Str} {tk : Tok} {v : Value} {x C dx : Addr} {fv : Array Value} {cd : ClassData} {m0 : Str → Option Value} {nl : List Str}
theorem osa_two (X : K.In hp) (hx : hp.get? x = some { cls := .ref C, dict := some dx, data := .fields fv }) (hns : hp.Ns1 dx m0) (hw : Within m0 nl) (hz : nl.length ≤ 1000)
    (hcd : clsIn K C = some cd) (hm : refsVE cd.mro = true) (hh : cd.hasDict = true) (ha : findIn K (.ref C) name = some none)
    (hq : ∀ (h' : Heap) (tk' : Nat), (∀ b o, b ≠ dx → hp.get? b = some o → h'.get? b = some o) → (h'.Ns1 dx fun y => if y = name then some v else m0 y) → R (.ok (.ret .none)) { heap := h', gens := g, drawn := d, toks := tk', os := os }) :
    codeAny (model prog w) A (.call (.builtin "object.__setattr__") ⟨[.ref x, .str name tk, v], []⟩) R { heap := hp, gens := g, drawn := d, toks := t, os := os } := by
  obtain ⟨oD, esD, epD, hoD, hdD, _⟩ := Heap.Ns1.count hns hw
  have I : InstAt hp x { cls := .ref C, dict := some dx, data := .fields fv } C (some oD) := ⟨hx, rfl, rfl, hoD⟩
  have SF := F.store_object
  have ne := refsVE_ne hm
  have hob : cd.mro.contains (Value.type "object") = true := (refsVE_contains "object" cd.mro hm).trans (by decide +kernel)
  have hsub : mroIn K C (.type "object") = some true := by
    unfold mroIn
    rw [hcd]
    show (if cd.mro.isEmpty = true then none else some (cd.mro.contains (Value.type "object"))) = some true
    rw [ne, hob]
    rfl
  have sub : Looks (model prog w) hp (isInstance (.ref x) (.type "object")) true := W.Looks.andThen (W.InstAt.type I) (W.looks_mroIn X hsub)
  refine codeAny_call_builtin SF.slot.plain SF.entry ?_
  have sa := SF.args (.ref x) (.str name tk) v
  have sk := SF.kind
  have ss := SF.split
  refine @W.check_slot _ _ _ _ _ _ _ _ [.str name tk, v] [] _ sk ss sub sa ?_
  have hmr := W.Looks.andThen (W.looks_clsIn (M := model prog w) X hcd) (f := fun c => pure c.mro) W.Looks.now
  have hcls := W.looks_clsIn (M := model prog w) X hcd
  show wpAny _ _ (Builtin.«object.__setattr__» { pos := [Value.ref x, Value.str name tk, v] }) _ _ _
  rw [W.osa_eq (.ref x) v name tk, refuse_eq (.ref x) (Str.ofString "__setattr__")]
  refine PySem.wpAny_bind ?_
  refine PySem.wpAny_bind ?_
  refine (W.InstAt.type I).at ?_
  refine PySem.wpAny_bind ?_
  refine hmr.at ?_
  rw [refsVE_pass (.ref x) cd.mro hm]
  refine PySem.wpAny_pure ?_
  refine PySem.wpAny_bind ?_
  refine (W.InstAt.type I).at ?_
  refine PySem.wpAny_bind ?_
  refine (W.looks_findIn X ha).at ?_
  refine PySem.wpAny_bind ?_
  refine W.Looks.now.at ?_
  obtain ⟨nm, bs, mro, ns, qn, hd, sn, sb, ab, col, del⟩ := cd
  have hh' : hd = true := hh
  subst hh'
  show wpAny _ _ (Builtin.ObjectAttr.storeInOwnDict (.ref x) (.ref C) (.str name tk) name v false) _ _ _
  unfold Builtin.ObjectAttr.storeInOwnDict
  refine PySem.wpAny_bind ?_
  refine PySem.wpAny_pure ?_
  refine PySem.wpAny_ite_false (by rfl) ?_
  refine PySem.wpAny_bind ?_
  refine PySem.wpAny_bind ?_
  refine PySem.wpAny_loadPart_at hx ?_
  refine PySem.wpAny_bind ?_
  refine hcls.at ?_
  refine PySem.wpAny_ite_false (by rfl) ?_
  refine PySem.wpAny_pure ?_
  exact PySem.ESX.store_in_old hns hw hz fun h' tk' hn' hs => hq h' tk' (fun b o hb ho => (hs.2 b hb).trans ho) hn'
end
end EX
namespace EX
open PySem PySem.W PySem.Calls PyProof.Rows PySem.HandSPX
theorem one_size {n : Nat} (h : n ≤ 1000) : n ≤ sizeLine := by
  rw [sizeLine_eq]
  omega
theorem kept_but {K : Frag} {h h' : Heap} {x : Addr} (X : K.In h) (hx : K.lookup x = none) (k : ∀ b o, b ≠ x → h.get? b = some o → h'.get? b = some o) : K.In h' := fun a o e =>
  k a o (fun z => by rw [z, hx] at e; cases e) (X a o e)
theorem ns_keep {h h' : Heap} {L x : Addr} {m : Str → Option Value} (hn : h.Ns L m) (hL : L ≠ x) (k : ∀ b o, b ≠ x → h.get? b = some o → h'.get? b = some o) : h'.Ns L m := by
  obtain ⟨o, es, ep, e, d, r⟩ := hn
  exact ⟨o, es, ep, k _ _ hL e, d, r⟩
theorem ns1_eq {h : Heap} {a : Addr} {m m' : Str → Option Value} (hn : h.Ns1 a m) (e : ∀ y, m y = m' y) : h.Ns1 a m' := by
  have : m = m' := funext e
  subst this
  exact hn
theorem ldC {M : Model} {A : Around} {E : Value → Shared → Prop} {s : Shared} {name : Str} {scope : Scope} {L a : Addr} {cd : Value} {m : Str → Option Value} {x : Str} {pos : Pos} {v : Value} {Q : Value → Shared → Prop} (hn : s.heap.Ns L m) (hv : m x = some v) (h : Q v s)
    (hk : scope.kind = .function := by rfl) (hl : (envOfC name scope L a cd).kindOf x = some .local := by rfl) (hd : (x == ("__debug__" : Str)) = false := by decide) :
    wpAny M A (eval (.Name x pos) (envOfC name scope L a cd)) Q E s := wpAny_Name (wpAny_loadName_local hk hl hn hv h) hd
theorem lk1 {f1 : Str} {v1 : Value} (y : Str) : (if y = f1 then some v1 else none) = List.lookup y [(f1, v1)] := by
  by_cases h : y = f1
  · subst h
    simp [List.lookup]
  · have q : (y == f1) = false := by simpa using h
    rw [if_neg h, List.lookup_cons, q]
    rfl
theorem lk2 {f1 f2 : Str} {v1 v2 : Value} (n : f1 ≠ f2) (y : Str) : (if y = f2 then some v2 else if y = f1 then some v1 else none) = List.lookup y [(f1, v1), (f2, v2)] := by
  by_cases h : y = f1
  · subst h
    rw [if_neg n]
    simp [List.lookup]
  · have q : (y == f1) = false := by simpa using h
    have e : List.lookup y [(f1, v1), (f2, v2)] = List.lookup y [(f2, v2)] := by
      rw [List.lookup_cons, q]
    rw [if_neg h, e, lk1 y]
theorem lk3 {f1 f2 f3 : Str} {v1 v2 v3 : Value} (n1 : f1 ≠ f2) (n2 : f1 ≠ f3) (n3 : f2 ≠ f3) (y : Str) : (if y = f3 then some v3 else if y = f2 then some v2 else if y = f1 then some v1 else none) = List.lookup y [(f1, v1), (f2, v2), (f3, v3)] := by
  by_cases h : y = f1
  · subst h
    rw [if_neg n2, if_neg n1]
    simp [List.lookup]
  · have q : (y == f1) = false := by simpa using h
    have e : List.lookup y [(f1, v1), (f2, v2), (f3, v3)] = List.lookup y [(f2, v2), (f3, v3)] := by
      rw [List.lookup_cons, q]
    rw [if_neg h, e, lk2 n3 y]
/-- what __init__ leaves of a fresh exception at x -/
structure InitEnd (h h' : Heap) (x C t1 : Addr) (fs : List Str) (us : List Value) : Prop where
  keep : ∀ b o, b ≠ x → h.get? b = some o → h'.get? b = some o
  obj : ∃ od, h'.get? x = some { cls := .ref C, dict := od, data := .fields #[.ref t1, .none, .none, .none, .bool false, .none] } ∧
    (fs = [] → od = none) ∧ (fs ≠ [] → ∃ dx, od = some dx ∧ h.objs.size ≤ dx ∧ dx ≠ x ∧ h'.Ns1 dx fun y => List.lookup y (fs.zip us))
/-- the class's way of stores -/
structure ExY (K : Frag) (C : Addr) (fs : List Str) : Prop where
  cls : ∃ cd, clsIn K C = some cd ∧ refsVE cd.mro = true ∧ cd.hasDict = true
  sa : findIn K (.ref C) "__setattr__" = some (some (.builtin "object.__setattr__"))
  noF : ∀ f ∈ fs, findIn K (.ref C) f = some none
/-- __init__ at fI: by position, or by names from the last one to the first -/
def Ini (K : Frag) (C fI : Addr) (fs : List Str) : Prop := ∀ (prog : Program) (w : World) (A : Around) (R : Result → Shared → Prop) (s : Shared) (x t0 : Addr) (args : Args) (us : List Value),
  K.In s.heap → s.heap.NoLimit → s.heap.get? x = some (excO C t0) → K.lookup x = none → A.depth < recursionLimit → us.length = fs.length →
  (args = ⟨.ref x :: us, []⟩ ∨ args = ⟨[.ref x], fs.reverse.zip us.reverse⟩) →
  (∀ (h' : Heap) (tk : Nat), InitEnd s.heap h' x C t0 fs us → R (.ok (.ret .none)) { s with heap := h', toks := tk }) →
  codeAny (model prog w) A (.call (.ref fI) args) R s
def iA_index (p0 p1 : Pos) : Arguments := { posonlyargs := [], args := [{ arg := "self", annotation := none, pos := p0 }, { arg := "index", annotation := none, pos := p1 }], vararg := none, kwonlyargs := [], kw_defaults := [], kwarg := none, defaults := [] }
def iB_index (q00 q01 q02 q03 : Pos) : List Stmt := [.Assign [.Attribute (.Name "self" q00) "index" q01] (.Name "index" q02) q03]
def iS_index : Scope := { kind := .function, names := [(PySem.Str.ofString "self", .local), (PySem.Str.ofString "index", .local)], isGenerator := false, isCoroutine := false, more := [] }
structure Fn_index (K : Frag) (qn : Str) (fI : Addr) : Prop where
  fn : ∃ (oc : Value) (od : Option Addr) (kV doc pm : Value) (an : Option Addr) (cdv ct : Value) (osl : Array (Option Value)) (p0 p1 q00 q01 q02 q03 : Pos),
    K.lookup fI = some ⟨oc, od, .func (fnOf "__init__" qn (iA_index p0 p1) (iB_index q00 q01 q02 q03) iS_index .none kV doc pm an cdv ct), osl⟩ ∧ codeIn K cdv qn = true
theorem ini_index {K : Frag} {qn : Str} {C fI : Addr} (T : Fn_index K qn fI) (Y : ExY K C ["index"]) : Ini K C fI ["index"] := by
  intro prog w A R s x t0 args us X hlim hx hnx hroom hl ha hq
  obtain ⟨oc, od, kV, doc, pm, an, cdv, ct, osl, p0, p1, q00, q01, q02, q03, ho, hcd⟩ := T.fn
  match us, hl with
  | [v0], _ =>
  have hb : ∀ s' : Shared, BindsTo s' (fnOf "__init__" qn (iA_index p0 p1) (iB_index q00 q01 q02 q03) iS_index .none kV doc pm an cdv ct) args [("self", .ref x), ("index", v0)] := by
    intro s'
    rcases ha with rfl | rfl
    · exact BindsTo.of_eq (by first | rfl | with_unfolding_all rfl)
    · exact BindsTo.of_eq (by first | rfl | with_unfolding_all rfl)
  refine Att.call_fn (binds := [("self", .ref x), ("index", v0)]) X hlim ho hcd hroom (hb _) (by first | rfl | decide | with_unfolding_all rfl) (fun s₁ IC => ?_) rfl rfl rfl
  obtain ⟨h₁, tk₁, rfl⟩ := IC.toInCall.same
  have k : ∀ b o, s.heap.get? b = some o → h₁.get? b = some o := IC.toInCall.keep
  obtain ⟨cd, hcl, hm, hh⟩ := Y.cls
  have hn0 := IC.toInCall.ns
  have hxL : s.heap.objs.size ≠ x := Nat.ne_of_gt (Heap.lt_size hx)
  have X₁ : K.In h₁ := X.keeps k
  have hx₁ := k _ _ hx
  have z1 : s.heap.objs.size < h₁.objs.size := hn0.lt
  show wpAny _ _ (execs _ _) _ _ _
  refine wpAny_execs_cons (plainObj_wpAny_Assign_Attribute ?_)
  refine ldC (v := v0) hn0 (by first | rfl | with_unfolding_all rfl | kernel_rfl) (ldC (v := .ref x) hn0 (by first | rfl | with_unfolding_all rfl | kernel_rfl) ?_)
  refine set_plain X₁ (ox := excO C t0) (od := none) ⟨hx₁, rfl, rfl, trivial⟩ Y.sa ?_
  refine exc_osa X₁ hx₁ hcl hm hh (Y.noF _ (by simp)) (fun h₂ tk₂ dx k₂ dn dne hx₂ hn₂ => ?_)
  show wpAny _ _ (execs _ _) _ _ _
  refine wpAny_execs_nil (hq h₂ tk₂ ⟨fun b o hb e => ?_, some dx, hx₂, fun z => (by cases z), fun _ => ⟨dx, rfl, Nat.le_of_lt (Nat.lt_of_lt_of_le z1 dn), dne, ?_⟩⟩)
  · exact k₂ b o hb (k b o e)
  · refine ns1_eq hn₂ fun y => ?_
    exact lk1  y
def iA_kind (p0 p1 : Pos) : Arguments := { posonlyargs := [], args := [{ arg := "self", annotation := none, pos := p0 }, { arg := "kind", annotation := none, pos := p1 }], vararg := none, kwonlyargs := [], kw_defaults := [], kwarg := none, defaults := [] }
def iB_kind (q00 q01 q02 q03 : Pos) : List Stmt := [.Assign [.Attribute (.Name "self" q00) "kind" q01] (.Name "kind" q02) q03]
def iS_kind : Scope := { kind := .function, names := [(PySem.Str.ofString "self", .local), (PySem.Str.ofString "kind", .local)], isGenerator := false, isCoroutine := false, more := [] }
structure Fn_kind (K : Frag) (qn : Str) (fI : Addr) : Prop where
  fn : ∃ (oc : Value) (od : Option Addr) (kV doc pm : Value) (an : Option Addr) (cdv ct : Value) (osl : Array (Option Value)) (p0 p1 q00 q01 q02 q03 : Pos),
    K.lookup fI = some ⟨oc, od, .func (fnOf "__init__" qn (iA_kind p0 p1) (iB_kind q00 q01 q02 q03) iS_kind .none kV doc pm an cdv ct), osl⟩ ∧ codeIn K cdv qn = true
theorem ini_kind {K : Frag} {qn : Str} {C fI : Addr} (T : Fn_kind K qn fI) (Y : ExY K C ["kind"]) : Ini K C fI ["kind"] := by
  intro prog w A R s x t0 args us X hlim hx hnx hroom hl ha hq
  obtain ⟨oc, od, kV, doc, pm, an, cdv, ct, osl, p0, p1, q00, q01, q02, q03, ho, hcd⟩ := T.fn
  match us, hl with
  | [v0], _ =>
  have hb : ∀ s' : Shared, BindsTo s' (fnOf "__init__" qn (iA_kind p0 p1) (iB_kind q00 q01 q02 q03) iS_kind .none kV doc pm an cdv ct) args [("self", .ref x), ("kind", v0)] := by
    intro s'
    rcases ha with rfl | rfl
    · exact BindsTo.of_eq (by first | rfl | with_unfolding_all rfl)
    · exact BindsTo.of_eq (by first | rfl | with_unfolding_all rfl)
  refine Att.call_fn (binds := [("self", .ref x), ("kind", v0)]) X hlim ho hcd hroom (hb _) (by first | rfl | decide | with_unfolding_all rfl) (fun s₁ IC => ?_) rfl rfl rfl
  obtain ⟨h₁, tk₁, rfl⟩ := IC.toInCall.same
  have k : ∀ b o, s.heap.get? b = some o → h₁.get? b = some o := IC.toInCall.keep
  obtain ⟨cd, hcl, hm, hh⟩ := Y.cls
  have hn0 := IC.toInCall.ns
  have hxL : s.heap.objs.size ≠ x := Nat.ne_of_gt (Heap.lt_size hx)
  have X₁ : K.In h₁ := X.keeps k
  have hx₁ := k _ _ hx
  have z1 : s.heap.objs.size < h₁.objs.size := hn0.lt
  show wpAny _ _ (execs _ _) _ _ _
  refine wpAny_execs_cons (plainObj_wpAny_Assign_Attribute ?_)
  refine ldC (v := v0) hn0 (by first | rfl | with_unfolding_all rfl | kernel_rfl) (ldC (v := .ref x) hn0 (by first | rfl | with_unfolding_all rfl | kernel_rfl) ?_)
  refine set_plain X₁ (ox := excO C t0) (od := none) ⟨hx₁, rfl, rfl, trivial⟩ Y.sa ?_
  refine exc_osa X₁ hx₁ hcl hm hh (Y.noF _ (by simp)) (fun h₂ tk₂ dx k₂ dn dne hx₂ hn₂ => ?_)
  show wpAny _ _ (execs _ _) _ _ _
  refine wpAny_execs_nil (hq h₂ tk₂ ⟨fun b o hb e => ?_, some dx, hx₂, fun z => (by cases z), fun _ => ⟨dx, rfl, Nat.le_of_lt (Nat.lt_of_lt_of_le z1 dn), dne, ?_⟩⟩)
  · exact k₂ b o hb (k b o e)
  · refine ns1_eq hn₂ fun y => ?_
    exact lk1  y
def iA_word (p0 p1 : Pos) : Arguments := { posonlyargs := [], args := [{ arg := "self", annotation := none, pos := p0 }, { arg := "word", annotation := none, pos := p1 }], vararg := none, kwonlyargs := [], kw_defaults := [], kwarg := none, defaults := [] }
def iB_word (q00 q01 q02 q03 : Pos) : List Stmt := [.Assign [.Attribute (.Name "self" q00) "word" q01] (.Name "word" q02) q03]
def iS_word : Scope := { kind := .function, names := [(PySem.Str.ofString "self", .local), (PySem.Str.ofString "word", .local)], isGenerator := false, isCoroutine := false, more := [] }
structure Fn_word (K : Frag) (qn : Str) (fI : Addr) : Prop where
  fn : ∃ (oc : Value) (od : Option Addr) (kV doc pm : Value) (an : Option Addr) (cdv ct : Value) (osl : Array (Option Value)) (p0 p1 q00 q01 q02 q03 : Pos),
    K.lookup fI = some ⟨oc, od, .func (fnOf "__init__" qn (iA_word p0 p1) (iB_word q00 q01 q02 q03) iS_word .none kV doc pm an cdv ct), osl⟩ ∧ codeIn K cdv qn = true
theorem ini_word {K : Frag} {qn : Str} {C fI : Addr} (T : Fn_word K qn fI) (Y : ExY K C ["word"]) : Ini K C fI ["word"] := by
  intro prog w A R s x t0 args us X hlim hx hnx hroom hl ha hq
  obtain ⟨oc, od, kV, doc, pm, an, cdv, ct, osl, p0, p1, q00, q01, q02, q03, ho, hcd⟩ := T.fn
  match us, hl with
  | [v0], _ =>
  have hb : ∀ s' : Shared, BindsTo s' (fnOf "__init__" qn (iA_word p0 p1) (iB_word q00 q01 q02 q03) iS_word .none kV doc pm an cdv ct) args [("self", .ref x), ("word", v0)] := by
    intro s'
    rcases ha with rfl | rfl
    · exact BindsTo.of_eq (by first | rfl | with_unfolding_all rfl)
    · exact BindsTo.of_eq (by first | rfl | with_unfolding_all rfl)
  refine Att.call_fn (binds := [("self", .ref x), ("word", v0)]) X hlim ho hcd hroom (hb _) (by first | rfl | decide | with_unfolding_all rfl) (fun s₁ IC => ?_) rfl rfl rfl
  obtain ⟨h₁, tk₁, rfl⟩ := IC.toInCall.same
  have k : ∀ b o, s.heap.get? b = some o → h₁.get? b = some o := IC.toInCall.keep
  obtain ⟨cd, hcl, hm, hh⟩ := Y.cls
  have hn0 := IC.toInCall.ns
  have hxL : s.heap.objs.size ≠ x := Nat.ne_of_gt (Heap.lt_size hx)
  have X₁ : K.In h₁ := X.keeps k
  have hx₁ := k _ _ hx
  have z1 : s.heap.objs.size < h₁.objs.size := hn0.lt
  show wpAny _ _ (execs _ _) _ _ _
  refine wpAny_execs_cons (plainObj_wpAny_Assign_Attribute ?_)
  refine ldC (v := v0) hn0 (by first | rfl | with_unfolding_all rfl | kernel_rfl) (ldC (v := .ref x) hn0 (by first | rfl | with_unfolding_all rfl | kernel_rfl) ?_)
  refine set_plain X₁ (ox := excO C t0) (od := none) ⟨hx₁, rfl, rfl, trivial⟩ Y.sa ?_
  refine exc_osa X₁ hx₁ hcl hm hh (Y.noF _ (by simp)) (fun h₂ tk₂ dx k₂ dn dne hx₂ hn₂ => ?_)
  show wpAny _ _ (execs _ _) _ _ _
  refine wpAny_execs_nil (hq h₂ tk₂ ⟨fun b o hb e => ?_, some dx, hx₂, fun z => (by cases z), fun _ => ⟨dx, rfl, Nat.le_of_lt (Nat.lt_of_lt_of_le z1 dn), dne, ?_⟩⟩)
  · exact k₂ b o hb (k b o e)
  · refine ns1_eq hn₂ fun y => ?_
    exact lk1  y
def iA_link (p0 p1 : Pos) : Arguments := { posonlyargs := [], args := [{ arg := "self", annotation := none, pos := p0 }, { arg := "link", annotation := none, pos := p1 }], vararg := none, kwonlyargs := [], kw_defaults := [], kwarg := none, defaults := [] }
def iB_link (q00 q01 q02 q03 : Pos) : List Stmt := [.Assign [.Attribute (.Name "self" q00) "link" q01] (.Name "link" q02) q03]
def iS_link : Scope := { kind := .function, names := [(PySem.Str.ofString "self", .local), (PySem.Str.ofString "link", .local)], isGenerator := false, isCoroutine := false, more := [] }
structure Fn_link (K : Frag) (qn : Str) (fI : Addr) : Prop where
  fn : ∃ (oc : Value) (od : Option Addr) (kV doc pm : Value) (an : Option Addr) (cdv ct : Value) (osl : Array (Option Value)) (p0 p1 q00 q01 q02 q03 : Pos),
    K.lookup fI = some ⟨oc, od, .func (fnOf "__init__" qn (iA_link p0 p1) (iB_link q00 q01 q02 q03) iS_link .none kV doc pm an cdv ct), osl⟩ ∧ codeIn K cdv qn = true
theorem ini_link {K : Frag} {qn : Str} {C fI : Addr} (T : Fn_link K qn fI) (Y : ExY K C ["link"]) : Ini K C fI ["link"] := by
  intro prog w A R s x t0 args us X hlim hx hnx hroom hl ha hq
  obtain ⟨oc, od, kV, doc, pm, an, cdv, ct, osl, p0, p1, q00, q01, q02, q03, ho, hcd⟩ := T.fn
  match us, hl with
  | [v0], _ =>
  have hb : ∀ s' : Shared, BindsTo s' (fnOf "__init__" qn (iA_link p0 p1) (iB_link q00 q01 q02 q03) iS_link .none kV doc pm an cdv ct) args [("self", .ref x), ("link", v0)] := by
    intro s'
    rcases ha with rfl | rfl
    · exact BindsTo.of_eq (by first | rfl | with_unfolding_all rfl)
    · exact BindsTo.of_eq (by first | rfl | with_unfolding_all rfl)
  refine Att.call_fn (binds := [("self", .ref x), ("link", v0)]) X hlim ho hcd hroom (hb _) (by first | rfl | decide | with_unfolding_all rfl) (fun s₁ IC => ?_) rfl rfl rfl
  obtain ⟨h₁, tk₁, rfl⟩ := IC.toInCall.same
  have k : ∀ b o, s.heap.get? b = some o → h₁.get? b = some o := IC.toInCall.keep
  obtain ⟨cd, hcl, hm, hh⟩ := Y.cls
  have hn0 := IC.toInCall.ns
  have hxL : s.heap.objs.size ≠ x := Nat.ne_of_gt (Heap.lt_size hx)
  have X₁ : K.In h₁ := X.keeps k
  have hx₁ := k _ _ hx
  have z1 : s.heap.objs.size < h₁.objs.size := hn0.lt
  show wpAny _ _ (execs _ _) _ _ _
  refine wpAny_execs_cons (plainObj_wpAny_Assign_Attribute ?_)
  refine ldC (v := v0) hn0 (by first | rfl | with_unfolding_all rfl | kernel_rfl) (ldC (v := .ref x) hn0 (by first | rfl | with_unfolding_all rfl | kernel_rfl) ?_)
  refine set_plain X₁ (ox := excO C t0) (od := none) ⟨hx₁, rfl, rfl, trivial⟩ Y.sa ?_
  refine exc_osa X₁ hx₁ hcl hm hh (Y.noF _ (by simp)) (fun h₂ tk₂ dx k₂ dn dne hx₂ hn₂ => ?_)
  show wpAny _ _ (execs _ _) _ _ _
  refine wpAny_execs_nil (hq h₂ tk₂ ⟨fun b o hb e => ?_, some dx, hx₂, fun z => (by cases z), fun _ => ⟨dx, rfl, Nat.le_of_lt (Nat.lt_of_lt_of_le z1 dn), dne, ?_⟩⟩)
  · exact k₂ b o hb (k b o e)
  · refine ns1_eq hn₂ fun y => ?_
    exact lk1  y
def iA_name (p0 p1 : Pos) : Arguments := { posonlyargs := [], args := [{ arg := "self", annotation := none, pos := p0 }, { arg := "name", annotation := none, pos := p1 }], vararg := none, kwonlyargs := [], kw_defaults := [], kwarg := none, defaults := [] }
def iB_name (q00 q01 q02 q03 : Pos) : List Stmt := [.Assign [.Attribute (.Name "self" q00) "name" q01] (.Name "name" q02) q03]
def iS_name : Scope := { kind := .function, names := [(PySem.Str.ofString "self", .local), (PySem.Str.ofString "name", .local)], isGenerator := false, isCoroutine := false, more := [] }
structure Fn_name (K : Frag) (qn : Str) (fI : Addr) : Prop where
  fn : ∃ (oc : Value) (od : Option Addr) (kV doc pm : Value) (an : Option Addr) (cdv ct : Value) (osl : Array (Option Value)) (p0 p1 q00 q01 q02 q03 : Pos),
    K.lookup fI = some ⟨oc, od, .func (fnOf "__init__" qn (iA_name p0 p1) (iB_name q00 q01 q02 q03) iS_name .none kV doc pm an cdv ct), osl⟩ ∧ codeIn K cdv qn = true
theorem ini_name {K : Frag} {qn : Str} {C fI : Addr} (T : Fn_name K qn fI) (Y : ExY K C ["name"]) : Ini K C fI ["name"] := by
  intro prog w A R s x t0 args us X hlim hx hnx hroom hl ha hq
  obtain ⟨oc, od, kV, doc, pm, an, cdv, ct, osl, p0, p1, q00, q01, q02, q03, ho, hcd⟩ := T.fn
  match us, hl with
  | [v0], _ =>
  have hb : ∀ s' : Shared, BindsTo s' (fnOf "__init__" qn (iA_name p0 p1) (iB_name q00 q01 q02 q03) iS_name .none kV doc pm an cdv ct) args [("self", .ref x), ("name", v0)] := by
    intro s'
    rcases ha with rfl | rfl
    · exact BindsTo.of_eq (by first | rfl | with_unfolding_all rfl)
    · exact BindsTo.of_eq (by first | rfl | with_unfolding_all rfl)
  refine Att.call_fn (binds := [("self", .ref x), ("name", v0)]) X hlim ho hcd hroom (hb _) (by first | rfl | decide | with_unfolding_all rfl) (fun s₁ IC => ?_) rfl rfl rfl
  obtain ⟨h₁, tk₁, rfl⟩ := IC.toInCall.same
  have k : ∀ b o, s.heap.get? b = some o → h₁.get? b = some o := IC.toInCall.keep
  obtain ⟨cd, hcl, hm, hh⟩ := Y.cls
  have hn0 := IC.toInCall.ns
  have hxL : s.heap.objs.size ≠ x := Nat.ne_of_gt (Heap.lt_size hx)
  have X₁ : K.In h₁ := X.keeps k
  have hx₁ := k _ _ hx
  have z1 : s.heap.objs.size < h₁.objs.size := hn0.lt
  show wpAny _ _ (execs _ _) _ _ _
  refine wpAny_execs_cons (plainObj_wpAny_Assign_Attribute ?_)
  refine ldC (v := v0) hn0 (by first | rfl | with_unfolding_all rfl | kernel_rfl) (ldC (v := .ref x) hn0 (by first | rfl | with_unfolding_all rfl | kernel_rfl) ?_)
  refine set_plain X₁ (ox := excO C t0) (od := none) ⟨hx₁, rfl, rfl, trivial⟩ Y.sa ?_
  refine exc_osa X₁ hx₁ hcl hm hh (Y.noF _ (by simp)) (fun h₂ tk₂ dx k₂ dn dne hx₂ hn₂ => ?_)
  show wpAny _ _ (execs _ _) _ _ _
  refine wpAny_execs_nil (hq h₂ tk₂ ⟨fun b o hb e => ?_, some dx, hx₂, fun z => (by cases z), fun _ => ⟨dx, rfl, Nat.le_of_lt (Nat.lt_of_lt_of_le z1 dn), dne, ?_⟩⟩)
  · exact k₂ b o hb (k b o e)
  · refine ns1_eq hn₂ fun y => ?_
    exact lk1  y
def iA_number (p0 p1 : Pos) : Arguments := { posonlyargs := [], args := [{ arg := "self", annotation := none, pos := p0 }, { arg := "number", annotation := none, pos := p1 }], vararg := none, kwonlyargs := [], kw_defaults := [], kwarg := none, defaults := [] }
def iB_number (q00 q01 q02 q03 : Pos) : List Stmt := [.Assign [.Attribute (.Name "self" q00) "number" q01] (.Name "number" q02) q03]
def iS_number : Scope := { kind := .function, names := [(PySem.Str.ofString "self", .local), (PySem.Str.ofString "number", .local)], isGenerator := false, isCoroutine := false, more := [] }
structure Fn_number (K : Frag) (qn : Str) (fI : Addr) : Prop where
  fn : ∃ (oc : Value) (od : Option Addr) (kV doc pm : Value) (an : Option Addr) (cdv ct : Value) (osl : Array (Option Value)) (p0 p1 q00 q01 q02 q03 : Pos),
    K.lookup fI = some ⟨oc, od, .func (fnOf "__init__" qn (iA_number p0 p1) (iB_number q00 q01 q02 q03) iS_number .none kV doc pm an cdv ct), osl⟩ ∧ codeIn K cdv qn = true
theorem ini_number {K : Frag} {qn : Str} {C fI : Addr} (T : Fn_number K qn fI) (Y : ExY K C ["number"]) : Ini K C fI ["number"] := by
  intro prog w A R s x t0 args us X hlim hx hnx hroom hl ha hq
  obtain ⟨oc, od, kV, doc, pm, an, cdv, ct, osl, p0, p1, q00, q01, q02, q03, ho, hcd⟩ := T.fn
  match us, hl with
  | [v0], _ =>
  have hb : ∀ s' : Shared, BindsTo s' (fnOf "__init__" qn (iA_number p0 p1) (iB_number q00 q01 q02 q03) iS_number .none kV doc pm an cdv ct) args [("self", .ref x), ("number", v0)] := by
    intro s'
    rcases ha with rfl | rfl
    · exact BindsTo.of_eq (by first | rfl | with_unfolding_all rfl)
    · exact BindsTo.of_eq (by first | rfl | with_unfolding_all rfl)
  refine Att.call_fn (binds := [("self", .ref x), ("number", v0)]) X hlim ho hcd hroom (hb _) (by first | rfl | decide | with_unfolding_all rfl) (fun s₁ IC => ?_) rfl rfl rfl
  obtain ⟨h₁, tk₁, rfl⟩ := IC.toInCall.same
  have k : ∀ b o, s.heap.get? b = some o → h₁.get? b = some o := IC.toInCall.keep
  obtain ⟨cd, hcl, hm, hh⟩ := Y.cls
  have hn0 := IC.toInCall.ns
  have hxL : s.heap.objs.size ≠ x := Nat.ne_of_gt (Heap.lt_size hx)
  have X₁ : K.In h₁ := X.keeps k
  have hx₁ := k _ _ hx
  have z1 : s.heap.objs.size < h₁.objs.size := hn0.lt
  show wpAny _ _ (execs _ _) _ _ _
  refine wpAny_execs_cons (plainObj_wpAny_Assign_Attribute ?_)
  refine ldC (v := v0) hn0 (by first | rfl | with_unfolding_all rfl | kernel_rfl) (ldC (v := .ref x) hn0 (by first | rfl | with_unfolding_all rfl | kernel_rfl) ?_)
  refine set_plain X₁ (ox := excO C t0) (od := none) ⟨hx₁, rfl, rfl, trivial⟩ Y.sa ?_
  refine exc_osa X₁ hx₁ hcl hm hh (Y.noF _ (by simp)) (fun h₂ tk₂ dx k₂ dn dne hx₂ hn₂ => ?_)
  show wpAny _ _ (execs _ _) _ _ _
  refine wpAny_execs_nil (hq h₂ tk₂ ⟨fun b o hb e => ?_, some dx, hx₂, fun z => (by cases z), fun _ => ⟨dx, rfl, Nat.le_of_lt (Nat.lt_of_lt_of_le z1 dn), dne, ?_⟩⟩)
  · exact k₂ b o hb (k b o e)
  · refine ns1_eq hn₂ fun y => ?_
    exact lk1  y
def iA_depth (p0 p1 : Pos) : Arguments := { posonlyargs := [], args := [{ arg := "self", annotation := none, pos := p0 }, { arg := "depth", annotation := none, pos := p1 }], vararg := none, kwonlyargs := [], kw_defaults := [], kwarg := none, defaults := [] }
def iB_depth (q00 q01 q02 q03 : Pos) : List Stmt := [.Assign [.Attribute (.Name "self" q00) "depth" q01] (.Name "depth" q02) q03]
def iS_depth : Scope := { kind := .function, names := [(PySem.Str.ofString "self", .local), (PySem.Str.ofString "depth", .local)], isGenerator := false, isCoroutine := false, more := [] }
structure Fn_depth (K : Frag) (qn : Str) (fI : Addr) : Prop where
  fn : ∃ (oc : Value) (od : Option Addr) (kV doc pm : Value) (an : Option Addr) (cdv ct : Value) (osl : Array (Option Value)) (p0 p1 q00 q01 q02 q03 : Pos),
    K.lookup fI = some ⟨oc, od, .func (fnOf "__init__" qn (iA_depth p0 p1) (iB_depth q00 q01 q02 q03) iS_depth .none kV doc pm an cdv ct), osl⟩ ∧ codeIn K cdv qn = true
theorem ini_depth {K : Frag} {qn : Str} {C fI : Addr} (T : Fn_depth K qn fI) (Y : ExY K C ["depth"]) : Ini K C fI ["depth"] := by
  intro prog w A R s x t0 args us X hlim hx hnx hroom hl ha hq
  obtain ⟨oc, od, kV, doc, pm, an, cdv, ct, osl, p0, p1, q00, q01, q02, q03, ho, hcd⟩ := T.fn
  match us, hl with
  | [v0], _ =>
  have hb : ∀ s' : Shared, BindsTo s' (fnOf "__init__" qn (iA_depth p0 p1) (iB_depth q00 q01 q02 q03) iS_depth .none kV doc pm an cdv ct) args [("self", .ref x), ("depth", v0)] := by
    intro s'
    rcases ha with rfl | rfl
    · exact BindsTo.of_eq (by first | rfl | with_unfolding_all rfl)
    · exact BindsTo.of_eq (by first | rfl | with_unfolding_all rfl)
  refine Att.call_fn (binds := [("self", .ref x), ("depth", v0)]) X hlim ho hcd hroom (hb _) (by first | rfl | decide | with_unfolding_all rfl) (fun s₁ IC => ?_) rfl rfl rfl
  obtain ⟨h₁, tk₁, rfl⟩ := IC.toInCall.same
  have k : ∀ b o, s.heap.get? b = some o → h₁.get? b = some o := IC.toInCall.keep
  obtain ⟨cd, hcl, hm, hh⟩ := Y.cls
  have hn0 := IC.toInCall.ns
  have hxL : s.heap.objs.size ≠ x := Nat.ne_of_gt (Heap.lt_size hx)
  have X₁ : K.In h₁ := X.keeps k
  have hx₁ := k _ _ hx
  have z1 : s.heap.objs.size < h₁.objs.size := hn0.lt
  show wpAny _ _ (execs _ _) _ _ _
  refine wpAny_execs_cons (plainObj_wpAny_Assign_Attribute ?_)
  refine ldC (v := v0) hn0 (by first | rfl | with_unfolding_all rfl | kernel_rfl) (ldC (v := .ref x) hn0 (by first | rfl | with_unfolding_all rfl | kernel_rfl) ?_)
  refine set_plain X₁ (ox := excO C t0) (od := none) ⟨hx₁, rfl, rfl, trivial⟩ Y.sa ?_
  refine exc_osa X₁ hx₁ hcl hm hh (Y.noF _ (by simp)) (fun h₂ tk₂ dx k₂ dn dne hx₂ hn₂ => ?_)
  show wpAny _ _ (execs _ _) _ _ _
  refine wpAny_execs_nil (hq h₂ tk₂ ⟨fun b o hb e => ?_, some dx, hx₂, fun z => (by cases z), fun _ => ⟨dx, rfl, Nat.le_of_lt (Nat.lt_of_lt_of_le z1 dn), dne, ?_⟩⟩)
  · exact k₂ b o hb (k b o e)
  · refine ns1_eq hn₂ fun y => ?_
    exact lk1  y
def iA_row_column (p0 p1 p2 : Pos) : Arguments := { posonlyargs := [], args := [{ arg := "self", annotation := none, pos := p0 }, { arg := "row", annotation := none, pos := p1 }, { arg := "column", annotation := none, pos := p2 }], vararg := none, kwonlyargs := [], kw_defaults := [], kwarg := none, defaults := [] }
def iB_row_column (q00 q01 q02 q03 q10 q11 q12 q13 : Pos) : List Stmt := [.Assign [.Attribute (.Name "self" q00) "row" q01] (.Name "row" q02) q03, .Assign [.Attribute (.Name "self" q10) "column" q11] (.Name "column" q12) q13]
def iS_row_column : Scope := { kind := .function, names := [(PySem.Str.ofString "self", .local), (PySem.Str.ofString "row", .local), (PySem.Str.ofString "column", .local)], isGenerator := false, isCoroutine := false, more := [] }
structure Fn_row_column (K : Frag) (qn : Str) (fI : Addr) : Prop where
  fn : ∃ (oc : Value) (od : Option Addr) (kV doc pm : Value) (an : Option Addr) (cdv ct : Value) (osl : Array (Option Value)) (p0 p1 p2 q00 q01 q02 q03 q10 q11 q12 q13 : Pos),
    K.lookup fI = some ⟨oc, od, .func (fnOf "__init__" qn (iA_row_column p0 p1 p2) (iB_row_column q00 q01 q02 q03 q10 q11 q12 q13) iS_row_column .none kV doc pm an cdv ct), osl⟩ ∧ codeIn K cdv qn = true
theorem ini_row_column {K : Frag} {qn : Str} {C fI : Addr} (T : Fn_row_column K qn fI) (Y : ExY K C ["row", "column"]) : Ini K C fI ["row", "column"] := by
  intro prog w A R s x t0 args us X hlim hx hnx hroom hl ha hq
  obtain ⟨oc, od, kV, doc, pm, an, cdv, ct, osl, p0, p1, p2, q00, q01, q02, q03, q10, q11, q12, q13, ho, hcd⟩ := T.fn
  match us, hl with
  | [v0, v1], _ =>
  have hb : ∀ s' : Shared, BindsTo s' (fnOf "__init__" qn (iA_row_column p0 p1 p2) (iB_row_column q00 q01 q02 q03 q10 q11 q12 q13) iS_row_column .none kV doc pm an cdv ct) args [("self", .ref x), ("row", v0), ("column", v1)] := by
    intro s'
    rcases ha with rfl | rfl
    · exact BindsTo.of_eq (by first | rfl | with_unfolding_all rfl)
    · exact BindsTo.of_eq (by first | rfl | with_unfolding_all rfl)
  refine Att.call_fn (binds := [("self", .ref x), ("row", v0), ("column", v1)]) X hlim ho hcd hroom (hb _) (by first | rfl | decide | with_unfolding_all rfl) (fun s₁ IC => ?_) rfl rfl rfl
  obtain ⟨h₁, tk₁, rfl⟩ := IC.toInCall.same
  have k : ∀ b o, s.heap.get? b = some o → h₁.get? b = some o := IC.toInCall.keep
  obtain ⟨cd, hcl, hm, hh⟩ := Y.cls
  have hn0 := IC.toInCall.ns
  have hxL : s.heap.objs.size ≠ x := Nat.ne_of_gt (Heap.lt_size hx)
  have X₁ : K.In h₁ := X.keeps k
  have hx₁ := k _ _ hx
  have z1 : s.heap.objs.size < h₁.objs.size := hn0.lt
  show wpAny _ _ (execs _ _) _ _ _
  refine wpAny_execs_cons (plainObj_wpAny_Assign_Attribute ?_)
  refine ldC (v := v0) hn0 (by first | rfl | with_unfolding_all rfl | kernel_rfl) (ldC (v := .ref x) hn0 (by first | rfl | with_unfolding_all rfl | kernel_rfl) ?_)
  refine set_plain X₁ (ox := excO C t0) (od := none) ⟨hx₁, rfl, rfl, trivial⟩ Y.sa ?_
  refine exc_osa X₁ hx₁ hcl hm hh (Y.noF _ (by simp)) (fun h₂ tk₂ dx k₂ dn dne hx₂ hn₂ => ?_)
  have X₂ : K.In h₂ := kept_but X₁ hnx k₂
  have hn1 := ns_keep (x := x) hn0 hxL k₂
  have dL : s.heap.objs.size ≠ dx := Nat.ne_of_lt (Nat.lt_of_lt_of_le z1 dn)
  show wpAny _ _ (execs _ _) _ _ _
  refine wpAny_execs_cons (plainObj_wpAny_Assign_Attribute ?_)
  refine ldC (v := v1) hn1 (by first | rfl | with_unfolding_all rfl | kernel_rfl) (ldC (v := .ref x) hn1 (by first | rfl | with_unfolding_all rfl | kernel_rfl) ?_)
  obtain ⟨oD1, hoD1, _⟩ := L2.lookIn_ns hn₂
  refine set_plain X₂ (ox := { cls := .ref C, dict := some dx, data := .fields #[.ref t0, .none, .none, .none, .bool false, .none] }) (od := some oD1) ⟨hx₂, rfl, rfl, hoD1⟩ Y.sa ?_
  refine osa_two X₂ hx₂ hn₂ (nl := ["row"]) ?_ (by decide) hcl hm hh (Y.noF _ (by simp)) (fun h₃ tk₃ k₃ hn₃ => ?_)
  · intro y hy
    refine Classical.byContradiction fun hc => hy ?_
    simp only [List.mem_cons, List.not_mem_nil, or_false, not_or] at hc
    simp [hc]
  have hx₃ := k₃ _ _ (Ne.symm dne) hx₂
  show wpAny _ _ (execs _ _) _ _ _
  refine wpAny_execs_nil (hq h₃ tk₃ ⟨fun b o hb e => ?_, some dx, hx₃, fun z => (by cases z), fun _ => ⟨dx, rfl, Nat.le_of_lt (Nat.lt_of_lt_of_le z1 dn), dne, ?_⟩⟩)
  · have hd : b ≠ dx := Nat.ne_of_lt (Nat.lt_of_lt_of_le (Nat.lt_trans (Heap.lt_size e) z1) dn)
    exact k₃ b o hd (k₂ b o hb (k b o e))
  · refine ns1_eq hn₃ fun y => ?_
    exact lk2 (by decide) y
def iA_part_number (p0 p1 p2 : Pos) : Arguments := { posonlyargs := [], args := [{ arg := "self", annotation := none, pos := p0 }, { arg := "part", annotation := none, pos := p1 }, { arg := "number", annotation := none, pos := p2 }], vararg := none, kwonlyargs := [], kw_defaults := [], kwarg := none, defaults := [] }
def iB_part_number (q00 q01 q02 q03 q10 q11 q12 q13 : Pos) : List Stmt := [.Assign [.Attribute (.Name "self" q00) "part" q01] (.Name "part" q02) q03, .Assign [.Attribute (.Name "self" q10) "number" q11] (.Name "number" q12) q13]
def iS_part_number : Scope := { kind := .function, names := [(PySem.Str.ofString "self", .local), (PySem.Str.ofString "part", .local), (PySem.Str.ofString "number", .local)], isGenerator := false, isCoroutine := false, more := [] }
structure Fn_part_number (K : Frag) (qn : Str) (fI : Addr) : Prop where
  fn : ∃ (oc : Value) (od : Option Addr) (kV doc pm : Value) (an : Option Addr) (cdv ct : Value) (osl : Array (Option Value)) (p0 p1 p2 q00 q01 q02 q03 q10 q11 q12 q13 : Pos),
    K.lookup fI = some ⟨oc, od, .func (fnOf "__init__" qn (iA_part_number p0 p1 p2) (iB_part_number q00 q01 q02 q03 q10 q11 q12 q13) iS_part_number .none kV doc pm an cdv ct), osl⟩ ∧ codeIn K cdv qn = true
theorem ini_part_number {K : Frag} {qn : Str} {C fI : Addr} (T : Fn_part_number K qn fI) (Y : ExY K C ["part", "number"]) : Ini K C fI ["part", "number"] := by
  intro prog w A R s x t0 args us X hlim hx hnx hroom hl ha hq
  obtain ⟨oc, od, kV, doc, pm, an, cdv, ct, osl, p0, p1, p2, q00, q01, q02, q03, q10, q11, q12, q13, ho, hcd⟩ := T.fn
  match us, hl with
  | [v0, v1], _ =>
  have hb : ∀ s' : Shared, BindsTo s' (fnOf "__init__" qn (iA_part_number p0 p1 p2) (iB_part_number q00 q01 q02 q03 q10 q11 q12 q13) iS_part_number .none kV doc pm an cdv ct) args [("self", .ref x), ("part", v0), ("number", v1)] := by
    intro s'
    rcases ha with rfl | rfl
    · exact BindsTo.of_eq (by first | rfl | with_unfolding_all rfl)
    · exact BindsTo.of_eq (by first | rfl | with_unfolding_all rfl)
  refine Att.call_fn (binds := [("self", .ref x), ("part", v0), ("number", v1)]) X hlim ho hcd hroom (hb _) (by first | rfl | decide | with_unfolding_all rfl) (fun s₁ IC => ?_) rfl rfl rfl
  obtain ⟨h₁, tk₁, rfl⟩ := IC.toInCall.same
  have k : ∀ b o, s.heap.get? b = some o → h₁.get? b = some o := IC.toInCall.keep
  obtain ⟨cd, hcl, hm, hh⟩ := Y.cls
  have hn0 := IC.toInCall.ns
  have hxL : s.heap.objs.size ≠ x := Nat.ne_of_gt (Heap.lt_size hx)
  have X₁ : K.In h₁ := X.keeps k
  have hx₁ := k _ _ hx
  have z1 : s.heap.objs.size < h₁.objs.size := hn0.lt
  show wpAny _ _ (execs _ _) _ _ _
  refine wpAny_execs_cons (plainObj_wpAny_Assign_Attribute ?_)
  refine ldC (v := v0) hn0 (by first | rfl | with_unfolding_all rfl | kernel_rfl) (ldC (v := .ref x) hn0 (by first | rfl | with_unfolding_all rfl | kernel_rfl) ?_)
  refine set_plain X₁ (ox := excO C t0) (od := none) ⟨hx₁, rfl, rfl, trivial⟩ Y.sa ?_
  refine exc_osa X₁ hx₁ hcl hm hh (Y.noF _ (by simp)) (fun h₂ tk₂ dx k₂ dn dne hx₂ hn₂ => ?_)
  have X₂ : K.In h₂ := kept_but X₁ hnx k₂
  have hn1 := ns_keep (x := x) hn0 hxL k₂
  have dL : s.heap.objs.size ≠ dx := Nat.ne_of_lt (Nat.lt_of_lt_of_le z1 dn)
  show wpAny _ _ (execs _ _) _ _ _
  refine wpAny_execs_cons (plainObj_wpAny_Assign_Attribute ?_)
  refine ldC (v := v1) hn1 (by first | rfl | with_unfolding_all rfl | kernel_rfl) (ldC (v := .ref x) hn1 (by first | rfl | with_unfolding_all rfl | kernel_rfl) ?_)
  obtain ⟨oD1, hoD1, _⟩ := L2.lookIn_ns hn₂
  refine set_plain X₂ (ox := { cls := .ref C, dict := some dx, data := .fields #[.ref t0, .none, .none, .none, .bool false, .none] }) (od := some oD1) ⟨hx₂, rfl, rfl, hoD1⟩ Y.sa ?_
  refine osa_two X₂ hx₂ hn₂ (nl := ["part"]) ?_ (by decide) hcl hm hh (Y.noF _ (by simp)) (fun h₃ tk₃ k₃ hn₃ => ?_)
  · intro y hy
    refine Classical.byContradiction fun hc => hy ?_
    simp only [List.mem_cons, List.not_mem_nil, or_false, not_or] at hc
    simp [hc]
  have hx₃ := k₃ _ _ (Ne.symm dne) hx₂
  show wpAny _ _ (execs _ _) _ _ _
  refine wpAny_execs_nil (hq h₃ tk₃ ⟨fun b o hb e => ?_, some dx, hx₃, fun z => (by cases z), fun _ => ⟨dx, rfl, Nat.le_of_lt (Nat.lt_of_lt_of_le z1 dn), dne, ?_⟩⟩)
  · have hd : b ≠ dx := Nat.ne_of_lt (Nat.lt_of_lt_of_le (Nat.lt_trans (Heap.lt_size e) z1) dn)
    exact k₃ b o hd (k₂ b o hb (k b o e))
  · refine ns1_eq hn₃ fun y => ?_
    exact lk2 (by decide) y
def iA_place (p0 p1 : Pos) : Arguments := { posonlyargs := [], args := [{ arg := "self", annotation := none, pos := p0 }, { arg := "place", annotation := none, pos := p1 }], vararg := none, kwonlyargs := [], kw_defaults := [], kwarg := none, defaults := [] }
def iB_place (q00 q01 q02 q03 : Pos) : List Stmt := [.Assign [.Attribute (.Name "self" q00) "place" q01] (.Name "place" q02) q03]
def iS_place : Scope := { kind := .function, names := [(PySem.Str.ofString "self", .local), (PySem.Str.ofString "place", .local)], isGenerator := false, isCoroutine := false, more := [] }
structure Fn_place (K : Frag) (qn : Str) (fI : Addr) : Prop where
  fn : ∃ (oc : Value) (od : Option Addr) (kV doc pm : Value) (an : Option Addr) (cdv ct : Value) (osl : Array (Option Value)) (p0 p1 q00 q01 q02 q03 : Pos),
    K.lookup fI = some ⟨oc, od, .func (fnOf "__init__" qn (iA_place p0 p1) (iB_place q00 q01 q02 q03) iS_place .none kV doc pm an cdv ct), osl⟩ ∧ codeIn K cdv qn = true
theorem ini_place {K : Frag} {qn : Str} {C fI : Addr} (T : Fn_place K qn fI) (Y : ExY K C ["place"]) : Ini K C fI ["place"] := by
  intro prog w A R s x t0 args us X hlim hx hnx hroom hl ha hq
  obtain ⟨oc, od, kV, doc, pm, an, cdv, ct, osl, p0, p1, q00, q01, q02, q03, ho, hcd⟩ := T.fn
  match us, hl with
  | [v0], _ =>
  have hb : ∀ s' : Shared, BindsTo s' (fnOf "__init__" qn (iA_place p0 p1) (iB_place q00 q01 q02 q03) iS_place .none kV doc pm an cdv ct) args [("self", .ref x), ("place", v0)] := by
    intro s'
    rcases ha with rfl | rfl
    · exact BindsTo.of_eq (by first | rfl | with_unfolding_all rfl)
    · exact BindsTo.of_eq (by first | rfl | with_unfolding_all rfl)
  refine Att.call_fn (binds := [("self", .ref x), ("place", v0)]) X hlim ho hcd hroom (hb _) (by first | rfl | decide | with_unfolding_all rfl) (fun s₁ IC => ?_) rfl rfl rfl
  obtain ⟨h₁, tk₁, rfl⟩ := IC.toInCall.same
  have k : ∀ b o, s.heap.get? b = some o → h₁.get? b = some o := IC.toInCall.keep
  obtain ⟨cd, hcl, hm, hh⟩ := Y.cls
  have hn0 := IC.toInCall.ns
  have hxL : s.heap.objs.size ≠ x := Nat.ne_of_gt (Heap.lt_size hx)
  have X₁ : K.In h₁ := X.keeps k
  have hx₁ := k _ _ hx
  have z1 : s.heap.objs.size < h₁.objs.size := hn0.lt
  show wpAny _ _ (execs _ _) _ _ _
  refine wpAny_execs_cons (plainObj_wpAny_Assign_Attribute ?_)
  refine ldC (v := v0) hn0 (by first | rfl | with_unfolding_all rfl | kernel_rfl) (ldC (v := .ref x) hn0 (by first | rfl | with_unfolding_all rfl | kernel_rfl) ?_)
  refine set_plain X₁ (ox := excO C t0) (od := none) ⟨hx₁, rfl, rfl, trivial⟩ Y.sa ?_
  refine exc_osa X₁ hx₁ hcl hm hh (Y.noF _ (by simp)) (fun h₂ tk₂ dx k₂ dn dne hx₂ hn₂ => ?_)
  show wpAny _ _ (execs _ _) _ _ _
  refine wpAny_execs_nil (hq h₂ tk₂ ⟨fun b o hb e => ?_, some dx, hx₂, fun z => (by cases z), fun _ => ⟨dx, rfl, Nat.le_of_lt (Nat.lt_of_lt_of_le z1 dn), dne, ?_⟩⟩)
  · exact k₂ b o hb (k b o e)
  · refine ns1_eq hn₂ fun y => ?_
    exact lk1  y
def iA_gap (p0 p1 : Pos) : Arguments := { posonlyargs := [], args := [{ arg := "self", annotation := none, pos := p0 }, { arg := "gap", annotation := none, pos := p1 }], vararg := none, kwonlyargs := [], kw_defaults := [], kwarg := none, defaults := [] }
def iB_gap (q00 q01 q02 q03 : Pos) : List Stmt := [.Assign [.Attribute (.Name "self" q00) "gap" q01] (.Name "gap" q02) q03]
def iS_gap : Scope := { kind := .function, names := [(PySem.Str.ofString "self", .local), (PySem.Str.ofString "gap", .local)], isGenerator := false, isCoroutine := false, more := [] }
structure Fn_gap (K : Frag) (qn : Str) (fI : Addr) : Prop where
  fn : ∃ (oc : Value) (od : Option Addr) (kV doc pm : Value) (an : Option Addr) (cdv ct : Value) (osl : Array (Option Value)) (p0 p1 q00 q01 q02 q03 : Pos),
    K.lookup fI = some ⟨oc, od, .func (fnOf "__init__" qn (iA_gap p0 p1) (iB_gap q00 q01 q02 q03) iS_gap .none kV doc pm an cdv ct), osl⟩ ∧ codeIn K cdv qn = true
theorem ini_gap {K : Frag} {qn : Str} {C fI : Addr} (T : Fn_gap K qn fI) (Y : ExY K C ["gap"]) : Ini K C fI ["gap"] := by
  intro prog w A R s x t0 args us X hlim hx hnx hroom hl ha hq
  obtain ⟨oc, od, kV, doc, pm, an, cdv, ct, osl, p0, p1, q00, q01, q02, q03, ho, hcd⟩ := T.fn
  match us, hl with
  | [v0], _ =>
  have hb : ∀ s' : Shared, BindsTo s' (fnOf "__init__" qn (iA_gap p0 p1) (iB_gap q00 q01 q02 q03) iS_gap .none kV doc pm an cdv ct) args [("self", .ref x), ("gap", v0)] := by
    intro s'
    rcases ha with rfl | rfl
    · exact BindsTo.of_eq (by first | rfl | with_unfolding_all rfl)
    · exact BindsTo.of_eq (by first | rfl | with_unfolding_all rfl)
  refine Att.call_fn (binds := [("self", .ref x), ("gap", v0)]) X hlim ho hcd hroom (hb _) (by first | rfl | decide | with_unfolding_all rfl) (fun s₁ IC => ?_) rfl rfl rfl
  obtain ⟨h₁, tk₁, rfl⟩ := IC.toInCall.same
  have k : ∀ b o, s.heap.get? b = some o → h₁.get? b = some o := IC.toInCall.keep
  obtain ⟨cd, hcl, hm, hh⟩ := Y.cls
  have hn0 := IC.toInCall.ns
  have hxL : s.heap.objs.size ≠ x := Nat.ne_of_gt (Heap.lt_size hx)
  have X₁ : K.In h₁ := X.keeps k
  have hx₁ := k _ _ hx
  have z1 : s.heap.objs.size < h₁.objs.size := hn0.lt
  show wpAny _ _ (execs _ _) _ _ _
  refine wpAny_execs_cons (plainObj_wpAny_Assign_Attribute ?_)
  refine ldC (v := v0) hn0 (by first | rfl | with_unfolding_all rfl | kernel_rfl) (ldC (v := .ref x) hn0 (by first | rfl | with_unfolding_all rfl | kernel_rfl) ?_)
  refine set_plain X₁ (ox := excO C t0) (od := none) ⟨hx₁, rfl, rfl, trivial⟩ Y.sa ?_
  refine exc_osa X₁ hx₁ hcl hm hh (Y.noF _ (by simp)) (fun h₂ tk₂ dx k₂ dn dne hx₂ hn₂ => ?_)
  show wpAny _ _ (execs _ _) _ _ _
  refine wpAny_execs_nil (hq h₂ tk₂ ⟨fun b o hb e => ?_, some dx, hx₂, fun z => (by cases z), fun _ => ⟨dx, rfl, Nat.le_of_lt (Nat.lt_of_lt_of_le z1 dn), dne, ?_⟩⟩)
  · exact k₂ b o hb (k b o e)
  · refine ns1_eq hn₂ fun y => ?_
    exact lk1  y
def iA_side_number (p0 p1 p2 : Pos) : Arguments := { posonlyargs := [], args := [{ arg := "self", annotation := none, pos := p0 }, { arg := "side", annotation := none, pos := p1 }, { arg := "number", annotation := none, pos := p2 }], vararg := none, kwonlyargs := [], kw_defaults := [], kwarg := none, defaults := [] }
def iB_side_number (q00 q01 q02 q03 q10 q11 q12 q13 : Pos) : List Stmt := [.Assign [.Attribute (.Name "self" q00) "side" q01] (.Name "side" q02) q03, .Assign [.Attribute (.Name "self" q10) "number" q11] (.Name "number" q12) q13]
def iS_side_number : Scope := { kind := .function, names := [(PySem.Str.ofString "self", .local), (PySem.Str.ofString "side", .local), (PySem.Str.ofString "number", .local)], isGenerator := false, isCoroutine := false, more := [] }
structure Fn_side_number (K : Frag) (qn : Str) (fI : Addr) : Prop where
  fn : ∃ (oc : Value) (od : Option Addr) (kV doc pm : Value) (an : Option Addr) (cdv ct : Value) (osl : Array (Option Value)) (p0 p1 p2 q00 q01 q02 q03 q10 q11 q12 q13 : Pos),
    K.lookup fI = some ⟨oc, od, .func (fnOf "__init__" qn (iA_side_number p0 p1 p2) (iB_side_number q00 q01 q02 q03 q10 q11 q12 q13) iS_side_number .none kV doc pm an cdv ct), osl⟩ ∧ codeIn K cdv qn = true
theorem ini_side_number {K : Frag} {qn : Str} {C fI : Addr} (T : Fn_side_number K qn fI) (Y : ExY K C ["side", "number"]) : Ini K C fI ["side", "number"] := by
  intro prog w A R s x t0 args us X hlim hx hnx hroom hl ha hq
  obtain ⟨oc, od, kV, doc, pm, an, cdv, ct, osl, p0, p1, p2, q00, q01, q02, q03, q10, q11, q12, q13, ho, hcd⟩ := T.fn
  match us, hl with
  | [v0, v1], _ =>
  have hb : ∀ s' : Shared, BindsTo s' (fnOf "__init__" qn (iA_side_number p0 p1 p2) (iB_side_number q00 q01 q02 q03 q10 q11 q12 q13) iS_side_number .none kV doc pm an cdv ct) args [("self", .ref x), ("side", v0), ("number", v1)] := by
    intro s'
    rcases ha with rfl | rfl
    · exact BindsTo.of_eq (by first | rfl | with_unfolding_all rfl)
    · exact BindsTo.of_eq (by first | rfl | with_unfolding_all rfl)
  refine Att.call_fn (binds := [("self", .ref x), ("side", v0), ("number", v1)]) X hlim ho hcd hroom (hb _) (by first | rfl | decide | with_unfolding_all rfl) (fun s₁ IC => ?_) rfl rfl rfl
  obtain ⟨h₁, tk₁, rfl⟩ := IC.toInCall.same
  have k : ∀ b o, s.heap.get? b = some o → h₁.get? b = some o := IC.toInCall.keep
  obtain ⟨cd, hcl, hm, hh⟩ := Y.cls
  have hn0 := IC.toInCall.ns
  have hxL : s.heap.objs.size ≠ x := Nat.ne_of_gt (Heap.lt_size hx)
  have X₁ : K.In h₁ := X.keeps k
  have hx₁ := k _ _ hx
  have z1 : s.heap.objs.size < h₁.objs.size := hn0.lt
  show wpAny _ _ (execs _ _) _ _ _
  refine wpAny_execs_cons (plainObj_wpAny_Assign_Attribute ?_)
  refine ldC (v := v0) hn0 (by first | rfl | with_unfolding_all rfl | kernel_rfl) (ldC (v := .ref x) hn0 (by first | rfl | with_unfolding_all rfl | kernel_rfl) ?_)
  refine set_plain X₁ (ox := excO C t0) (od := none) ⟨hx₁, rfl, rfl, trivial⟩ Y.sa ?_
  refine exc_osa X₁ hx₁ hcl hm hh (Y.noF _ (by simp)) (fun h₂ tk₂ dx k₂ dn dne hx₂ hn₂ => ?_)
  have X₂ : K.In h₂ := kept_but X₁ hnx k₂
  have hn1 := ns_keep (x := x) hn0 hxL k₂
  have dL : s.heap.objs.size ≠ dx := Nat.ne_of_lt (Nat.lt_of_lt_of_le z1 dn)
  show wpAny _ _ (execs _ _) _ _ _
  refine wpAny_execs_cons (plainObj_wpAny_Assign_Attribute ?_)
  refine ldC (v := v1) hn1 (by first | rfl | with_unfolding_all rfl | kernel_rfl) (ldC (v := .ref x) hn1 (by first | rfl | with_unfolding_all rfl | kernel_rfl) ?_)
  obtain ⟨oD1, hoD1, _⟩ := L2.lookIn_ns hn₂
  refine set_plain X₂ (ox := { cls := .ref C, dict := some dx, data := .fields #[.ref t0, .none, .none, .none, .bool false, .none] }) (od := some oD1) ⟨hx₂, rfl, rfl, hoD1⟩ Y.sa ?_
  refine osa_two X₂ hx₂ hn₂ (nl := ["side"]) ?_ (by decide) hcl hm hh (Y.noF _ (by simp)) (fun h₃ tk₃ k₃ hn₃ => ?_)
  · intro y hy
    refine Classical.byContradiction fun hc => hy ?_
    simp only [List.mem_cons, List.not_mem_nil, or_false, not_or] at hc
    simp [hc]
  have hx₃ := k₃ _ _ (Ne.symm dne) hx₂
  show wpAny _ _ (execs _ _) _ _ _
  refine wpAny_execs_nil (hq h₃ tk₃ ⟨fun b o hb e => ?_, some dx, hx₃, fun z => (by cases z), fun _ => ⟨dx, rfl, Nat.le_of_lt (Nat.lt_of_lt_of_le z1 dn), dne, ?_⟩⟩)
  · have hd : b ≠ dx := Nat.ne_of_lt (Nat.lt_of_lt_of_le (Nat.lt_trans (Heap.lt_size e) z1) dn)
    exact k₃ b o hd (k₂ b o hb (k b o e))
  · refine ns1_eq hn₃ fun y => ?_
    exact lk2 (by decide) y
def iA_first_second_place (p0 p1 p2 p3 : Pos) : Arguments := { posonlyargs := [], args := [{ arg := "self", annotation := none, pos := p0 }, { arg := "first", annotation := none, pos := p1 }, { arg := "second", annotation := none, pos := p2 }, { arg := "place", annotation := none, pos := p3 }], vararg := none, kwonlyargs := [], kw_defaults := [], kwarg := none, defaults := [] }
def iB_first_second_place (q00 q01 q02 q03 q10 q11 q12 q13 q20 q21 q22 q23 : Pos) : List Stmt := [.Assign [.Attribute (.Name "self" q00) "first" q01] (.Name "first" q02) q03, .Assign [.Attribute (.Name "self" q10) "second" q11] (.Name "second" q12) q13, .Assign [.Attribute (.Name "self" q20) "place" q21] (.Name "place" q22) q23]
def iS_first_second_place : Scope := { kind := .function, names := [(PySem.Str.ofString "self", .local), (PySem.Str.ofString "first", .local), (PySem.Str.ofString "second", .local), (PySem.Str.ofString "place", .local)], isGenerator := false, isCoroutine := false, more := [] }
structure Fn_first_second_place (K : Frag) (qn : Str) (fI : Addr) : Prop where
  fn : ∃ (oc : Value) (od : Option Addr) (kV doc pm : Value) (an : Option Addr) (cdv ct : Value) (osl : Array (Option Value)) (p0 p1 p2 p3 q00 q01 q02 q03 q10 q11 q12 q13 q20 q21 q22 q23 : Pos),
    K.lookup fI = some ⟨oc, od, .func (fnOf "__init__" qn (iA_first_second_place p0 p1 p2 p3) (iB_first_second_place q00 q01 q02 q03 q10 q11 q12 q13 q20 q21 q22 q23) iS_first_second_place .none kV doc pm an cdv ct), osl⟩ ∧ codeIn K cdv qn = true
theorem ini_first_second_place {K : Frag} {qn : Str} {C fI : Addr} (T : Fn_first_second_place K qn fI) (Y : ExY K C ["first", "second", "place"]) : Ini K C fI ["first", "second", "place"] := by
  intro prog w A R s x t0 args us X hlim hx hnx hroom hl ha hq
  obtain ⟨oc, od, kV, doc, pm, an, cdv, ct, osl, p0, p1, p2, p3, q00, q01, q02, q03, q10, q11, q12, q13, q20, q21, q22, q23, ho, hcd⟩ := T.fn
  match us, hl with
  | [v0, v1, v2], _ =>
  have hb : ∀ s' : Shared, BindsTo s' (fnOf "__init__" qn (iA_first_second_place p0 p1 p2 p3) (iB_first_second_place q00 q01 q02 q03 q10 q11 q12 q13 q20 q21 q22 q23) iS_first_second_place .none kV doc pm an cdv ct) args [("self", .ref x), ("first", v0), ("second", v1), ("place", v2)] := by
    intro s'
    rcases ha with rfl | rfl
    · exact BindsTo.of_eq (by first | rfl | with_unfolding_all rfl)
    · exact BindsTo.of_eq (by first | rfl | with_unfolding_all rfl)
  refine Att.call_fn (binds := [("self", .ref x), ("first", v0), ("second", v1), ("place", v2)]) X hlim ho hcd hroom (hb _) (by first | rfl | decide | with_unfolding_all rfl) (fun s₁ IC => ?_) rfl rfl rfl
  obtain ⟨h₁, tk₁, rfl⟩ := IC.toInCall.same
  have k : ∀ b o, s.heap.get? b = some o → h₁.get? b = some o := IC.toInCall.keep
  obtain ⟨cd, hcl, hm, hh⟩ := Y.cls
  have hn0 := IC.toInCall.ns
  have hxL : s.heap.objs.size ≠ x := Nat.ne_of_gt (Heap.lt_size hx)
  have X₁ : K.In h₁ := X.keeps k
  have hx₁ := k _ _ hx
  have z1 : s.heap.objs.size < h₁.objs.size := hn0.lt
  show wpAny _ _ (execs _ _) _ _ _
  refine wpAny_execs_cons (plainObj_wpAny_Assign_Attribute ?_)
  refine ldC (v := v0) hn0 (by first | rfl | with_unfolding_all rfl | kernel_rfl) (ldC (v := .ref x) hn0 (by first | rfl | with_unfolding_all rfl | kernel_rfl) ?_)
  refine set_plain X₁ (ox := excO C t0) (od := none) ⟨hx₁, rfl, rfl, trivial⟩ Y.sa ?_
  refine exc_osa X₁ hx₁ hcl hm hh (Y.noF _ (by simp)) (fun h₂ tk₂ dx k₂ dn dne hx₂ hn₂ => ?_)
  have X₂ : K.In h₂ := kept_but X₁ hnx k₂
  have hn1 := ns_keep (x := x) hn0 hxL k₂
  have dL : s.heap.objs.size ≠ dx := Nat.ne_of_lt (Nat.lt_of_lt_of_le z1 dn)
  have dxK : K.lookup dx = none := by
    cases e : K.lookup dx with
    | none => rfl
    | some o =>
      have z : h₁.get? dx = some o := X₁ _ _ e
      exact absurd (Nat.lt_of_lt_of_le (Heap.lt_size z) dn) (Nat.lt_irrefl _)
  show wpAny _ _ (execs _ _) _ _ _
  refine wpAny_execs_cons (plainObj_wpAny_Assign_Attribute ?_)
  refine ldC (v := v1) hn1 (by first | rfl | with_unfolding_all rfl | kernel_rfl) (ldC (v := .ref x) hn1 (by first | rfl | with_unfolding_all rfl | kernel_rfl) ?_)
  obtain ⟨oD1, hoD1, _⟩ := L2.lookIn_ns hn₂
  refine set_plain X₂ (ox := { cls := .ref C, dict := some dx, data := .fields #[.ref t0, .none, .none, .none, .bool false, .none] }) (od := some oD1) ⟨hx₂, rfl, rfl, hoD1⟩ Y.sa ?_
  refine osa_two X₂ hx₂ hn₂ (nl := ["first"]) ?_ (by decide) hcl hm hh (Y.noF _ (by simp)) (fun h₃ tk₃ k₃ hn₃ => ?_)
  · intro y hy
    refine Classical.byContradiction fun hc => hy ?_
    simp only [List.mem_cons, List.not_mem_nil, or_false, not_or] at hc
    simp [hc]
  have hx₃ := k₃ _ _ (Ne.symm dne) hx₂
  have X₃ : K.In h₃ := kept_but X₂ dxK k₃
  have hn2 := ns_keep (x := dx) hn1 dL k₃
  show wpAny _ _ (execs _ _) _ _ _
  refine wpAny_execs_cons (plainObj_wpAny_Assign_Attribute ?_)
  refine ldC (v := v2) hn2 (by first | rfl | with_unfolding_all rfl | kernel_rfl) (ldC (v := .ref x) hn2 (by first | rfl | with_unfolding_all rfl | kernel_rfl) ?_)
  obtain ⟨oD2, hoD2, _⟩ := L2.lookIn_ns hn₃
  refine set_plain X₃ (ox := { cls := .ref C, dict := some dx, data := .fields #[.ref t0, .none, .none, .none, .bool false, .none] }) (od := some oD2) ⟨hx₃, rfl, rfl, hoD2⟩ Y.sa ?_
  refine osa_two X₃ hx₃ hn₃ (nl := ["first", "second"]) ?_ (by decide) hcl hm hh (Y.noF _ (by simp)) (fun h₄ tk₄ k₄ hn₄ => ?_)
  · intro y hy
    refine Classical.byContradiction fun hc => hy ?_
    simp only [List.mem_cons, List.not_mem_nil, or_false, not_or] at hc
    simp [hc]
  have hx₄ := k₄ _ _ (Ne.symm dne) hx₃
  show wpAny _ _ (execs _ _) _ _ _
  refine wpAny_execs_nil (hq h₄ tk₄ ⟨fun b o hb e => ?_, some dx, hx₄, fun z => (by cases z), fun _ => ⟨dx, rfl, Nat.le_of_lt (Nat.lt_of_lt_of_le z1 dn), dne, ?_⟩⟩)
  · have hd : b ≠ dx := Nat.ne_of_lt (Nat.lt_of_lt_of_le (Nat.lt_trans (Heap.lt_size e) z1) dn)
    exact k₄ b o hd (k₃ b o hd (k₂ b o hb (k b o e)))
  · refine ns1_eq hn₄ fun y => ?_
    exact lk3 (by decide) (by decide) (by decide) y
def iA_key (p0 p1 : Pos) : Arguments := { posonlyargs := [], args := [{ arg := "self", annotation := none, pos := p0 }, { arg := "key", annotation := none, pos := p1 }], vararg := none, kwonlyargs := [], kw_defaults := [], kwarg := none, defaults := [] }
def iB_key (q00 q01 q02 q03 : Pos) : List Stmt := [.Assign [.Attribute (.Name "self" q00) "key" q01] (.Name "key" q02) q03]
def iS_key : Scope := { kind := .function, names := [(PySem.Str.ofString "self", .local), (PySem.Str.ofString "key", .local)], isGenerator := false, isCoroutine := false, more := [] }
structure Fn_key (K : Frag) (qn : Str) (fI : Addr) : Prop where
  fn : ∃ (oc : Value) (od : Option Addr) (kV doc pm : Value) (an : Option Addr) (cdv ct : Value) (osl : Array (Option Value)) (p0 p1 q00 q01 q02 q03 : Pos),
    K.lookup fI = some ⟨oc, od, .func (fnOf "__init__" qn (iA_key p0 p1) (iB_key q00 q01 q02 q03) iS_key .none kV doc pm an cdv ct), osl⟩ ∧ codeIn K cdv qn = true
theorem ini_key {K : Frag} {qn : Str} {C fI : Addr} (T : Fn_key K qn fI) (Y : ExY K C ["key"]) : Ini K C fI ["key"] := by
  intro prog w A R s x t0 args us X hlim hx hnx hroom hl ha hq
  obtain ⟨oc, od, kV, doc, pm, an, cdv, ct, osl, p0, p1, q00, q01, q02, q03, ho, hcd⟩ := T.fn
  match us, hl with
  | [v0], _ =>
  have hb : ∀ s' : Shared, BindsTo s' (fnOf "__init__" qn (iA_key p0 p1) (iB_key q00 q01 q02 q03) iS_key .none kV doc pm an cdv ct) args [("self", .ref x), ("key", v0)] := by
    intro s'
    rcases ha with rfl | rfl
    · exact BindsTo.of_eq (by first | rfl | with_unfolding_all rfl)
    · exact BindsTo.of_eq (by first | rfl | with_unfolding_all rfl)
  refine Att.call_fn (binds := [("self", .ref x), ("key", v0)]) X hlim ho hcd hroom (hb _) (by first | rfl | decide | with_unfolding_all rfl) (fun s₁ IC => ?_) rfl rfl rfl
  obtain ⟨h₁, tk₁, rfl⟩ := IC.toInCall.same
  have k : ∀ b o, s.heap.get? b = some o → h₁.get? b = some o := IC.toInCall.keep
  obtain ⟨cd, hcl, hm, hh⟩ := Y.cls
  have hn0 := IC.toInCall.ns
  have hxL : s.heap.objs.size ≠ x := Nat.ne_of_gt (Heap.lt_size hx)
  have X₁ : K.In h₁ := X.keeps k
  have hx₁ := k _ _ hx
  have z1 : s.heap.objs.size < h₁.objs.size := hn0.lt
  show wpAny _ _ (execs _ _) _ _ _
  refine wpAny_execs_cons (plainObj_wpAny_Assign_Attribute ?_)
  refine ldC (v := v0) hn0 (by first | rfl | with_unfolding_all rfl | kernel_rfl) (ldC (v := .ref x) hn0 (by first | rfl | with_unfolding_all rfl | kernel_rfl) ?_)
  refine set_plain X₁ (ox := excO C t0) (od := none) ⟨hx₁, rfl, rfl, trivial⟩ Y.sa ?_
  refine exc_osa X₁ hx₁ hcl hm hh (Y.noF _ (by simp)) (fun h₂ tk₂ dx k₂ dn dne hx₂ hn₂ => ?_)
  show wpAny _ _ (execs _ _) _ _ _
  refine wpAny_execs_nil (hq h₂ tk₂ ⟨fun b o hb e => ?_, some dx, hx₂, fun z => (by cases z), fun _ => ⟨dx, rfl, Nat.le_of_lt (Nat.lt_of_lt_of_le z1 dn), dne, ?_⟩⟩)
  · exact k₂ b o hb (k b o e)
  · refine ns1_eq hn₂ fun y => ?_
    exact lk1  y
def iA_none (p0 : Pos) : Arguments := { posonlyargs := [], args := [{ arg := "self", annotation := none, pos := p0 }], vararg := none, kwonlyargs := [], kw_defaults := [], kwarg := none, defaults := [] }
def iB_none (q00 : Pos) : List Stmt := [.Pass q00]
def iS_none : Scope := { kind := .function, names := [(PySem.Str.ofString "self", .local)], isGenerator := false, isCoroutine := false, more := [] }
structure Fn_none (K : Frag) (qn : Str) (fI : Addr) : Prop where
  fn : ∃ (oc : Value) (od : Option Addr) (kV doc pm : Value) (an : Option Addr) (cdv ct : Value) (osl : Array (Option Value)) (p0 q00 : Pos),
    K.lookup fI = some ⟨oc, od, .func (fnOf "__init__" qn (iA_none p0) (iB_none q00) iS_none .none kV doc pm an cdv ct), osl⟩ ∧ codeIn K cdv qn = true
theorem ini_none {K : Frag} {qn : Str} {C fI : Addr} (T : Fn_none K qn fI) (Y : ExY K C []) : Ini K C fI [] := by
  intro prog w A R s x t0 args us X hlim hx hnx hroom hl ha hq
  obtain ⟨oc, od, kV, doc, pm, an, cdv, ct, osl, p0, q00, ho, hcd⟩ := T.fn
  match us, hl with
  | [], _ =>
  have hb : ∀ s' : Shared, BindsTo s' (fnOf "__init__" qn (iA_none p0) (iB_none q00) iS_none .none kV doc pm an cdv ct) args [("self", .ref x)] := by
    intro s'
    rcases ha with rfl | rfl
    · exact BindsTo.of_eq (by first | rfl | with_unfolding_all rfl)
    · exact BindsTo.of_eq (by first | rfl | with_unfolding_all rfl)
  refine Att.call_fn (binds := [("self", .ref x)]) X hlim ho hcd hroom (hb _) (by first | rfl | decide | with_unfolding_all rfl) (fun s₁ IC => ?_) rfl rfl rfl
  obtain ⟨h₁, tk₁, rfl⟩ := IC.toInCall.same
  have k : ∀ b o, s.heap.get? b = some o → h₁.get? b = some o := IC.toInCall.keep
  show wpAny _ _ (execs _ _) _ _ _
  refine wpAny_execs_cons (wpAny_Pass ?_)
  exact wpAny_execs_nil (hq h₁ tk₁ ⟨fun b o hb e => k b o e, _, k _ _ hx, fun _ => rfl, fun z => absurd rfl z⟩)
def iA_part (p0 p1 : Pos) : Arguments := { posonlyargs := [], args := [{ arg := "self", annotation := none, pos := p0 }, { arg := "part", annotation := none, pos := p1 }], vararg := none, kwonlyargs := [], kw_defaults := [], kwarg := none, defaults := [] }
def iB_part (q00 q01 q02 q03 : Pos) : List Stmt := [.Assign [.Attribute (.Name "self" q00) "part" q01] (.Name "part" q02) q03]
def iS_part : Scope := { kind := .function, names := [(PySem.Str.ofString "self", .local), (PySem.Str.ofString "part", .local)], isGenerator := false, isCoroutine := false, more := [] }
structure Fn_part (K : Frag) (qn : Str) (fI : Addr) : Prop where
  fn : ∃ (oc : Value) (od : Option Addr) (kV doc pm : Value) (an : Option Addr) (cdv ct : Value) (osl : Array (Option Value)) (p0 p1 q00 q01 q02 q03 : Pos),
    K.lookup fI = some ⟨oc, od, .func (fnOf "__init__" qn (iA_part p0 p1) (iB_part q00 q01 q02 q03) iS_part .none kV doc pm an cdv ct), osl⟩ ∧ codeIn K cdv qn = true
theorem ini_part {K : Frag} {qn : Str} {C fI : Addr} (T : Fn_part K qn fI) (Y : ExY K C ["part"]) : Ini K C fI ["part"] := by
  intro prog w A R s x t0 args us X hlim hx hnx hroom hl ha hq
  obtain ⟨oc, od, kV, doc, pm, an, cdv, ct, osl, p0, p1, q00, q01, q02, q03, ho, hcd⟩ := T.fn
  match us, hl with
  | [v0], _ =>
  have hb : ∀ s' : Shared, BindsTo s' (fnOf "__init__" qn (iA_part p0 p1) (iB_part q00 q01 q02 q03) iS_part .none kV doc pm an cdv ct) args [("self", .ref x), ("part", v0)] := by
    intro s'
    rcases ha with rfl | rfl
    · exact BindsTo.of_eq (by first | rfl | with_unfolding_all rfl)
    · exact BindsTo.of_eq (by first | rfl | with_unfolding_all rfl)
  refine Att.call_fn (binds := [("self", .ref x), ("part", v0)]) X hlim ho hcd hroom (hb _) (by first | rfl | decide | with_unfolding_all rfl) (fun s₁ IC => ?_) rfl rfl rfl
  obtain ⟨h₁, tk₁, rfl⟩ := IC.toInCall.same
  have k : ∀ b o, s.heap.get? b = some o → h₁.get? b = some o := IC.toInCall.keep
  obtain ⟨cd, hcl, hm, hh⟩ := Y.cls
  have hn0 := IC.toInCall.ns
  have hxL : s.heap.objs.size ≠ x := Nat.ne_of_gt (Heap.lt_size hx)
  have X₁ : K.In h₁ := X.keeps k
  have hx₁ := k _ _ hx
  have z1 : s.heap.objs.size < h₁.objs.size := hn0.lt
  show wpAny _ _ (execs _ _) _ _ _
  refine wpAny_execs_cons (plainObj_wpAny_Assign_Attribute ?_)
  refine ldC (v := v0) hn0 (by first | rfl | with_unfolding_all rfl | kernel_rfl) (ldC (v := .ref x) hn0 (by first | rfl | with_unfolding_all rfl | kernel_rfl) ?_)
  refine set_plain X₁ (ox := excO C t0) (od := none) ⟨hx₁, rfl, rfl, trivial⟩ Y.sa ?_
  refine exc_osa X₁ hx₁ hcl hm hh (Y.noF _ (by simp)) (fun h₂ tk₂ dx k₂ dn dne hx₂ hn₂ => ?_)
  show wpAny _ _ (execs _ _) _ _ _
  refine wpAny_execs_nil (hq h₂ tk₂ ⟨fun b o hb e => ?_, some dx, hx₂, fun z => (by cases z), fun _ => ⟨dx, rfl, Nat.le_of_lt (Nat.lt_of_lt_of_le z1 dn), dne, ?_⟩⟩)
  · exact k₂ b o hb (k b o e)
  · refine ns1_eq hn₂ fun y => ?_
    exact lk1  y
def iA_word_path (p0 p1 p2 : Pos) : Arguments := { posonlyargs := [], args := [{ arg := "self", annotation := none, pos := p0 }, { arg := "word", annotation := none, pos := p1 }, { arg := "path", annotation := none, pos := p2 }], vararg := none, kwonlyargs := [], kw_defaults := [], kwarg := none, defaults := [] }
def iB_word_path (q00 q01 q02 q03 q10 q11 q12 q13 : Pos) : List Stmt := [.Assign [.Attribute (.Name "self" q00) "word" q01] (.Name "word" q02) q03, .Assign [.Attribute (.Name "self" q10) "path" q11] (.Name "path" q12) q13]
def iS_word_path : Scope := { kind := .function, names := [(PySem.Str.ofString "self", .local), (PySem.Str.ofString "word", .local), (PySem.Str.ofString "path", .local)], isGenerator := false, isCoroutine := false, more := [] }
structure Fn_word_path (K : Frag) (qn : Str) (fI : Addr) : Prop where
  fn : ∃ (oc : Value) (od : Option Addr) (kV doc pm : Value) (an : Option Addr) (cdv ct : Value) (osl : Array (Option Value)) (p0 p1 p2 q00 q01 q02 q03 q10 q11 q12 q13 : Pos),
    K.lookup fI = some ⟨oc, od, .func (fnOf "__init__" qn (iA_word_path p0 p1 p2) (iB_word_path q00 q01 q02 q03 q10 q11 q12 q13) iS_word_path .none kV doc pm an cdv ct), osl⟩ ∧ codeIn K cdv qn = true
theorem ini_word_path {K : Frag} {qn : Str} {C fI : Addr} (T : Fn_word_path K qn fI) (Y : ExY K C ["word", "path"]) : Ini K C fI ["word", "path"] := by
  intro prog w A R s x t0 args us X hlim hx hnx hroom hl ha hq
  obtain ⟨oc, od, kV, doc, pm, an, cdv, ct, osl, p0, p1, p2, q00, q01, q02, q03, q10, q11, q12, q13, ho, hcd⟩ := T.fn
  match us, hl with
  | [v0, v1], _ =>
  have hb : ∀ s' : Shared, BindsTo s' (fnOf "__init__" qn (iA_word_path p0 p1 p2) (iB_word_path q00 q01 q02 q03 q10 q11 q12 q13) iS_word_path .none kV doc pm an cdv ct) args [("self", .ref x), ("word", v0), ("path", v1)] := by
    intro s'
    rcases ha with rfl | rfl
    · exact BindsTo.of_eq (by first | rfl | with_unfolding_all rfl)
    · exact BindsTo.of_eq (by first | rfl | with_unfolding_all rfl)
  refine Att.call_fn (binds := [("self", .ref x), ("word", v0), ("path", v1)]) X hlim ho hcd hroom (hb _) (by first | rfl | decide | with_unfolding_all rfl) (fun s₁ IC => ?_) rfl rfl rfl
  obtain ⟨h₁, tk₁, rfl⟩ := IC.toInCall.same
  have k : ∀ b o, s.heap.get? b = some o → h₁.get? b = some o := IC.toInCall.keep
  obtain ⟨cd, hcl, hm, hh⟩ := Y.cls
  have hn0 := IC.toInCall.ns
  have hxL : s.heap.objs.size ≠ x := Nat.ne_of_gt (Heap.lt_size hx)
  have X₁ : K.In h₁ := X.keeps k
  have hx₁ := k _ _ hx
  have z1 : s.heap.objs.size < h₁.objs.size := hn0.lt
  show wpAny _ _ (execs _ _) _ _ _
  refine wpAny_execs_cons (plainObj_wpAny_Assign_Attribute ?_)
  refine ldC (v := v0) hn0 (by first | rfl | with_unfolding_all rfl | kernel_rfl) (ldC (v := .ref x) hn0 (by first | rfl | with_unfolding_all rfl | kernel_rfl) ?_)
  refine set_plain X₁ (ox := excO C t0) (od := none) ⟨hx₁, rfl, rfl, trivial⟩ Y.sa ?_
  refine exc_osa X₁ hx₁ hcl hm hh (Y.noF _ (by simp)) (fun h₂ tk₂ dx k₂ dn dne hx₂ hn₂ => ?_)
  have X₂ : K.In h₂ := kept_but X₁ hnx k₂
  have hn1 := ns_keep (x := x) hn0 hxL k₂
  have dL : s.heap.objs.size ≠ dx := Nat.ne_of_lt (Nat.lt_of_lt_of_le z1 dn)
  show wpAny _ _ (execs _ _) _ _ _
  refine wpAny_execs_cons (plainObj_wpAny_Assign_Attribute ?_)
  refine ldC (v := v1) hn1 (by first | rfl | with_unfolding_all rfl | kernel_rfl) (ldC (v := .ref x) hn1 (by first | rfl | with_unfolding_all rfl | kernel_rfl) ?_)
  obtain ⟨oD1, hoD1, _⟩ := L2.lookIn_ns hn₂
  refine set_plain X₂ (ox := { cls := .ref C, dict := some dx, data := .fields #[.ref t0, .none, .none, .none, .bool false, .none] }) (od := some oD1) ⟨hx₂, rfl, rfl, hoD1⟩ Y.sa ?_
  refine osa_two X₂ hx₂ hn₂ (nl := ["word"]) ?_ (by decide) hcl hm hh (Y.noF _ (by simp)) (fun h₃ tk₃ k₃ hn₃ => ?_)
  · intro y hy
    refine Classical.byContradiction fun hc => hy ?_
    simp only [List.mem_cons, List.not_mem_nil, or_false, not_or] at hc
    simp [hc]
  have hx₃ := k₃ _ _ (Ne.symm dne) hx₂
  show wpAny _ _ (execs _ _) _ _ _
  refine wpAny_execs_nil (hq h₃ tk₃ ⟨fun b o hb e => ?_, some dx, hx₃, fun z => (by cases z), fun _ => ⟨dx, rfl, Nat.le_of_lt (Nat.lt_of_lt_of_le z1 dn), dne, ?_⟩⟩)
  · have hd : b ≠ dx := Nat.ne_of_lt (Nat.lt_of_lt_of_le (Nat.lt_trans (Heap.lt_size e) z1) dn)
    exact k₃ b o hd (k₂ b o hb (k b o e))
  · refine ns1_eq hn₃ fun y => ?_
    exact lk2 (by decide) y
def iA_word_offset (p0 p1 p2 : Pos) : Arguments := { posonlyargs := [], args := [{ arg := "self", annotation := none, pos := p0 }, { arg := "word", annotation := none, pos := p1 }, { arg := "offset", annotation := none, pos := p2 }], vararg := none, kwonlyargs := [], kw_defaults := [], kwarg := none, defaults := [] }
def iB_word_offset (q00 q01 q02 q03 q10 q11 q12 q13 : Pos) : List Stmt := [.Assign [.Attribute (.Name "self" q00) "word" q01] (.Name "word" q02) q03, .Assign [.Attribute (.Name "self" q10) "offset" q11] (.Name "offset" q12) q13]
def iS_word_offset : Scope := { kind := .function, names := [(PySem.Str.ofString "self", .local), (PySem.Str.ofString "word", .local), (PySem.Str.ofString "offset", .local)], isGenerator := false, isCoroutine := false, more := [] }
structure Fn_word_offset (K : Frag) (qn : Str) (fI : Addr) : Prop where
  fn : ∃ (oc : Value) (od : Option Addr) (kV doc pm : Value) (an : Option Addr) (cdv ct : Value) (osl : Array (Option Value)) (p0 p1 p2 q00 q01 q02 q03 q10 q11 q12 q13 : Pos),
    K.lookup fI = some ⟨oc, od, .func (fnOf "__init__" qn (iA_word_offset p0 p1 p2) (iB_word_offset q00 q01 q02 q03 q10 q11 q12 q13) iS_word_offset .none kV doc pm an cdv ct), osl⟩ ∧ codeIn K cdv qn = true
theorem ini_word_offset {K : Frag} {qn : Str} {C fI : Addr} (T : Fn_word_offset K qn fI) (Y : ExY K C ["word", "offset"]) : Ini K C fI ["word", "offset"] := by
  intro prog w A R s x t0 args us X hlim hx hnx hroom hl ha hq
  obtain ⟨oc, od, kV, doc, pm, an, cdv, ct, osl, p0, p1, p2, q00, q01, q02, q03, q10, q11, q12, q13, ho, hcd⟩ := T.fn
  match us, hl with
  | [v0, v1], _ =>
  have hb : ∀ s' : Shared, BindsTo s' (fnOf "__init__" qn (iA_word_offset p0 p1 p2) (iB_word_offset q00 q01 q02 q03 q10 q11 q12 q13) iS_word_offset .none kV doc pm an cdv ct) args [("self", .ref x), ("word", v0), ("offset", v1)] := by
    intro s'
    rcases ha with rfl | rfl
    · exact BindsTo.of_eq (by first | rfl | with_unfolding_all rfl)
    · exact BindsTo.of_eq (by first | rfl | with_unfolding_all rfl)
  refine Att.call_fn (binds := [("self", .ref x), ("word", v0), ("offset", v1)]) X hlim ho hcd hroom (hb _) (by first | rfl | decide | with_unfolding_all rfl) (fun s₁ IC => ?_) rfl rfl rfl
  obtain ⟨h₁, tk₁, rfl⟩ := IC.toInCall.same
  have k : ∀ b o, s.heap.get? b = some o → h₁.get? b = some o := IC.toInCall.keep
  obtain ⟨cd, hcl, hm, hh⟩ := Y.cls
  have hn0 := IC.toInCall.ns
  have hxL : s.heap.objs.size ≠ x := Nat.ne_of_gt (Heap.lt_size hx)
  have X₁ : K.In h₁ := X.keeps k
  have hx₁ := k _ _ hx
  have z1 : s.heap.objs.size < h₁.objs.size := hn0.lt
  show wpAny _ _ (execs _ _) _ _ _
  refine wpAny_execs_cons (plainObj_wpAny_Assign_Attribute ?_)
  refine ldC (v := v0) hn0 (by first | rfl | with_unfolding_all rfl | kernel_rfl) (ldC (v := .ref x) hn0 (by first | rfl | with_unfolding_all rfl | kernel_rfl) ?_)
  refine set_plain X₁ (ox := excO C t0) (od := none) ⟨hx₁, rfl, rfl, trivial⟩ Y.sa ?_
  refine exc_osa X₁ hx₁ hcl hm hh (Y.noF _ (by simp)) (fun h₂ tk₂ dx k₂ dn dne hx₂ hn₂ => ?_)
  have X₂ : K.In h₂ := kept_but X₁ hnx k₂
  have hn1 := ns_keep (x := x) hn0 hxL k₂
  have dL : s.heap.objs.size ≠ dx := Nat.ne_of_lt (Nat.lt_of_lt_of_le z1 dn)
  show wpAny _ _ (execs _ _) _ _ _
  refine wpAny_execs_cons (plainObj_wpAny_Assign_Attribute ?_)
  refine ldC (v := v1) hn1 (by first | rfl | with_unfolding_all rfl | kernel_rfl) (ldC (v := .ref x) hn1 (by first | rfl | with_unfolding_all rfl | kernel_rfl) ?_)
  obtain ⟨oD1, hoD1, _⟩ := L2.lookIn_ns hn₂
  refine set_plain X₂ (ox := { cls := .ref C, dict := some dx, data := .fields #[.ref t0, .none, .none, .none, .bool false, .none] }) (od := some oD1) ⟨hx₂, rfl, rfl, hoD1⟩ Y.sa ?_
  refine osa_two X₂ hx₂ hn₂ (nl := ["word"]) ?_ (by decide) hcl hm hh (Y.noF _ (by simp)) (fun h₃ tk₃ k₃ hn₃ => ?_)
  · intro y hy
    refine Classical.byContradiction fun hc => hy ?_
    simp only [List.mem_cons, List.not_mem_nil, or_false, not_or] at hc
    simp [hc]
  have hx₃ := k₃ _ _ (Ne.symm dne) hx₂
  show wpAny _ _ (execs _ _) _ _ _
  refine wpAny_execs_nil (hq h₃ tk₃ ⟨fun b o hb e => ?_, some dx, hx₃, fun z => (by cases z), fun _ => ⟨dx, rfl, Nat.le_of_lt (Nat.lt_of_lt_of_le z1 dn), dne, ?_⟩⟩)
  · have hd : b ≠ dx := Nat.ne_of_lt (Nat.lt_of_lt_of_le (Nat.lt_trans (Heap.lt_size e) z1) dn)
    exact k₃ b o hd (k₂ b o hb (k b o e))
  · refine ns1_eq hn₃ fun y => ?_
    exact lk2 (by decide) y
end EX
namespace EX
open PySem PySem.W PySem.Calls PyProof.Rows PySem.HandSPX
structure ExI (K : Frag) (C fI : Addr) (fs : List Str) : Prop where
  iC : findIn K (.ref C) "__init__" = some (some (.ref fI))
  tC : typeIn K (.ref fI) = some (.type "function")
  ini : Ini K C fI fs
theorem ExK.y {K : Frag} {B C : Addr} {nm : Str} {fs : List Str} (T : ExK K B nm C fs) : ExY K C fs := by
  obtain ⟨q, N, bs, sn, sub, ab, col, dd, k0, k1, k2, k3, k5, hC⟩ := T.cls
  refine ⟨⟨{ name := nm, bases := bs, mro := .ref C :: .ref B :: veTail, ns := N, qualname := q, hasDict := true, slotNames := sn, subclasses := sub, abstract := ab, collection := col, hasDel := false }, ?_, rfl, rfl⟩, T.sa, T.noF⟩
  unfold clsIn
  rw [hC] <;> rfl
/-- a made error -/
structure OwnMade (h h' : Heap) (e C : Addr) (fs : List Str) (us : List Value) : Prop where
  keep : ∀ b o, h.get? b = some o → h'.get? b = some o
  new : h.objs.size ≤ e
  obj : ∃ od t1, h'.get? e = some { cls := .ref C, dict := od, data := .fields #[.ref t1, .none, .none, .none, .bool false, .none] } ∧
    (fs = [] → od = none) ∧ (fs ≠ [] → ∃ d, od = some d ∧ e < d ∧ h'.Ns1 d fun y => List.lookup y (fs.zip us))
section
variable {prog : Program} {w : World} {A : Around} {R : Result → Shared → Prop} {s : Shared} {K : Frag} {B C fI : Addr} {nm : Str} {fs : List Str}
theorem made (T : ExK K B nm C fs) (I : ExI K C fI fs) {us : List Value} {a : Args} (hl : us.length = fs.length) (ha : a = ⟨us, []⟩ ∨ a = ⟨[], fs.reverse.zip us.reverse⟩) (X : K.In s.heap) (hlim : s.heap.NoLimit) (hroom : A.depth + 1 < recursionLimit) (hz : us.length ≤ 1000)
    (hq : ∀ h' tk e, OwnMade s.heap h' e C fs us → R (.ok (.ret (.ref e))) { s with heap := h', toks := tk }) :
    codeAny (model prog w) A (.call (.ref C) a) R s := by
  obtain ⟨q, N, bs, sn, sub, ab, col, dd, k0, k1, k2, k3, k5, hC⟩ := T.cls
  have hbm : refsVE (.ref B :: veTail) = true := rfl
  obtain ⟨hp, g, dr, tk, os⟩ := s
  have main : ∀ (rest : List Value) (kw : List (Str × Value)), a = ⟨rest, kw⟩ → rest.length ≤ 1000 → (∀ x : Addr, (⟨.ref x :: rest, kw⟩ : Args) = ⟨.ref x :: us, []⟩ ∨ (⟨.ref x :: rest, kw⟩ : Args) = ⟨[.ref x], fs.reverse.zip us.reverse⟩) → codeAny (model prog w) A (.call (.ref C) a) R ⟨hp, g, dr, tk, os⟩ := by
    rintro rest kw rfl hzr hx
    have k : ∀ b o, hp.get? b = some o → ((hp.push (kdv_tup rest)).push (excO C hp.objs.size)).get? b = some o := fun b o e => Heap.get?_push_of_some _ (Heap.get?_push_of_some _ e)
    have hget : ((hp.push (kdv_tup rest)).push (excO C hp.objs.size)).get? (hp.objs.size + 1) = some (excO C hp.objs.size) := by heap_get
    have hnx : K.lookup (hp.objs.size + 1) = none := by
      cases e : K.lookup (hp.objs.size + 1) with
      | none => rfl
      | some o =>
        have z : hp.get? (hp.objs.size + 1) = some o := X _ _ e
        exact absurd (Nat.lt_of_succ_lt (Heap.lt_size z)) (Nat.lt_irrefl _)
    refine call_ownK F.excBase_ValueError (fun X => refsVE_contains X _ hbm) (X _ _ hC) (W.looks_findIn X I.iC) (fun self => bind_fn X self I.tC) (one_size hzr) ?_
    refine I.ini prog w _ _ ⟨(hp.push (kdv_tup rest)).push (excO C hp.objs.size), g, dr, tk, os⟩ (hp.objs.size + 1) hp.objs.size _ us (X.keeps k) (hlim.keeps k) hget hnx ?_ hl (hx _) fun h' tk' M => ?_
    · show A.depth + 1 < recursionLimit
      exact hroom
    · have old : ∀ b o, hp.get? b = some o → h'.get? b = some o := fun b o e => M.keep b o (Nat.ne_of_lt (Nat.lt_succ_of_lt (Heap.lt_size e))) (k b o e)
      obtain ⟨od, ho, hn, hd⟩ := M.obj
      refine ⟨rfl, hq h' tk' (hp.objs.size + 1) ⟨old, Nat.le_succ _, od, _, ho, hn, fun ne => ?_⟩⟩
      obtain ⟨dx, e1, e2, e3, e4⟩ := hd ne
      have e2' : ((hp.push (kdv_tup rest)).push (excO C hp.objs.size)).objs.size ≤ dx := e2
      rw [Heap.size_push, Heap.size_push] at e2'
      exact ⟨dx, e1, e2', e4⟩
  rcases ha with rfl | rfl
  · exact main us [] rfl hz fun x => .inl rfl
  · exact main [] _ rfl (by decide) fun x => .inr rfl
end
theorem cut (h : Heap) (n : Nat) : ∃ G : Heap, (∀ b, b < n → G.get? b = h.get? b) ∧ G.objs.size ≤ n ∧ (∀ b o, G.get? b = some o → h.get? b = some o) := by
  have e : ∀ b, b < n → (h.objs.extract 0 n)[b]? = h.objs[b]? := fun b hb => by
    rw [Array.getElem?_extract]
    by_cases hs : b < h.objs.size
    · rw [if_pos (by omega), Nat.zero_add]
    · rw [if_neg (by omega)]
      exact (Array.getElem?_eq_none (by omega)).symm
  have s : (h.objs.extract 0 n).size ≤ n := by
    rw [Array.size_extract]
    omega
  have m : ∀ b, b < n → (⟨h.objs.extract 0 n, h.life⟩ : Heap).get? b = h.get? b := fun b hb => by
    unfold Heap.get?
    rw [e b hb]
  refine ⟨⟨h.objs.extract 0 n, h.life⟩, m, s, fun b o q => ?_⟩
  have hb : b < n := Nat.lt_of_lt_of_le (Heap.lt_size q) s
  rw [← m b hb]
  exact q
end EX
namespace L2
open PySem PySem.Spec PyProof.Rows EX
def exHO (o : Obj) : HO := .frz o (.ext fun _ => True)
/-- behind C(..): e new, and its dict, if there are fields -/
def newE (nm : Str) (fs : List Str) (K : PySem.W.Frag) (vs : List V) (H1 : Hp) (Q : V → Hp → Prop) : Prop := vs.length = fs.length ∧ ∀ (B C e : Addr) (o : Obj), ExK K B nm C fs → o.cls = .ref C → (∃ a, o.data = .fields a) → H1 e = none →
  (fs = [] → o.dict = none → Q (.ref e) (upd H1 e (exHO o))) ∧
  (fs ≠ [] → ∀ d, o.dict = some d → (upd H1 e (exHO o)) d = none → Q (.ref e) (upd (upd H1 e (exHO o)) d (.xd (fs.zip vs))))
def tMkE (K : PySem.W.Frag) (nm : Str) (fs : List Str) (ta : TA) : TE := fun σ H Q => ta σ H fun vs H1 => newE nm fs K vs H1 Q
def tMkEK (K : PySem.W.Frag) (nm : Str) (fs : List Str) (ta : TA) : TE := fun σ H Q => ta σ H fun vs H1 => newE nm fs K vs.reverse H1 Q
theorem relO_zip : ∀ {fs : List Str} {vs : List V} {us : List Value}, Vals vs us → vs.length = fs.length → ∀ f, RelO (List.lookup f (fs.zip vs)) (List.lookup f (fs.zip us))
  | [], [], _, .nil, _, f => trivial
  | x :: fs, v :: vs, _, .cons r rs, hl, f => by
    rw [List.zip_cons_cons, List.zip_cons_cons, List.lookup_cons, List.lookup_cons]
    cases (f == x) with
    | true => exact r
    | false => exact relO_zip rs (by simpa using hl) f
theorem Vals.reverse' {vs : List V} {us : List Value} (h : Vals vs us) : Vals vs.reverse us.reverse := by
  induction h with
  | nil => exact .nil
  | cons r t ih =>
    rw [List.reverse_cons, List.reverse_cons]
    exact ih.append (.cons r .nil)
section
variable {X : Cx} {B C fI : Addr} {nm : Str} {fs : List Str} {pins : List (Addr × Obj)} {σ : St} {H1 : Hp} {s1 : Shared} {Q : VK}
theorem made_inv (T : ExK X.K B nm C fs) {vs : List V} {us : List Value} (I1 : L2.Inv X pins σ H1 s1) (rv : Vals vs us) (q : newE nm fs X.K vs H1 Q) {h' : Heap} {tk : Nat} {e : Addr} (M : OwnMade s1.heap h' e C fs us) :
    EP X pins σ Q (.ref e) { s1 with heap := h', toks := tk } := by
  obtain ⟨hl, q⟩ := q
  obtain ⟨od, t1, ho, hn, hd⟩ := M.obj
  obtain ⟨G, g1, g2, g3⟩ := cut h' (e + 1)
  have old : ∀ b o, s1.heap.get? b = some o → G.get? b = some o := fun b o z => (g1 b (Nat.lt_succ_of_lt (Nat.lt_of_lt_of_le (Heap.lt_size z) M.new))).trans (M.keep b o z)
  have hoG : G.get? e = some _ := (g1 e (Nat.lt_succ_self e)).trans ho
  have he : H1 e = none := I1.hok.fresh M.new
  obtain ⟨q1, q2⟩ := q B C e { cls := .ref C, dict := od, data := .fields #[.ref t1, .none, .none, .none, .bool false, .none] } T rfl ⟨_, rfl⟩ he
  have ob : ∀ h : Heap, h.get? e = some { cls := .ref C, dict := od, data := .fields #[.ref t1, .none, .none, .none, .bool false, .none] } → ObjOk X.prog X.w (upd H1 e (exHO { cls := .ref C, dict := od, data := .fields #[.ref t1, .none, .none, .none, .bool false, .none] })) h e (exHO { cls := .ref C, dict := od, data := .fields #[.ref t1, .none, .none, .none, .bool false, .none] }) := fun h z =>
    ⟨z, trivial, ⟨_, z⟩, fun _ _ _ _ => trivial⟩
  have J := I1.laid (t' := tk) old M.new (ob G hoG)
  by_cases hf : fs = []
  · have J2 := I1.laid (t' := tk) M.keep M.new (ob h' ho)
    exact ⟨.ref e, _, J2, rfl, q1 hf (hn hf)⟩
  · obtain ⟨d, e1, e2, e3⟩ := hd hf
    have hdN := J.hok.fresh (a := d) (Nat.le_trans g2 e2)
    refine ⟨.ref e, _, J.laid (t' := tk) (h' := h') g3 (a := d) (o := .xd (fs.zip vs)) (Nat.le_trans g2 e2) ⟨_, e3, relO_zip rv hl⟩, rfl, q2 hf d e1 hdN⟩
theorem pe_mkE {a : Expr} {es : List Expr} {ta : TA} {p pos : Pos} {k : Nat} (T : ExK X.K B nm C fs) (I : ExI X.K C fI fs) (gC : X.mg nm = some (.ref C)) (hfs : fs.length ≤ 1000) (hr : Room k X.A) (ha : PA X (a :: es) ta) (hg : Gl X nm := by rfl) (hdb : (nm == ("__debug__" : Str)) = false := by decide)
    (he : starEach (a :: es) X.env = (false, eval a X.env) :: starEach es X.env := by rfl) (hpl : (backTo pos (starEach es X.env)).any (·.1) = false := by rfl) :
    PE X (.Call (.Name nm p) (a :: es) [] pos) (tMkE X.K nm fs ta) := by
  refine ⟨fun pins s σ H Q I0 h => wpAny_Call_Name_kw (ld_glob I0 hg gC ?_ hdb)⟩
  refine PySem.W.callWith_K (h₀ := X.base) I0.ok.mod.kin T.kC (thn (ha.run pos pins s σ H _ I0 h) fun us s1 hh => ?_) he hpl
  obtain ⟨vs, H1, I1, r1, q1⟩ := hh
  refine ⟨I1.kIn, ?_⟩
  have hlen : us.length = fs.length := r1.length.symm.trans q1.1
  refine wpAny_call (made (a := ⟨us, []⟩) T I hlen (.inl rfl) I1.kIn I1.nolimit (by have := hr.dp; omega) (by omega) fun h' tk e M => ?_)
  exact made_inv T I1 r1 q1 M
theorem pe_mkEK {ta : TA} {kws : List Keyword} {p pos : Pos} {k : Nat} (T : ExK X.K B nm C fs) (I : ExI X.K C fI fs) (gC : X.mg nm = some (.ref C)) (hfs : fs.length ≤ 1000) (hr : Room k X.A) (ha : PK X kws ta) (hg : Gl X nm := by rfl) (hdb : (nm == ("__debug__" : Str)) = false := by decide)
    (hall : (backToKw pos (keywordEach kws X.env)).all (·.1.isSome) = true := by rfl) (hks : (backToKw pos (keywordEach kws X.env)).filterMap (·.1) = fs.reverse := by rfl)
    (hpl : ((backTo pos (starEach [] X.env)).any (·.1) || (backToKw pos (keywordEach kws X.env)).any (·.1.isNone)) = false := by rfl) :
    PE X (.Call (.Name nm p) [] kws pos) (tMkEK X.K nm fs ta) := by
  refine ⟨fun pins s σ H Q I0 h => wpAny_Call_Name_kw (ld_glob I0 hg gC ?_ hdb)⟩
  refine PySem.W.callWith_KW0 (h₀ := X.base) I0.ok.mod.kin T.kC hall (thn (ha.run pos pins s σ H _ I0 h) fun us s1 hh => ?_) hpl
  obtain ⟨vs, H1, I1, r1, q1⟩ := hh
  refine ⟨I1.kIn, ?_⟩
  rw [hks]
  have hlen : us.reverse.length = fs.length := by rw [← r1.reverse'.length]; exact q1.1
  refine wpAny_call (made (a := ⟨[], fs.reverse.zip us⟩) (us := us.reverse) T I hlen (.inr (by rw [List.reverse_reverse])) I1.kIn I1.nolimit (by have := hr.dp; omega) (by omega) fun h' tk e M => ?_)
  exact made_inv T I1 r1.reverse' q1 M
end
end L2
namespace EX
open PySem PySem.W PySem.HandSPX
section
variable {K : Frag} {B C : Addr} {nm : Str} {fs : List Str}
theorem ExK.clsIn (T : ExK K B nm C fs) : ∃ cd, W.clsIn K C = some cd ∧ cd.mro = .ref C :: .ref B :: [.type "ValueError", .type "Exception", .type "BaseException", .type "object"] ∧ cd.hasDict = true := by
  obtain ⟨q, N, bs, sn, sub, ab, col, dd, k0, k1, k2, k3, k5, hC⟩ := T.cls
  refine ⟨{ name := nm, bases := bs, mro := .ref C :: .ref B :: veTail, ns := N, qualname := q, hasDict := true, slotNames := sn, subclasses := sub, abstract := ab, collection := col, hasDel := false }, ?_, rfl, rfl⟩
  unfold W.clsIn
  rw [hC] <;> rfl
theorem ExK.mro (T : ExK K B nm C fs) (t : Value) : mroIn K C t = some ((.ref C :: .ref B :: [.type "ValueError", .type "Exception", .type "BaseException", .type "object"] : List Value).contains t) := by
  obtain ⟨cd, h1, h2, _⟩ := T.clsIn
  unfold mroIn
  rw [h1]
  show (if cd.mro.isEmpty = true then none else some (cd.mro.contains t)) = _
  rw [h2]
  rfl
theorem ExK.sub (T : ExK K B nm C fs) (t : Value) : subIn K (.ref C) t = some ((.ref C :: .ref B :: [.type "ValueError", .type "Exception", .type "BaseException", .type "object"] : List Value).contains t) := T.mro t
theorem ExK.hd (T : ExK K B nm C fs) : hasDictIn K C = true := by
  obtain ⟨cd, h1, _, h3⟩ := T.clsIn
  unfold hasDictIn
  rw [h1]
  exact h3
theorem ExK.same {B' C' : Addr} {nm' : Str} {fs' : List Str} (T : ExK K B nm C fs) (T' : ExK K B' nm' C' fs') : decide (C = C') = (nm == nm') := by
  by_cases h : nm = nm'
  · subst h
    have e := T.ns.symm.trans T'.ns
    cases e
    simp
  · have ne : C ≠ C' := fun e => by
      subst e
      obtain ⟨_, _, _, _, _, _, _, _, _, _, _, _, _, h1⟩ := T.cls
      obtain ⟨_, _, _, _, _, _, _, _, _, _, _, _, _, h2⟩ := T'.cls
      have z := h1.symm.trans h2
      unfold excClassObj at z
      injection z with z
      injection z with z1 z2 z3 z4
      injection z3 with z3
      injection z3 with z3
      exact h z3
    simp [ne, h]
theorem ExK.bne (T : ExK K B nm C fs) (hB : nm ≠ "BookError") {B' C' : Addr} {nm' : Str} {fs' : List Str} (T' : ExK K B' nm' C' fs') (hn : nm' ≠ "BookError") (hBn : ∃ o, K.lookup B = some o ∧ ∃ cd, o.data = .cls cd ∧ cd.name = "BookError") : C' ≠ B := fun e => by
  subst e
  obtain ⟨_, _, _, _, _, _, _, _, _, _, _, _, _, h2⟩ := T'.cls
  obtain ⟨o, h1, cd, h3, h4⟩ := hBn
  have z := h1.symm.trans h2
  cases z
  unfold excClassObj at h3
  injection h3 with h3
  rw [← h3] at h4
  exact hn h4
end
end EX
namespace L2
open PySem PySem.Spec PyProof.Rows EX
theorem cls_get (K : PySem.W.Frag) : PySem.W.specialIn K (.builtin "object.__class__") (PySem.Str.ofString "__get__") = some (some (.builtin "getset_descriptor.__get__")) := by
  first
    | rfl
    | with_unfolding_all rfl
theorem cls_takes (K : PySem.W.Frag) : PySem.W.takesIn K (.builtin "object.__class__") = some true := by
  first
    | rfl
    | with_unfolding_all rfl
def ExAt (K : PySem.W.Frag) (H : Hp) (v : V) (C : Addr) : Prop := ∃ (e : Addr) (o : Obj) (B : Addr) (nm : Str) (fs : List Str), v = .ref e ∧ H e = some (exHO o) ∧ ExK K B nm C fs ∧ o.cls = .ref C ∧ (∃ a, o.data = .fields a) ∧ (o.dict = none ∨ ∃ d x, o.dict = some d ∧ H d = some (.xd x))
section
variable {X : Cx}
theorem ExAt.inst {pins : List (Addr × Obj)} {σ : St} {H : Hp} {s : Shared} {e : Addr} {o : Obj} {C : Addr} (I : L2.Inv X pins σ H s) (h1 : H e = some (exHO o)) (hc : o.cls = .ref C) (hv : ∃ a, o.data = .fields a) (hd : o.dict = none ∨ ∃ d x, o.dict = some d ∧ H d = some (.xd x)) : ∃ od, PySem.W.InstAt s.heap e o C od := by
  have z : ObjOk X.prog X.w H s.heap e (exHO o) := I.hok e _ h1
  have ha : s.heap.get? e = some o := z.1
  obtain ⟨vs, hv⟩ := hv
  have hn : PySem.W.notCls o = true := by unfold PySem.W.notCls; rw [hv] <;> rfl
  rcases hd with hd | ⟨d, x, hd, hx⟩
  · exact ⟨none, ha, hc, hn, by rw [hd]; trivial⟩
  · have y : ObjOk X.prog X.w H s.heap d (.xd x) := I.hok d _ hx
    obtain ⟨mA, hns, hr⟩ := y
    obtain ⟨od, ho, hl⟩ := lookIn_ns hns
    exact ⟨some od, ha, hc, hn, by rw [hd]; exact ho⟩
theorem ExAt.kit {pins : List (Addr × Obj)} {σ : St} {H : Hp} {s : Shared} {v : V} {u : Value} {C : Addr} (I : L2.Inv X pins σ H s) (r : RelV v u) (h : ExAt X.K H v C) : ∃ P, PySem.W.KitX X.K u (.ref C) P ∧ P s.heap ∧ u ≠ .builtin "__main__.__loader__#opaque" := by
  obtain ⟨e, o, B, nm, fs, rfl, h1, T, hc, hv, hd⟩ := h
  obtain rfl : u = Value.ref e := r
  obtain ⟨od, hI⟩ := ExAt.inst I h1 hc hv hd
  obtain ⟨cd, hcd, _, _⟩ := T.clsIn
  refine ⟨_, PySem.W.kitx_exc (ox := o) (od := od) (by rw [hcd]; rfl) T.ga T.gg ((T.sub _).trans (by rfl)) T.gc (cls_get _) (cls_takes _) ((T.mro _).trans (by rfl)), hI, fun z => nomatch z⟩
def rIsE (K : PySem.W.Frag) : List V → Hp → VK → Prop := fun xs H Q => ∃ x c C u b, xs = [x, c] ∧ ClsV c u ∧ ExAt K H x C ∧ PySem.W.kitOne K (.ref C) u = some b ∧ Q (.bl b) H
theorem call_isE : CallR X (.builtin "isinstance") (rIsE X.K) := by
  intro pins s σ H xs us Q I r h
  obtain ⟨x, c, C, u, b, rfl, k, ty, e, q⟩ := h
  obtain ⟨u1, u2, rfl, r1, r2⟩ := vals2 r
  have e2 := ClsV.eq k r2
  subst e2
  obtain ⟨P, Z, hp, hx⟩ := ExAt.kit I r1 ty
  exact PySem.W.kia_one Z I.kIn hp e hx fun tk => ⟨.bl b, H, I.tok tk, rfl, q⟩
def rIsET (K : PySem.W.Frag) : List V → Hp → VK → Prop := fun xs H Q => ∃ x tp cs C us b, xs = [x, .ref tp] ∧ H tp = some (.tup cs) ∧ Paired ClsV cs us ∧ ExAt K H x C ∧ PySem.W.kitAny K (.ref C) us = some b ∧ Q (.bl b) H
theorem call_isET : CallR X (.builtin "isinstance") (rIsET X.K) := by
  intro pins s σ H xs us Q I r h
  obtain ⟨x, tp, cs, C, ws, b, rfl, hT, k, ty, e, q⟩ := h
  obtain ⟨u1, u2, rfl, r1, r2⟩ := vals2 r
  obtain rfl : u2 = Value.ref tp := r2
  obtain ⟨P, Z, hp, hx⟩ := ExAt.kit I r1 ty
  have z : ObjOk X.prog X.w H s.heap tp (.tup cs) := I.hok tp _ hT
  obtain ⟨_, its, rv, o, h1, h2, n, h3⟩ := z
  have e3 := ClsV.all k rv
  subst e3
  obtain ⟨oc, od, dt, sl⟩ := o
  dsimp only at h2 h3
  subst h2
  subst h3
  exact PySem.W.kia_tup Z I.kIn hp h1 e hx fun tk => ⟨.bl b, H, I.tok tk, rfl, q⟩
end
end L2
namespace DI
open PySem PySem.Spec PyProof.Rows L2 EX
/-- an error's class of the top -/
structure Cl (K : PySem.W.Frag) (mg : Str → Option Value) (nm : Str) (fs : List Str) : Prop where
  ex : ∃ B C fI, ExK K B nm C fs ∧ ExI K C fI fs ∧ mg nm = some (.ref C)
def wMk (nm : Str) (fs : List Str) (t : WA) : W := ⟨fun s P => t.f s fun ds s1 => ds.length = fs.length ∧ P (.exc nm fs ds) s1, fun s P P' h q => t.mono _ _ _ (fun ds s1 q => ⟨q.1, h _ _ q.2⟩) q⟩
def wMkK (nm : Str) (fs : List Str) (t : WA) : W := ⟨fun s P => t.f s fun ds s1 => ds.length = fs.length ∧ P (.exc nm fs ds.reverse) s1, fun s P P' h q => t.mono _ _ _ (fun ds s1 q => ⟨q.1, h _ _ q.2⟩) q⟩
section
variable {X : Cx} {p : Pl} {nm : Str} {fs : List Str} {t : WA} {e : Expr} {es : List Expr} {pf pos : Pos} {ms : List Bool} {k : Nat}
theorem newE_of {σ : L2.St} {H1 G1 : Hp} {s1 : S} {vs : List V} {ds : List D} {Q : VK} (R1 : p.Rs σ H1 G1 s1) (ra : p.RpA G1 vs ds) (hl : ds.length = fs.length) (kq : ∀ v H' G', Same G1 G' → p.Rs σ H' G' s1 → p.Rp G' v (.exc nm fs ds) → Q v H') : newE nm fs p.K vs H1 Q := by
  have hlv : vs.length = fs.length := ra.length.trans hl
  refine ⟨hlv, fun B C e o T hc hv he => ⟨fun hf hd => ?_, fun hf d hd hdn => ?_⟩⟩
  · have sm : Same G1 (L2.upd G1 e (exHO o)) := Same.upd (R1.sub.none he)
    exact kq _ _ _ sm (R1.alloc he) (.exc T hc hv upd_same (fun ne => absurd hf ne) (fun _ => hd) hlv (ra.mono sm))
  · have sm : Same G1 (L2.upd G1 e (exHO o)) := Same.upd (R1.sub.none he)
    have R2 := R1.alloc (o := exHO o) he
    have sm2 : Same (L2.upd G1 e (exHO o)) (L2.upd (L2.upd G1 e (exHO o)) d (.xd (fs.zip vs))) := Same.upd (R2.sub.none hdn)
    have ne : e ≠ d := ne_of_none (H := L2.upd H1 e (exHO o)) upd_same hdn
    exact kq _ _ _ (sm.trans sm2) (R2.alloc hdn) (.exc T hc hv (by rw [upd_ne ne]; exact upd_same) (fun _ => ⟨d, hd, upd_same⟩) (fun z => absurd z hf) hlv ((ra.mono sm).mono sm2))
theorem pd_mkE (c : Cl X.K X.mg nm fs) (hr : Room k X.A) (ha : PA X (e :: es) (liftM p ms t)) (hm : ∀ m ∈ ms, m = false := by decide) (hfs : fs.length ≤ 1000 := by decide) (hK : p.K = X.K := by rfl) (hg : Gl X nm := by rfl) (hdb : (nm == ("__debug__" : Str)) = false := by decide)
    (he : starEach (e :: es) X.env = (false, eval e X.env) :: starEach es X.env := by rfl) (hpl : (backTo pos (starEach es X.env)).any (·.1) = false := by rfl) : PE X (.Call (.Name nm pf) (e :: es) [] pos) (lift p (wMk nm fs t)) := by
  obtain ⟨B, C, fI, T, I, g⟩ := c.ex
  exact PE.imp (pe_mkE T I g hfs hr ha hg hdb he hpl) fun σ H Q ⟨G, s, R, k⟩ => ⟨G, s, R, t.mono _ _ _ (fun ds s1 k1 vs H1 G1 e1 R1 r1 => hK ▸ newE_of R1 (r1.all hm) k1.1 fun v H' G' e2 R2 r2 => k1.2 v H' G' (e1.trans e2) R2 r2) k⟩
theorem RpA.rev {K : PySem.W.Frag} {dr : Option Addr} {G : Hp} {vs : List V} {ds : List D} (h : DI.RpA K dr G vs ds) : DI.RpA K dr G vs.reverse ds.reverse := h.reverse
theorem pd_mkEK {kws : List Keyword} {n : Nat} (c : Cl X.K X.mg nm fs) (hr : Room k X.A) (ha : PKd X p kws n t) (hfs : fs.length ≤ 1000 := by decide) (hK : p.K = X.K := by rfl) (hg : Gl X nm := by rfl) (hdb : (nm == ("__debug__" : Str)) = false := by decide)
    (hall : (backToKw pos (keywordEach kws X.env)).all (·.1.isSome) = true := by rfl) (hks : (backToKw pos (keywordEach kws X.env)).filterMap (·.1) = fs.reverse := by rfl)
    (hpl : ((backTo pos (starEach [] X.env)).any (·.1) || (backToKw pos (keywordEach kws X.env)).any (·.1.isNone)) = false := by rfl) : PE X (.Call (.Name nm pf) [] kws pos) (lift p (wMkK nm fs t)) := by
  obtain ⟨B, C, fI, T, I, g⟩ := c.ex
  exact PE.imp (pe_mkEK T I g hfs hr ha.pk hg hdb hall hks hpl) fun σ H Q ⟨G, s, R, k⟩ => ⟨G, s, R, t.mono _ _ _ (fun ds s1 k1 vs H1 G1 e1 R1 r1 => hK ▸ newE_of R1 (r1.all allF_replicate).rev (by rw [List.length_reverse]; exact k1.1) fun v H' G' e2 R2 r2 => k1.2 v H' G' (e1.trans e2) R2 r2) k⟩
/-! a field -/
def gAt (f : Str) : D → Option D
  | .exc _ fs ds => List.lookup f (fs.zip ds)
  | _ => none
def wAt (f : Str) (w : W) : W := ⟨fun s P => w.f s fun d s1 => get (gAt f d) fun z => P z s1, fun s P P' h q => w.mono _ _ _ (fun d s1 q => get_mono (fun z => h z s1) q) q⟩
theorem look_rp {K : PySem.W.Frag} {dr : Option Addr} {G : Hp} {f : Str} {z : D} : ∀ {fs : List Str} {xs : List V} {ds : List D}, DI.RpA K dr G xs ds → xs.length = fs.length → List.lookup f (fs.zip ds) = some z → f ∈ fs ∧ ∃ v, List.lookup f (fs.zip xs) = some v ∧ DI.Rp K dr G v z
  | [], _, _, _, _, h => by simp at h
  | a :: fs, _, _, .nil, hl, h => by simp at hl
  | a :: fs, v :: xs, d :: ds, .cons r t, hl, h => by
    rw [List.zip_cons_cons, List.lookup_cons] at h ⊢
    cases q : (f == a) with
    | true =>
      rw [q] at h
      cases h
      have e : f = a := by simpa using q
      subst e
      exact ⟨List.mem_cons_self, v, rfl, r⟩
    | false =>
      rw [q] at h
      obtain ⟨h1, u, h2, h3⟩ := look_rp (f := f) (z := z) t (by simpa using hl) h
      exact ⟨List.mem_cons_of_mem _ h1, u, h2, h3⟩
theorem pd_at {w : W} (f : Str) (ha : PE X e (lift p w)) (hK : p.K = X.K := by rfl) (hb : attributeBase e f X.env (eval e X.env) = eval e X.env := by rfl) : PE X (.Attribute e f pos) (lift p (wAt f w)) := by
  refine ⟨fun pins s σ H Q I h => attr_of hb (thn (ha.run pins s σ H (fun v H1 => ∃ G1 s1 d, p.Rs σ H1 G1 s1 ∧ p.Rp G1 v d ∧ get (gAt f d) fun z => ∀ u H' G', Same G1 G' → p.Rs σ H' G' s1 → p.Rp G' u z → Q u H') I ?_) fun u s1 hh => ?_)⟩
  · obtain ⟨G, st, R, k⟩ := h
    exact ⟨G, st, R, w.mono _ _ _ (fun d s1 k1 v H1 G1 e1 R1 r1 => ⟨G1, s1, d, R1, r1, get_mono (fun z kz u H' G' e2 R2 r2 => kz u H' G' (e1.trans e2) R2 r2) k1⟩) k⟩
  · obtain ⟨x, H1, I1, rx, G1, st1, d, R1, r1, k1⟩ := hh
    obtain ⟨z, ez, kz⟩ := get_of k1
    cases d <;> simp only [gAt] at ez <;> try cases ez
    rename_i nm' fs' ds'
    cases r1 with
    | exc T hc hv he hd hn hl hs =>
      rename_i e0 C B o xs
      obtain ⟨mem, v, hlk, rv⟩ := look_rp hs hl ez
      have nf : fs' ≠ [] := fun z => by rw [z] at mem; cases mem
      obtain ⟨dx, hdx, hGd⟩ := hd nf
      have hH := R1.sub _ _ hGd
      have hHe := R1.sub _ _ he
      obtain rfl : u = Value.ref e0 := rx
      have zo : ObjOk X.prog X.w H1 s1.heap e0 (.frz o (.ext fun _ => True)) := I1.hok e0 _ hHe
      have hx : ObjOk X.prog X.w H1 s1.heap dx (.xd (fs'.zip xs)) := I1.hok dx _ hH
      obtain ⟨mA, hns, hr⟩ := hx
      obtain ⟨od, ho, hlo⟩ := lookIn_ns hns
      obtain ⟨u', hu, ru⟩ := RelO.some_of (v := v) (o := mA f) (by rw [← hlk]; exact hr f)
      obtain ⟨vs, hdat⟩ := hv
      have J : PySem.W.InstAt s1.heap e0 o C (some od) := ⟨zo.1, hc, by unfold PySem.W.notCls; rw [hdat] <;> rfl, by rw [hdx]; exact ho⟩
      have T' : ExK X.K B nm' C fs' := hK ▸ T
      exact HandSPX.exc_get I1.kIn J T'.ga T'.gg ((T'.sub _).trans (by rfl)) (PySem.W.findObj_own T'.hd (T'.noF f mem) rfl (by rw [hlo, hu])) (handed_of ru) ⟨v, H1, I1.tok _, ru, kz v H1 G1 (Same.refl G1) R1 rv⟩
end
end DI
namespace DI
open PySem PySem.Spec PyProof.Rows L2 EX
/-- the class that all are under -/
structure Bk (K : PySem.W.Frag) (mg : Str → Option Value) : Prop where
  ex : ∃ B, PySem.W.nsIn K mainGlobals "BookError" = some (some (.ref B)) ∧ (∃ cd, PySem.W.clsIn K B = some cd ∧ cd.name = "BookError") ∧ PySem.W.typeIn K (.ref B) = some (.type "type") ∧ mg "BookError" = some (.ref B)
section
variable {X : Cx} {p : Pl} {nm : Str} {fs : List Str} {t : WA} {e : Expr} {es : List Expr} {pf pt pos : Pos} {ms : List Bool} {k : Nat} {w : W}
theorem clsName {K : PySem.W.Frag} {B C : Addr} {nm : Str} {fs : List Str} (T : ExK K B nm C fs) : ∃ cd, PySem.W.clsIn K C = some cd ∧ cd.name = nm := by
  obtain ⟨q, N, bs, sn, sub, ab, col, dd, k0, k1, k2, k3, k5, hC⟩ := T.cls
  refine ⟨{ name := nm, bases := bs, mro := .ref C :: .ref B :: HandSPX.veTail, ns := N, qualname := q, hasDict := true, slotNames := sn, subclasses := sub, abstract := ab, collection := col, hasDel := false }, ?_, rfl⟩
  unfold PySem.W.clsIn
  rw [hC] <;> rfl
theorem kit_own {K : PySem.W.Frag} {B C B' C' : Addr} {nm nm' : Str} {fs fs' : List Str} (T : ExK K B nm C fs) (T' : ExK K B' nm' C' fs') (hB : ∃ cd, PySem.W.clsIn K B = some cd ∧ cd.name = "BookError") (hn : nm' ≠ "BookError") : PySem.W.kitOne K (.ref C) (.ref C') = some (nm == nm') := by
  have h := T.same T'
  unfold PySem.W.kitOne
  by_cases e : C = C'
  · subst e
    rw [← h]
    simp
  · have ne : (Value.ref C == Value.ref C') = false := by
      simpa using e
    obtain ⟨cd', hcd', hnm'⟩ := clsName T'
    have neB : C' ≠ B := fun z => by
      subst z
      obtain ⟨cd, h1, h2⟩ := hB
      rw [hcd'] at h1
      cases h1
      exact hn (hnm'.symm.trans h2)
    rw [ne, if_neg Bool.false_ne_true]
    show (if ((PySem.W.clsIn K C').isSome && PySem.W.typeIn K (.ref C') == some (.type "type")) = true then PySem.W.subIn K (.ref C) (.ref C') else none) = _
    rw [hcd', T'.tyC]
    rw [if_pos (by rfl), T.sub]
    have e2 : (nm == nm') = false := by
      rw [← h]
      simpa using e
    rw [e2]
    have e3 : C' ≠ C := fun z => e z.symm
    simp [List.contains_cons, e3, neB]
theorem kit_book {K : PySem.W.Frag} {B C : Addr} {nm : Str} {fs : List Str} (T : ExK K B nm C fs) (hB : ∃ cd, PySem.W.clsIn K B = some cd ∧ cd.name = "BookError") (ht : PySem.W.typeIn K (.ref B) = some (.type "type")) : PySem.W.kitOne K (.ref C) (.ref B) = some true := by
  unfold PySem.W.kitOne
  obtain ⟨cd, h1, h2⟩ := hB
  by_cases e : (Value.ref C == Value.ref B) = true
  · rw [if_pos e]
  · rw [if_neg e]
    show (if ((PySem.W.clsIn K B).isSome && PySem.W.typeIn K (.ref B) == some (.type "type")) = true then PySem.W.subIn K (.ref C) (.ref B) else none) = _
    rw [h1, ht, if_pos (by rfl), T.sub]
    simp [List.contains_cons]
theorem kit_ve {K : PySem.W.Frag} {B C : Addr} {nm : Str} {fs : List Str} (T : ExK K B nm C fs) : PySem.W.kitOne K (.ref C) (.type "ValueError") = some true := by
  unfold PySem.W.kitOne
  show (if PySem.W.kitMeta "ValueError" = true then PySem.W.subIn K (.ref C) (.type "ValueError") else none) = _
  rw [if_pos (by decide +kernel), T.sub]
  rfl
theorem kit_lr {K : PySem.W.Frag} {B C : Addr} {nm : Str} {fs : List Str} (T : ExK K B nm C fs) : PySem.W.kitAny K (.ref C) [.type "LookupError", .type "RuntimeError"] = some false := by
  have h1 : PySem.W.kitOne K (.ref C) (.type "LookupError") = some false := by
    unfold PySem.W.kitOne
    show (if PySem.W.kitMeta "LookupError" = true then PySem.W.subIn K (.ref C) (.type "LookupError") else none) = _
    rw [if_pos (by decide +kernel), T.sub]
    rfl
  have h2 : PySem.W.kitOne K (.ref C) (.type "RuntimeError") = some false := by
    unfold PySem.W.kitOne
    show (if PySem.W.kitMeta "RuntimeError" = true then PySem.W.subIn K (.ref C) (.type "RuntimeError") else none) = _
    rw [if_pos (by decide +kernel), T.sub]
    rfl
  simp [PySem.W.kitAny, h1, h2]
theorem exAt_of {G H : Hp} {v : V} {ds : List D} (hs : Sub G H) (r : p.Rp G v (.exc nm fs ds)) : ∃ B C, ExK p.K B nm C fs ∧ ExAt p.K H v C := by
  cases r with
  | exc T hc hv he hd hn hl ha =>
    refine ⟨_, _, T, _, _, _, _, _, rfl, hs _ _ he, T, hc, hv, ?_⟩
    by_cases hf : fs = []
    · exact .inl (hn hf)
    · obtain ⟨d, h1, h2⟩ := hd hf
      exact .inr ⟨d, _, h1, hs _ _ h2⟩
/-- isinstance(e, C), C an error's class -/
def gIsE (nm' : Str) : D → Option D
  | .exc nm _ _ => some (.bl (nm == nm'))
  | _ => none
def gIsA (b : Bool) : D → Option D
  | .exc _ _ _ => some (.bl b)
  | _ => none
def wG (g : D → Option D) (w : W) : W := ⟨fun s P => w.f s fun d s1 => get (g d) fun z => P z s1, fun s P P' h q => w.mono _ _ _ (fun d s1 q => get_mono (fun z => h z s1) q) q⟩
theorem pd_isE {nm' : Str} {fs' : List Str} (c : Cl X.K X.mg nm' fs') (b : Bk X.K X.mg) (ha : PE X e (lift p w)) (hmi : X.mg "isinstance" = none) (hnb : nm' ≠ "BookError" := by decide) (hK : p.K = X.K := by rfl) (hgi : Gl X "isinstance" := by rfl) (hg : Gl X nm' := by rfl)
    (hdb : (nm' == ("__debug__" : Str)) = false := by decide) (hs : starEach (e :: [.Name nm' pt]) X.env = (false, eval e X.env) :: starEach [.Name nm' pt] X.env := by rfl) (hs2 : starEach [.Name nm' pt] X.env = (false, eval (.Name nm' pt) X.env) :: starEach [] X.env := by rfl)
    (hpl : (backTo pos (starEach [.Name nm' pt] X.env)).any (·.1) = false := by rfl) : PE X (.Call (.Name "isinstance" pf) [e, .Name nm' pt] [] pos) (lift p (wG (gIsE nm') w)) := by
  obtain ⟨B', C', fI, T', I', g⟩ := c.ex
  obtain ⟨B, hb1, hb2, hb3, hb4⟩ := b.ex
  have hx : PE X (.Name nm' pt) (tC (.ref C')) := pe_glob (u := .ref C') hg g rfl hdb
  refine PE.imp (pe_callB call_isE hgi hmi (by decide +kernel) (pa_cons ha (pa_cons hx pa_nil hs2) hs) (by decide) (by decide) hs hpl) fun σ H Q ⟨G, s, R, k⟩ => ⟨G, s, R, w.mono _ _ _ (fun d s1 k1 v H1 G1 e1 R1 r1 => ?_) k⟩
  obtain ⟨z, ez, kz⟩ := get_of k1
  cases d <;> simp only [gIsE] at ez <;> cases ez
  obtain ⟨B2, C, T, hE⟩ := exAt_of R1.sub r1
  rw [hK] at T hE
  have eB : B2 = B := by
    have z := T.nb.symm.trans hb1
    cases z
    rfl
  subst eB
  exact ⟨v, .ref C', C, .ref C', _, rfl, .own C', hE, kit_own T T' hb2 hnb, kz _ H1 G1 e1 R1 (.bl _)⟩
theorem pd_isB (b : Bk X.K X.mg) (ha : PE X e (lift p w)) (hmi : X.mg "isinstance" = none) (hK : p.K = X.K := by rfl) (hgi : Gl X "isinstance" := by rfl) (hg : Gl X "BookError" := by rfl)
    (hs : starEach (e :: [.Name "BookError" pt]) X.env = (false, eval e X.env) :: starEach [.Name "BookError" pt] X.env := by rfl) (hs2 : starEach [.Name "BookError" pt] X.env = (false, eval (.Name "BookError" pt) X.env) :: starEach [] X.env := by rfl)
    (hpl : (backTo pos (starEach [.Name "BookError" pt] X.env)).any (·.1) = false := by rfl) : PE X (.Call (.Name "isinstance" pf) [e, .Name "BookError" pt] [] pos) (lift p (wG (gIsA true) w)) := by
  obtain ⟨B, hb1, hb2, hb3, hb4⟩ := b.ex
  have hx : PE X (.Name "BookError" pt) (tC (.ref B)) := pe_glob (u := .ref B) hg hb4 rfl (by decide)
  refine PE.imp (pe_callB call_isE hgi hmi (by decide +kernel) (pa_cons ha (pa_cons hx pa_nil hs2) hs) (by decide) (by decide) hs hpl) fun σ H Q ⟨G, s, R, k⟩ => ⟨G, s, R, w.mono _ _ _ (fun d s1 k1 v H1 G1 e1 R1 r1 => ?_) k⟩
  obtain ⟨z, ez, kz⟩ := get_of k1
  cases d <;> simp only [gIsA] at ez <;> cases ez
  obtain ⟨B2, C, T, hE⟩ := exAt_of R1.sub r1
  rw [hK] at T hE
  have eB : B2 = B := by
    have z := T.nb.symm.trans hb1
    cases z
    rfl
  subst eB
  exact ⟨v, .ref B2, C, .ref B2, _, rfl, .own B2, hE, kit_book T hb2 hb3, kz _ H1 G1 e1 R1 (.bl _)⟩
theorem pd_isV (ha : PE X e (lift p w)) (hmi : X.mg "isinstance" = none) (hmx : X.mg "ValueError" = none) (hK : p.K = X.K := by rfl) (hgi : Gl X "isinstance" := by rfl) (hg : Gl X "ValueError" := by rfl)
    (hs : starEach (e :: [.Name "ValueError" pt]) X.env = (false, eval e X.env) :: starEach [.Name "ValueError" pt] X.env := by rfl) (hs2 : starEach [.Name "ValueError" pt] X.env = (false, eval (.Name "ValueError" pt) X.env) :: starEach [] X.env := by rfl)
    (hpl : (backTo pos (starEach [.Name "ValueError" pt] X.env)).any (·.1) = false := by rfl) : PE X (.Call (.Name "isinstance" pf) [e, .Name "ValueError" pt] [] pos) (lift p (wG (gIsA true) w)) := by
  have hx : PE X (.Name "ValueError" pt) (tC (.ty "ValueError")) := pe_bltn (u := .type "ValueError") hg hmx (by decide +kernel) rfl (by decide) (by decide)
  refine PE.imp (pe_callB call_isE hgi hmi (by decide +kernel) (pa_cons ha (pa_cons hx pa_nil hs2) hs) (by decide) (by decide) hs hpl) fun σ H Q ⟨G, s, R, k⟩ => ⟨G, s, R, w.mono _ _ _ (fun d s1 k1 v H1 G1 e1 R1 r1 => ?_) k⟩
  obtain ⟨z, ez, kz⟩ := get_of k1
  cases d <;> simp only [gIsA] at ez <;> cases ez
  obtain ⟨B2, C, T, hE⟩ := exAt_of R1.sub r1
  rw [hK] at T hE
  exact ⟨v, .ty "ValueError", C, .type "ValueError", _, rfl, .ty _, hE, kit_ve T, kz _ H1 G1 e1 R1 (.bl _)⟩
theorem pd_isT {x1} {p2 p3 p4 : Pos} (ha : PE X e (lift p w)) (hmi : X.mg "isinstance" = none) (hmx : X.mg "LookupError" = none) (hmy : X.mg "RuntimeError" = none) (hK : p.K = X.K := by rfl) (hgi : Gl X "isinstance" := by rfl) (hg : Gl X "LookupError" := by rfl) (hg2 : Gl X "RuntimeError" := by rfl)
    (hs : starEach (e :: [.Tuple [.Name "LookupError" p2, .Name "RuntimeError" p3] x1 p4]) X.env = (false, eval e X.env) :: starEach [.Tuple [.Name "LookupError" p2, .Name "RuntimeError" p3] x1 p4] X.env := by rfl)
    (hs2 : starEach [.Tuple [.Name "LookupError" p2, .Name "RuntimeError" p3] x1 p4] X.env = (false, eval (.Tuple [.Name "LookupError" p2, .Name "RuntimeError" p3] x1 p4) X.env) :: starEach [] X.env := by rfl)
    (hs3 : starEach [.Name "LookupError" p2, .Name "RuntimeError" p3] X.env = (false, eval (.Name "LookupError" p2) X.env) :: starEach [.Name "RuntimeError" p3] X.env := by rfl) (hs4 : starEach [.Name "RuntimeError" p3] X.env = (false, eval (.Name "RuntimeError" p3) X.env) :: starEach [] X.env := by rfl)
    (hpl : (backTo pos (starEach [.Tuple [.Name "LookupError" p2, .Name "RuntimeError" p3] x1 p4] X.env)).any (·.1) = false := by rfl) :
    PE X (.Call (.Name "isinstance" pf) [e, .Tuple [.Name "LookupError" p2, .Name "RuntimeError" p3] x1 p4] [] pos) (lift p (wG (gIsA false) w)) := by
  have hx : PE X (.Name "LookupError" p2) (tC (.ty "LookupError")) := pe_bltn (u := .type "LookupError") hg hmx (by decide +kernel) rfl (by decide) (by decide)
  have hy : PE X (.Name "RuntimeError" p3) (tC (.ty "RuntimeError")) := pe_bltn (u := .type "RuntimeError") hg2 hmy (by decide +kernel) rfl (by decide) (by decide)
  refine PE.imp (pe_callB call_isET hgi hmi (by decide +kernel) (pa_cons ha (pa_cons (pe_tup (pa_cons hx (pa_cons hy pa_nil hs4) hs3)) pa_nil hs2) hs) (by decide) (by decide) hs hpl) fun σ H Q ⟨G, s, R, k⟩ => ⟨G, s, R, w.mono _ _ _ (fun d s1 k1 v H1 G1 e1 R1 r1 => ?_) k⟩
  obtain ⟨z, ez, kz⟩ := get_of k1
  cases d <;> simp only [gIsA] at ez <;> cases ez
  refine ⟨(by show 2 ≤ sizeLine; decide), fun q hq => ?_⟩
  have sm : Same G1 (L2.upd G1 q (.tup [.ty "LookupError", .ty "RuntimeError"])) := Same.upd (R1.sub.none hq)
  have R2 := R1.alloc (o := .tup [.ty "LookupError", .ty "RuntimeError"]) hq
  obtain ⟨B2, C, T, hE⟩ := exAt_of R2.sub (r1.mono sm)
  rw [hK] at T hE
  exact ⟨v, q, _, C, [.type "LookupError", .type "RuntimeError"], _, rfl, upd_same, .cons (.ty _) (.cons (.ty _) .nil), hE, kit_lr T, kz _ _ _ (e1.trans sm) R2 (.bl _)⟩
end
end DI
namespace DI
open PySem PySem.Spec PyProof.Rows L2 EX
section
variable {X : Cx} {p : Pl} {a b e : Expr} {es : List Expr} {pf pt pos : Pos} {w wa wb : W}
def gRep : D → D → Option D
  | .lst ds, .int k => some (.lst (List.replicate k.toNat ds).flatten)
  | _, _ => none
def cRep : D → D → Prop
  | .lst ds, .int k => -(2 ^ 63) ≤ k ∧ k < 2 ^ 63 ∧ ds.length * k.toNat ≤ sizeLine
  | _, _ => False
theorem rep_rp {K : PySem.W.Frag} {dr : Option Addr} {G : Hp} {xs : List V} {ds : List D} (h : DI.RpA K dr G xs ds) : ∀ n, DI.RpA K dr G (List.replicate n xs).flatten (List.replicate n ds).flatten
  | 0 => .nil
  | n + 1 => by
    rw [List.replicate_succ, List.replicate_succ, List.flatten_cons, List.flatten_cons]
    exact h.append (rep_rp h n)
theorem pd_rep (ha : PE X a (lift p wa)) (hb : PE X b (lift p wb)) : PE X (.BinOp a .Mult b pos) (lift p (wBin cRep gRep wa wb)) := PE.imp (pe_op op_rep ha hb) (op_lift fun G H x y d1 d2 d Q hs r1 r2 hc hg k1 k2 => by
  cases d1 <;> cases d2 <;> simp only [gRep] at hg <;> cases hg
  rename_i ds kk
  obtain ⟨h1, h2, h3⟩ := hc
  obtain ⟨q, xs, rfl, hq, ra⟩ := r1
  cases rb_int r2
  refine ⟨q, _, xs, rfl, rfl, hq, h1, h2, by rw [ra.length]; exact h3, fun z hz => ?_⟩
  have sm : Same G (L2.upd G z (.lst (List.replicate kk.toNat xs).flatten)) := Same.upd (hs.none hz)
  exact k2 z _ hz (.lst upd_same ((rep_rp ra _).mono sm)))
def enumD (ds : List D) : List D := ds.zipIdx.map fun x => .tup [.int (x.2 : Int), x.1]
theorem enumD_get {ds : List D} {i : Nat} {d : D} (h : (enumD ds)[i]? = some d) : ∃ y, ds[i]? = some y ∧ d = .tup [.int (i : Int), y] := by
  unfold enumD at h
  rw [List.getElem?_map, List.getElem?_zipIdx] at h
  cases q : ds[i]? with
  | none => rw [q] at h; cases h
  | some y =>
    rw [q] at h
    cases h
    exact ⟨y, rfl, by simp⟩
theorem src_enum {q : Addr} {xs : List V} {ds : List D} {G : Hp} (h : G q = some (.lst xs)) (k : p.RpA G xs ds) : Src p (Ite X.K q) (enumD ds) G := fun i H' G' e hs => by
  have h' : H' q = some (.lst xs) := hs _ _ (e _ _ h)
  refine ⟨fun d hd => ?_, fun hi => ⟨xs, SqL.of h', by rw [k.length]; simpa [enumD] using hi⟩⟩
  obtain ⟨y, hy, rfl⟩ := enumD_get hd
  obtain ⟨x, hx, rx⟩ := k.get hy
  refine ⟨⟨xs, x, SqL.of h', hx⟩, fun v H'' ⟨T, x', e1, e2, e3, e4⟩ => .inr ⟨T, _, e2, e3, e1, ?_⟩⟩
  have e5 := e4 xs (SqL.of h')
  rw [hx] at e5
  cases e5
  subst e1
  have sm : Same G' (L2.upd G' T (.tup [.int (i : Int), x])) := Same.upd (hs.none e2)
  exact .tup (.inl (.inl upd_same)) (.cons (.int _) (.cons ((rx.mono e).mono sm) .nil))
def wiE (w : W) : WI := ⟨fun s P => w.f s fun d s1 => get (lstD d) fun ds => P (enumD ds) s1, fun s P P' h q => w.mono _ _ _ (fun d s1 q => get_mono (fun ds q => h _ _ q) q) q⟩
theorem id_enum {elts : List Expr} {kk : Nat} {tpos : Pos} (h : PE X e (lift p w)) (hm : X.mg "enumerate" = none) (hK : p.K = X.K := by rfl) (hg : Gl X "enumerate" := by rfl) (hs : starEach [e] X.env = [(false, eval e X.env)] := by rfl) :
    PI X (.Tuple elts kk tpos) (.Call (.Name "enumerate" pf) [e] [] pos) (liftI p (wiE w)) :=
  PI.imp (pi_enum hg hm (pa_cons h pa_nil (by rw [hs]; rfl)) hs) fun σ H Rr ⟨G, s, R, k⟩ => ⟨G, s, R, w.mono _ _ _ (fun d s1 k1 x H1 G1 e1 R1 r1 => by
    obtain ⟨ds, ed, k2⟩ := get_of k1
    cases d <;> cases ed
    cases r1 with
    | lst h k => exact ⟨_, _, rfl, SqL.of (R1.sub _ _ h), k2 _ H1 G1 e1 R1 (src_enum h k)⟩) k⟩
end
end DI
namespace DI
open PySem PySem.Spec PyProof.Rows L2 EX
mutual
def plainX : D → Bool
  | .drw => false
  | .exc _ _ _ => false
  | .lst xs => plainXA xs
  | .tup xs => plainXA xs
  | _ => true
def plainXA : List D → Bool
  | [] => true
  | x :: xs => plainX x && plainXA xs
end
section
variable {X : Cx} {pins : List (Addr × Obj)} {σ : L2.St} {H G : Hp} {s : Shared} {dr : Option Addr}
theorem one_ne (I : L2.Inv X pins σ H s) (hs : Sub G H) (o : One X.K G) {a : Addr} {xs : List V} (h : H a = some (.lst xs)) : a ≠ sysModules := fun e => by
  subst e
  obtain ⟨o, hc, h1 | h1⟩ := o
  · rw [hs _ _ h1] at h
    cases h
  · have z : ObjOk X.prog X.w H s.heap sysModules (.lst xs) := I.hok _ _ h
    obtain ⟨_, its, n, _, g⟩ := z
    have y := I.kIn _ _ h1
    rw [y] at g
    cases g
    exact hc _ _ rfl
theorem paired_nil {α β : Type} {r : α → β → Prop} {ys : List β} (h : Paired r [] ys) : ys = [] := by
  cases h
  rfl
theorem pairs_nil {P : Program} {w : World} {es : List DictEntry} (h : Pairs (mixKind P w) es []) : es = [] := by
  cases h
  rfl
mutual
theorem rd_of (I : L2.Inv X pins σ H s) (hs : Sub G H) : ∀ {v : V} {d : D} {u : Value}, DI.Rp X.K dr G v d → plainX d = true → L2.RelV v u → ∃ as, Reads s.heap u (toPy d) as ∧ (One X.K G → sysModules ∉ as)
  | _, _, _, .non, _, r => by cases r; simp only [toPy]; exact ⟨[], .none, fun _ => List.not_mem_nil⟩
  | _, _, _, .bl b, _, r => by cases r; simp only [toPy]; exact ⟨[], .bool b, fun _ => List.not_mem_nil⟩
  | _, _, _, .int i, _, r => by obtain ⟨t, rfl⟩ := r; simp only [toPy]; exact ⟨[], .int i t, fun _ => List.not_mem_nil⟩
  | _, _, _, .str x, _, r => by obtain ⟨t, rfl⟩ := r; simp only [toPy]; exact ⟨[], .str x t, fun _ => List.not_mem_nil⟩
  | _, _, _, .lst h ha, q, r => by
    cases r
    simp only [toPy]
    have h' := hs _ _ h
    have z : ObjOk X.prog X.w H s.heap _ (.lst _) := I.hok _ _ h'
    obtain ⟨_, its, n, rv, g⟩ := z
    obtain ⟨as, h1, h2⟩ := rdA_of I hs ha (by simpa only [plainX] using q) rv
    exact ⟨_ :: as, .list g rfl rfl (by simpa using h1), fun o => by
      intro m
      cases List.mem_cons.mp m with
      | inl m => exact one_ne I hs o h' m.symm
      | inr m => exact h2 o m⟩
  | _, _, _, .tup h ha, q, r => by
    cases r
    simp only [toPy]
    obtain ⟨its, rv, ⟨o, g, hc, n, hd⟩, _⟩ := I.tuple (Same.tup hs h)
    obtain ⟨as, h1, h2⟩ := rdA_of I hs ha (by simpa only [plainX] using q) rv
    exact ⟨as, .tuple g hc hd (by simpa using h1), h2⟩
  | _, _, _, .drw _ _, q, _ => by simp [plainX] at q
  | _, _, _, .dic0 h o, _, r => by
    cases r
    simp only [toPy]
    have z := I.hok _ _ (hs _ _ h)
    obtain ⟨_, ns, vs, kv, o', es, ep, g, ex, hd, _, pr, _⟩ := L2.dk_of I.hok (hs _ _ h)
    have e1 := paired_nil kv
    subst e1
    have e2 := pairs_nil pr
    refine ⟨_ :: ([] ++ []), .dict g ex.1 hd (by rw [e2]; exact .nil) (by rw [e2]; exact .nil), fun _ => ?_⟩
    intro m
    have m' := List.mem_singleton.mp m
    rw [← m'] at ns
    simp at ns
  | _, _, _, .exc _ _ _ _ _ _ _ _, q, _ => by simp [plainX] at q
theorem rdA_of (I : L2.Inv X pins σ H s) (hs : Sub G H) : ∀ {vs : List V} {ds : List D} {us : List Value}, DI.RpA X.K dr G vs ds → plainXA ds = true → Vals vs us → ∃ as, ReadsAll s.heap us (toPyA ds) as ∧ (One X.K G → sysModules ∉ as)
  | _, _, _, .nil, _, .nil => by simp only [toPyA]; exact ⟨[], .nil, fun _ => List.not_mem_nil⟩
  | _, _, _, .cons r t, q, .cons ru tu => by
    simp only [plainXA, Bool.and_eq_true] at q
    simp only [toPyA]
    obtain ⟨as, h1, h2⟩ := rd_of I hs r q.1 ru
    obtain ⟨bs, h3, h4⟩ := rdA_of I hs t q.2 tu
    exact ⟨as ++ bs, .cons h1 h3, fun o m => (List.mem_append.mp m).elim (h2 o) (h4 o)⟩
end
mutual
theorem one_of {K : PySem.W.Frag} : ∀ {v : V} {d : D}, DI.Rp K dr G v d → plainX d = true → (toPy d).hasDict = true → One K G
  | _, _, .non, _, h => by simp [toPy, PyData.hasDict] at h
  | _, _, .bl b, _, h => by simp [toPy, PyData.hasDict] at h
  | _, _, .int i, _, h => by simp [toPy, PyData.hasDict] at h
  | _, _, .str x, _, h => by simp [toPy, PyData.hasDict] at h
  | _, _, .lst _ ha, q, h => oneA_of ha (by simpa only [plainX] using q) (by simpa only [toPy, PyData.hasDict] using h)
  | _, _, .tup _ ha, q, h => oneA_of ha (by simpa only [plainX] using q) (by simpa only [toPy, PyData.hasDict] using h)
  | _, _, .drw _ _, q, _ => by simp [plainX] at q
  | _, _, .dic0 _ o, _, _ => o
  | _, _, .exc _ _ _ _ _ _ _ _, q, _ => by simp [plainX] at q
theorem oneA_of {K : PySem.W.Frag} : ∀ {vs : List V} {ds : List D}, DI.RpA K dr G vs ds → plainXA ds = true → PyData.hasDictAll (toPyA ds) = true → One K G
  | _, _, .nil, _, h => by simp [toPyA, PyData.hasDictAll] at h
  | _, _, .cons r t, q, h => by
    simp only [plainXA, Bool.and_eq_true] at q
    simp only [toPyA, PyData.hasDictAll, Bool.or_eq_true] at h
    exact h.elim (one_of r q.1) (oneA_of t q.2)
end
def rReprX (K : PySem.W.Frag) : List V → Hp → VK → Prop := fun vs H Q => ∃ (p : Pl) (G : Hp) (v : V) (d : D), p.K = K ∧ vs = [v] ∧ Sub G H ∧ RpB p H G v d ∧ plainX d = true ∧ (toPy d).showable = true ∧ (toPy d).depth ≤ 60 ∧ (toPy d).shown.length ≤ sizeLine ∧ Q (.str (toPy d).shown) H
end
section
variable {X : Cx} {p : Pl}
theorem call_reprX {k : Nat} (hr : Room k X.A) (hga : X.A.guards = some []) : CallR X (.builtin "repr") (rReprX X.K) := by
  intro pins st σ H xs us Q I r h
  obtain ⟨p, G, v, d, hK, rfl, hs, rb, hpl, hsh, hdp, hz, q⟩ := h
  obtain ⟨u, rfl, rv⟩ := vals1 r
  have hun := hr.un
  cases d with
  | non =>
    cases rb_non rb
    cases rv
    simp only [toPy, PyData.shown] at q
    exact PySem.P.repr_of_none ⟨.str _, H, I.tok _, ⟨_, rfl⟩, q⟩
  | bl b =>
    cases rb_bl rb
    cases rv
    simp only [toPy, PyData.shown] at q
    exact PySem.P.repr_of_bool ⟨.str _, H, I.tok _, ⟨_, rfl⟩, q⟩
  | int i =>
    cases rb_int rb
    obtain ⟨tk, rfl⟩ := rv
    simp only [toPy, PyData.shown] at q
    exact PySem.P.repr_of_int (by simpa [toPy, PyData.showable] using hsh) ⟨.str _, H, I.tok _, ⟨_, rfl⟩, q⟩
  | str z =>
    cases rb_str rb
    obtain ⟨tk, rfl⟩ := rv
    simp only [toPy, PyData.shown] at q hz
    exact PySem.P.repr_of_str ⟨.str _, H, I.tok _, ⟨_, rfl⟩, q⟩ hz
  | lst ds =>
    obtain ⟨a, xs, rfl, h, ra⟩ := rb
    cases rv
    have ra' : DI.RpA X.K p.dr G xs ds := by
      have z : DI.RpA p.K p.dr G xs ds := ra
      rw [hK] at z
      exact z
    have z : ObjOk X.prog X.w H st.heap a (.lst xs) := I.hok a _ h
    obtain ⟨_, its, n, rv, g⟩ := z
    obtain ⟨as, h1, h2⟩ := rdA_of I hs ra' (by simpa only [plainX] using hpl) rv
    have hrd : Reads st.heap (.ref a) (toPy (.lst ds)) (a :: as) := by
      simp only [toPy]
      exact .list g rfl rfl (by simpa using h1)
    refine PySem.repr_of_reads' hrd hsh (fun hd => ?_) hga (by omega) (fun _ _ z => z) (fun h' u' tk hk => ⟨.str _, H, I.kept (t' := tk) hk, ⟨_, rfl⟩, q⟩) hz
    have o : One X.K G := oneA_of ra' (by simpa only [plainX] using hpl) (by simpa only [toPy, PyData.hasDict] using hd)
    intro m
    cases List.mem_cons.mp m with
    | inl m => exact one_ne I hs o h m.symm
    | inr m => exact h2 o m
  | tup ds =>
    have rb' : DI.Rp X.K p.dr G v (.tup ds) := by
      have z : DI.Rp p.K p.dr G v (.tup ds) := rb
      rw [hK] at z
      exact z
    obtain ⟨as, h1, h2⟩ := rd_of I hs rb' hpl rv
    have hh := one_of rb' hpl
    cases rb'
    cases rv
    exact PySem.repr_of_reads' h1 hsh (fun hd => h2 (hh hd)) hga (by omega) (fun _ _ z => z) (fun h' u' tk hk => ⟨.str _, H, I.kept (t' := tk) hk, ⟨_, rfl⟩, q⟩) hz
  | dic0 =>
    have rb' : DI.Rp X.K p.dr G v .dic0 := by
      have z : DI.Rp p.K p.dr G v .dic0 := rb
      rw [hK] at z
      exact z
    obtain ⟨as, h1, h2⟩ := rd_of I hs rb' hpl rv
    have hh := one_of rb' hpl
    cases rb'
    cases rv
    exact PySem.repr_of_reads' h1 hsh (fun hd => h2 (hh hd)) hga (by omega) (fun _ _ z => z) (fun h' u' tk hk => ⟨.str _, H, I.kept (t' := tk) hk, ⟨_, rfl⟩, q⟩) hz
  | drw => simp [plainX] at hpl
  | exc nm fs ds => simp [plainX] at hpl
def cReprX : List D → Prop
  | [d] => plainX d = true ∧ (toPy d).showable = true ∧ (toPy d).depth ≤ 60 ∧ (toPy d).shown.length ≤ sizeLine
  | _ => False
theorem bt_reprX {m : Bool} {k : Nat} (hr : Room k X.A) (hga : X.A.guards = some []) (hK : p.K = X.K := by rfl) : BtR X p "repr" [m] cReprX gRepr := ⟨.inl ⟨_, _, by decide +kernel, call_reprX hr hga, fun G H vs ds d Q hs r hc hg k1 k2 => by
  obtain ⟨v, d0, rfl, rfl, rb⟩ := rm1 hs r
  cases hg
  obtain ⟨h1, h2, h4, h5⟩ := hc
  exact ⟨p, G, v, d0, hK, rfl, hs, rb, h1, h2, h4, h5, k1 _ (.str _)⟩⟩⟩
end
end DI
namespace DI
open PySem PySem.Spec PyProof.Rows L2
section
variable {P : Program} {w : World} {K : PySem.W.Frag} {mg mb : Str → Option Value} {k : Nat} {fa a : Addr} {fd : FuncData} {x : Str} {sp : Sp} {s₁ : Shared} {vs : List Value} {ns : List Int}
theorem lawG1_core {H : Hp} (KX : K.In s₁.heap) (hns : s₁.heap.Ns mainGlobals mg) (hb : s₁.heap.Ns builtinsNs mb) (hbb : ∀ y : Str, y ≠ Str.ofString "__name__" → mb y = bootBuiltins y) (hlim : s₁.heap.NoLimit) (hg : s₁.gens = #[])
    (hr : Room k callerA) (F : ∀ base : Heap, K.In base → base.Ns mainGlobals mg → FnG P w K mg base k fa fd [x] sp)
    (hbind : ∀ (s : Shared) (u : Value), BindsTo s fd ⟨[u], []⟩ [(x, u)]) (hO : ∀ b, H b = none ∨ ∃ ob u, H b = some (.frz ob u) ∧ s₁.heap.get? b = some ob) (hok : HOk P w H s₁.heap)
    (hA : ∀ b, H b ≠ none → b = sysModules ∨ ∃ o its n, s₁.heap.get? b = some o ∧ o.data = .seq its n) (hK : ∀ b, H b ≠ none → K.lookup b = none)
    (hsp : sp [.ref a] H (fun v _ => v = .bl true) E0) :
    codeAny (model P w) callerA (.call (.ref fa) ⟨[.ref a], []⟩) (fun r s' => r = .ok (.ret (.bool true)) ∧ OldK s₁.heap s'.heap ∧ s'.os = s₁.os ∧ AllBare s'.gens) s₁ := by
  have free : ∀ {b : Addr} {o : Obj}, b ≠ sysModules → s₁.heap.get? b = some o → (∀ its n, o.data ≠ .seq its n) → H b = none := fun {b o} hb1 e d => by
    cases q : H b with
    | none => rfl
    | some u =>
      rcases hA b (by rw [q]; exact fun z => nomatch z) with z | ⟨o', its, n, e', d'⟩
      · exact absurd z hb1
      · rw [e] at e'
        cases e'
        exact absurd d' (d _ _)
  have names : ∀ {b : Addr} {m : Str → Option Value}, b ≠ sysModules → s₁.heap.Ns b m → (hidT s₁.heap H).Ns b m := fun {b m} hb1 ⟨o, es, ep, e, d, r⟩ =>
    ⟨o, es, ep, hidT_get e (free hb1 e fun its n z => by rw [d] at z; cases z), d, r⟩
  have inK : K.In (hidT s₁.heap H) := fun b o e => hidT_get (KX b o e) (by
    cases q : H b with
    | none => rfl
    | some u =>
      have ne : H b ≠ none := by rw [q]; exact fun z => nomatch z
      have z := hK b ne
      have e' : K.lookup b = some o := e
      rw [z] at e'
      cases e')
  have M : L2.Mod K mg (hidT s₁.heap H) := ⟨inK, names (by decide) hns, ⟨mb, names (by decide) hb, hbb⟩, by
    obtain ⟨mc, h1, h2⟩ := hlim
    exact ⟨mc, names (by decide) h1, h2⟩⟩
  have env : Env0 P w K mg (hidT s₁.heap H) callerA [] s₁ H := ⟨rfl, M, fun b o e => of_hidT e, Nat.le_of_eq (hidT_size s₁.heap H), trivial, fun b h => absurd h List.not_mem_nil, hok, AllBare.of_eq hg⟩
  refine codeAny_mono ((F _ inK (names (by decide) hns)).go callerA [] s₁ H ⟨[.ref a], []⟩ [.ref a] [.ref a] _ E0 hr rfl env (hbind s₁ _) (.cons rfl .nil) hsp) fun r s' h => ?_
  cases r with
  | error e => exact (show False from h).elim
  | ok fl =>
    cases fl with
    | next => exact (show False from h).elim
    | brk => exact (show False from h).elim
    | cont => exact (show False from h).elim
    | ret u =>
      obtain ⟨v, H', os, bare, un, hok', rv, q⟩ := h
      subst q
      cases rv
      refine ⟨rfl, OldK.of_keep fun b o e => ?_, os, bare⟩
      rcases hO b with z | ⟨ob, u, z, ge⟩
      · exact un.keep b o e z (fun z => absurd z List.not_mem_nil) List.not_mem_nil
      · have z2 := un.frzs b ob _ z
        have y : ObjOk P w H' s'.heap b (.frz ob u) := hok' b _ z2
        rw [ge] at e
        cases e
        exact y.1
theorem lawG1 (KX : K.In s₁.heap) (hns : s₁.heap.Ns mainGlobals mg) (hb : s₁.heap.Ns builtinsNs mb) (hbb : ∀ y : Str, y ≠ Str.ofString "__name__" → mb y = bootBuiltins y) (hlim : s₁.heap.NoLimit) (hsys : ∃ mm, s₁.heap.Ns sysModules mm) (hg : s₁.gens = #[])
    (ha : s₁.heap.get? a = some { cls := Value.type "list", data := Data.seq vs.toArray }) (hi : IntsAre vs ns) (hl : ns.length ≤ sizeLine) (hr : Room k callerA) (F : ∀ base : Heap, K.In base → base.Ns mainGlobals mg → FnG P w K mg base k fa fd [x] sp)
    (hbind : ∀ (s : Shared) (u : Value), BindsTo s fd ⟨[u], []⟩ [(x, u)]) (hsp : ∀ H, (∀ b, b ≠ sysModules → ∀ o, H b = some o → ∃ ob u, o = .frz ob u) → (∀ b o, H b = some o → ∃ ob u, o = .frz ob u) → SqL K H a (ns.map V.int) → One K H → sp [.ref a] H (fun v _ => v = .bl true) E0) :
    codeAny (model P w) callerA (.call (.ref fa) ⟨[.ref a], []⟩) (fun r s' => r = .ok (.ret (.bool true)) ∧ OldK s₁.heap s'.heap ∧ s'.os = s₁.os ∧ AllBare s'.gens) s₁ := by
  have rv := vals_ints hi
  have hz : vs.length ≤ sizeLine := by rw [← rv.length, List.length_map]; exact hl
  obtain ⟨mm, o1, es, ep, g1, d1, _⟩ := hsys
  have nd : ∀ its n, o1.data ≠ .seq its n := fun its n z => by rw [d1] at z; cases z
  have na : a ≠ sysModules := fun e => by
    subst e
    rw [g1] at ha
    cases ha
    cases d1
  let ya : HO := .frz { cls := Value.type "list", data := Data.seq vs.toArray } (.lst (ns.map V.int))
  let y1 : HO := .frz o1 (.ext fun _ => True)
  let H : Hp := fun b => if b = a then (match K.lookup a with | none => some ya | some _ => none) else if b = sysModules then (match K.lookup sysModules with | none => some y1 | some _ => none) else none
  have Ha : H a = (match K.lookup a with | none => some ya | some _ => none) := if_pos rfl
  have H1 : H sysModules = (match K.lookup sysModules with | none => some y1 | some _ => none) := by
    show (if sysModules = a then _ else _) = _
    rw [if_neg na.symm, if_pos rfl]
  have HN : ∀ b, b ≠ a → b ≠ sysModules → H b = none := fun b h1 h2 => by
    show (if b = a then _ else _) = _
    rw [if_neg h1, if_neg h2]
  have cs : ∀ b o, H b = some o → (b = a ∧ K.lookup a = none ∧ o = ya) ∨ (b = sysModules ∧ K.lookup sysModules = none ∧ o = y1) := fun b o e => by
    by_cases h1 : b = a
    · subst h1
      rw [Ha] at e
      cases q : K.lookup b with
      | none =>
        rw [q] at e
        cases e
        exact .inl ⟨rfl, rfl, rfl⟩
      | some z =>
        rw [q] at e
        cases e
    · by_cases h2 : b = sysModules
      · subst h2
        rw [H1] at e
        cases q : K.lookup sysModules with
        | none =>
          rw [q] at e
          cases e
          exact .inr ⟨rfl, rfl, rfl⟩
        | some z =>
          rw [q] at e
          cases e
      · rw [HN b h1 h2] at e
        cases e
  refine lawG1_core (H := H) KX hns hb hbb hlim hg hr F hbind (fun b => ?_) (fun b o z => ?_) (fun b z => ?_) (fun b z => ?_) (hsp H (fun b _ o e => ?_) (fun b o e => ?_) ?_ ?_)
  · cases q : H b with
    | none => exact .inl rfl
    | some o =>
      rcases cs b o q with ⟨rfl, _, rfl⟩ | ⟨rfl, _, rfl⟩
      · exact .inr ⟨_, _, rfl, ha⟩
      · exact .inr ⟨_, _, rfl, g1⟩
  · rcases cs b o z with ⟨rfl, _, rfl⟩ | ⟨rfl, _, rfl⟩
    · exact ⟨ha, by rw [List.length_map]; exact hl, vs, 0, rv, ha⟩
    · exact ⟨g1, trivial, ⟨_, g1⟩, fun _ _ _ _ => trivial⟩
  · cases q : H b with
    | none => exact absurd q z
    | some o =>
      rcases cs b o q with ⟨rfl, _, rfl⟩ | ⟨rfl, _, rfl⟩
      · exact .inr ⟨_, _, _, ha, rfl⟩
      · exact .inl rfl
  · cases q : H b with
    | none => exact absurd q z
    | some o =>
      rcases cs b o q with ⟨rfl, h, rfl⟩ | ⟨rfl, h, rfl⟩
      · exact h
      · exact h
  · rcases cs b o e with ⟨rfl, h, rfl⟩ | ⟨rfl, h, rfl⟩
    · exact ⟨_, _, rfl⟩
    · exact ⟨_, _, rfl⟩
  · rcases cs b o e with ⟨rfl, h, rfl⟩ | ⟨rfl, h, rfl⟩
    · exact ⟨_, _, rfl⟩
    · exact ⟨_, _, rfl⟩
  · cases q : K.lookup a with
    | none => exact .inl (.inr ⟨{ cls := Value.type "list", data := Data.seq vs.toArray }, by rw [Ha, q]⟩)
    | some o =>
      have eo := (KX a o q).symm.trans ha
      cases eo
      exact .inr ⟨_, vs.toArray, _, q, rfl, rfl, rfl, by simpa using hz, by simpa using rv⟩
  · cases q : K.lookup sysModules with
    | none => exact ⟨o1, nd, .inl (by rw [H1, q])⟩
    | some o =>
      have eo := (KX sysModules o q).symm.trans g1
      cases eo
      exact ⟨_, nd, .inr q⟩
theorem walkG1 {l : PySem.W.OpenLaw} {n k : Nat} {q : Program} {loose : List Str} {XP : (Str → Option Value) → Heap → Prop} {YP : World → Heap → Prop} {d : DefRec} {K : Params → PySem.W.Frag} {sp : World → Sp} {x : Str} (hn : l.most = some n) (hn2 : n ≤ sizeLine) (hdf : d.params.defaults = []) (hq : PyProof.Rows.importsNone q = true) (hr : Room k callerA)
    (hY : ∀ (w : World) (h : Heap), YP w h → (K w.params).In h)
    (F : ∀ (w : World) (mg : Str → Option Value) (fa : Addr) (h : Heap), (K w.params).In h → h.Ns mainGlobals mg → mg d.name = some (.ref fa) →
      ∃ fd : FuncData, (∀ (s : Shared) (u : Value), BindsTo s fd ⟨[u], []⟩ [(x, u)]) ∧ ∀ base : Heap, (K w.params).In base → base.Ns mainGlobals mg → FnG l.prog w (K w.params) mg base k fa fd [x] (sp w))
    (hsp : ∀ (w : World) (H : Hp) (a : Addr) (ns : List Int), ns.length ≤ n → (∀ b o, H b = some o → ∃ ob u, o = .frz ob u) → SqL (K w.params) H a (ns.map V.int) → One (K w.params) H → sp w [.ref a] H (fun v _ => v = .bl true) E0) :
    PySem.W.WalkO q loose XP YP l.row.toRowW d [] (fun f vs => PySem.call f vs) :=
  Att.attach_call hn hdf fun w s₀ s₁ mg mb fa o pm cd doc a vs ns G Y ho hd hcd hmg hobj hints hlen hg => by
    obtain ⟨fd, h1, h2⟩ := F w mg fa s₁.heap (hY w s₁.heap Y) G.T.g hmg
    have sr := G.T.seer hq
    exact lawG1 (hY w s₁.heap Y) G.T.g G.T.b G.T.builtins G.T.nolimit (by obtain ⟨mm, h, _⟩ := sr.mods; exact ⟨mm, h⟩) hg hobj hints (Nat.le_trans hlen hn2) hr h2 h1 fun H _ hO hS ho => hsp w H a ns hlen hO hS ho
end
end DI
namespace K01
open PySem PySem.Spec PyProof.Rows L2 DI
def top (i : Nat) : Stmt := PySem.Challenge.pw_bookpack_k01_error_classes.main.body.getD i (.Pass ⟨0, 0, 0, 0⟩)
structure Txt (K : PySem.W.Frag) (mg : Str → Option Value) : Prop where
  isinstance : mg "isinstance" = none
  len : mg "len" = none
  int : mg "int" = none
  range : mg "range" = none
  min : mg "min" = none
  repr : mg "repr" = none
  enumerate : mg "enumerate" = none
  ValueError : mg "ValueError" = none
  LookupError : mg "LookupError" = none
  RuntimeError : mg "RuntimeError" = none
structure Ec (K : PySem.W.Frag) (mg : Str → Option Value) : Prop where
  BadChapter : Cl K mg "BadChapter" ["index"]
  BadToken : Cl K mg "BadToken" ["index"]
  BadKind : Cl K mg "BadKind" ["kind"]
  BadStyle : Cl K mg "BadStyle" ["word"]
  BadLink : Cl K mg "BadLink" ["link"]
  BadNumber : Cl K mg "BadNumber" ["name"]
  BadSpot : Cl K mg "BadSpot" ["number"]
  NoSpot : Cl K mg "NoSpot" ["depth"]
  BadText : Cl K mg "BadText" ["row", "column"]
  BadPatch : Cl K mg "BadPatch" ["part", "number"]
  Misfit : Cl K mg "Misfit" ["index"]
  Conflict : Cl K mg "Conflict" ["place"]
  NoNode : Cl K mg "NoNode" ["gap"]
  TooLong : Cl K mg "TooLong" ["number"]
  BadBranch : Cl K mg "BadBranch" ["side", "number"]
  Clash : Cl K mg "Clash" ["first", "second", "place"]
  BadBook : Cl K mg "BadBook" ["part", "number"]
  NoItem : Cl K mg "NoItem" ["key"]
  NoChapter : Cl K mg "NoChapter" ["key"]
  NotInSlots : Cl K mg "NotInSlots" ["key"]
  NotNeighbors : Cl K mg "NotNeighbors" []
  BadOrder : Cl K mg "BadOrder" ["number"]
  BadNames : Cl K mg "BadNames" ["number"]
  NoMain : Cl K mg "NoMain" []
  TooMany : Cl K mg "TooMany" ["part"]
  Unsound : Cl K mg "Unsound" ["word", "path"]
  Busy : Cl K mg "Busy" []
  NoMark : Cl K mg "NoMark" ["name"]
  BadOctets : Cl K mg "BadOctets" ["index"]
  BadEntry : Cl K mg "BadEntry" ["number"]
  BadArchive : Cl K mg "BadArchive" ["word", "offset"]
  Refused : Cl K mg "Refused" ["word", "path"]
  Unrecoverable : Cl K mg "Unrecoverable" ["word"]
theorem f_wMk {nm : Str} {fs : List Str} {t : WA} {s P} : (wMk nm fs t).f s P = (t.f s fun ds s1 => ds.length = fs.length ∧ P (.exc nm fs ds) s1) := rfl
theorem f_wMkK {nm : Str} {fs : List Str} {t : WA} {s P} : (wMkK nm fs t).f s P = (t.f s fun ds s1 => ds.length = fs.length ∧ P (.exc nm fs ds.reverse) s1) := rfl
theorem f_wAt {f : Str} {w : W} {s P} : (wAt f w).f s P = (w.f s fun d s1 => get (gAt f d) fun z => P z s1) := rfl
theorem f_wG {g : D → Option D} {w : W} {s P} : (wG g w).f s P = (w.f s fun d s1 => get (g d) fun z => P z s1) := rfl
theorem f_wiE {w : W} {s P} : (wiE w).f s P = (w.f s fun d s1 => get (lstD d) fun ds => P (enumD ds) s1) := rfl
theorem f_wDic {i : Nat} {s P} : (wDic i).f s P = (vget s.env i = some .drw ∧ P .dic0 s) := rfl
theorem line1000 : (1000 : Nat) ≤ sizeLine := by decide
theorem line2 {n : Nat} (h : n ≤ 1000) : n ≤ sizeLine := Nat.le_trans h line1000
theorem cm_mod {a b m : Int} (h0 : 0 < m) (h1 : m ≤ 2 ^ 64) : CMul (a % m) b := by
  have h2 := Int.emod_nonneg a (Int.ne_of_gt h0)
  have h3 := Int.emod_lt_of_pos a h0
  exact .inl ⟨by omega, by omega⟩
theorem atI_lt {α : Type} {xs : List α} {i : Int} (h0 : 0 ≤ i) (h1 : i < (xs.length : Int)) : ∃ a, atI xs i = some a ∧ a ∈ xs := by
  have h2 : i.toNat < xs.length := by omega
  refine ⟨xs[i.toNat], ?_, List.getElem_mem h2⟩
  unfold atI ixN
  have e : (if i < 0 then i + (xs.length : Int) else i) = i := if_neg (by omega)
  simp [h0, h1, h2]
  try omega

abbrev hash : Str := "#"
def F__law_next : FT := fNext
def F__law_mixed : FT := fMix
def F3 (g : D → D → D → D) : FT := ⟨fun ds n Q => ∃ w m r, ds = [w, m, r] ∧ Q (g w m r) n, fun ds n P P' h ⟨w, m, r, e, q⟩ => ⟨w, m, r, e, h _ _ q⟩⟩
def madeD (w m r : D) : List D := [.exc "BadChapter" ["index"] [w], .exc "BadToken" ["index"] [w], .exc "BadKind" ["kind"] [w], .exc "BadStyle" ["word"] [w], .exc "BadLink" ["link"] [w], .exc "BadNumber" ["name"] [w], .exc "BadSpot" ["number"] [w], .exc "NoSpot" ["depth"] [w], .exc "BadText" ["row", "column"] [w, m], .exc "BadPatch" ["part", "number"] [w, m], .exc "Misfit" ["index"] [w], .exc "Conflict" ["place"] [w], .exc "NoNode" ["gap"] [w], .exc "TooLong" ["number"] [w], .exc "BadBranch" ["side", "number"] [w, m], .exc "Clash" ["first", "second", "place"] [w, m, r], .exc "BadBook" ["part", "number"] [w, m], .exc "NoItem" ["key"] [w], .exc "NoChapter" ["key"] [w], .exc "NotInSlots" ["key"] [w], .exc "NotNeighbors" [] [], .exc "BadOrder" ["number"] [w], .exc "BadNames" ["number"] [w], .exc "NoMain" [] [], .exc "TooMany" ["part"] [w], .exc "Unsound" ["word", "path"] [w, m], .exc "Busy" [] [], .exc "NoMark" ["name"] [w], .exc "BadOctets" ["index"] [w], .exc "BadEntry" ["number"] [w], .exc "BadArchive" ["word", "offset"] [w, m], .exc "Refused" ["word", "path"] [w, m], .exc "Unrecoverable" ["word"] [w]]
def dueD (w m r : D) : List D := [w, w, w, w, w, w, w, w, w, m, w, m, w, w, w, w, w, m, w, m, r, w, m, w, w, w, w, w, w, w, m, w, w, w, w, m, w, m, w]
def kindsD (nm : Str) : List D := [.bl (nm == "BadChapter"), .bl (nm == "BadToken"), .bl (nm == "BadKind"), .bl (nm == "BadStyle"), .bl (nm == "BadLink"), .bl (nm == "BadNumber"), .bl (nm == "BadSpot"), .bl (nm == "NoSpot"), .bl (nm == "BadText"), .bl (nm == "BadPatch"), .bl (nm == "Misfit"), .bl (nm == "Conflict"), .bl (nm == "NoNode"), .bl (nm == "TooLong"), .bl (nm == "BadBranch"), .bl (nm == "Clash"), .bl (nm == "BadBook"), .bl (nm == "NoItem"), .bl (nm == "NoChapter"), .bl (nm == "NotInSlots"), .bl (nm == "NotNeighbors"), .bl (nm == "BadOrder"), .bl (nm == "BadNames"), .bl (nm == "NoMain"), .bl (nm == "TooMany"), .bl (nm == "Unsound"), .bl (nm == "Busy"), .bl (nm == "NoMark"), .bl (nm == "BadOctets"), .bl (nm == "BadEntry"), .bl (nm == "BadArchive"), .bl (nm == "Refused"), .bl (nm == "Unrecoverable")]
def F__law_made : FT := F3 fun w m r => .lst (madeD w m r)
def F__law_due : FT := F3 fun w m r => .lst (dueD w m r)
def F__law_kinds : FT := ⟨fun ds n Q => ∃ nm fs xs, ds = [.exc nm fs xs] ∧ Q (.lst (kindsD nm)) n, fun ds n P P' h ⟨w, m, r, e, q⟩ => ⟨w, m, r, e, h _ _ q⟩⟩
def F__law_families_right : FT := ⟨fun ds n Q => ∃ w m r, ds = [.lst (madeD w m r)] ∧ Q (.bl true) n, fun ds n P P' h ⟨w, m, r, e, q⟩ => ⟨w, m, r, e, h _ _ q⟩⟩
def F__law_fields : FT := ⟨fun ds n Q => ∃ w m r, ds = [.lst (madeD w m r)] ∧ Q (.lst (dueD w m r)) n, fun ds n P P' h ⟨w, m, r, e, q⟩ => ⟨w, m, r, e, h _ _ q⟩⟩
/-- a value that may be shown -/
structure Gd (d : D) : Prop where
  pl : plainX d = true
  sh : (toPy d).showable = true
  dp : (toPy d).depth ≤ 8
  ln : (toPy d).shown.length ≤ 40
def F__law_named : FT := ⟨fun ds n Q => ∃ w m r, ds = [w, m, r] ∧ Gd w ∧ Gd m ∧ Gd r ∧ Q (.bl true) n, fun ds n P P' h ⟨w, m, r, e, g1, g2, g3, q⟩ => ⟨w, m, r, e, g1, g2, g3, h _ _ q⟩⟩
theorem fl_0_index {w m r : D} {P : D → Prop} : (DI.get (atI (madeD w m r) 0) fun d => DI.get (gAt "index" d) P) = P w := rfl
theorem fl_1_index {w m r : D} {P : D → Prop} : (DI.get (atI (madeD w m r) 1) fun d => DI.get (gAt "index" d) P) = P w := rfl
theorem fl_2_kind {w m r : D} {P : D → Prop} : (DI.get (atI (madeD w m r) 2) fun d => DI.get (gAt "kind" d) P) = P w := rfl
theorem fl_3_word {w m r : D} {P : D → Prop} : (DI.get (atI (madeD w m r) 3) fun d => DI.get (gAt "word" d) P) = P w := rfl
theorem fl_4_link {w m r : D} {P : D → Prop} : (DI.get (atI (madeD w m r) 4) fun d => DI.get (gAt "link" d) P) = P w := rfl
theorem fl_5_name {w m r : D} {P : D → Prop} : (DI.get (atI (madeD w m r) 5) fun d => DI.get (gAt "name" d) P) = P w := rfl
theorem fl_6_number {w m r : D} {P : D → Prop} : (DI.get (atI (madeD w m r) 6) fun d => DI.get (gAt "number" d) P) = P w := rfl
theorem fl_7_depth {w m r : D} {P : D → Prop} : (DI.get (atI (madeD w m r) 7) fun d => DI.get (gAt "depth" d) P) = P w := rfl
theorem fl_8_row {w m r : D} {P : D → Prop} : (DI.get (atI (madeD w m r) 8) fun d => DI.get (gAt "row" d) P) = P w := rfl
theorem fl_8_column {w m r : D} {P : D → Prop} : (DI.get (atI (madeD w m r) 8) fun d => DI.get (gAt "column" d) P) = P m := rfl
theorem fl_9_part {w m r : D} {P : D → Prop} : (DI.get (atI (madeD w m r) 9) fun d => DI.get (gAt "part" d) P) = P w := rfl
theorem fl_9_number {w m r : D} {P : D → Prop} : (DI.get (atI (madeD w m r) 9) fun d => DI.get (gAt "number" d) P) = P m := rfl
theorem fl_10_index {w m r : D} {P : D → Prop} : (DI.get (atI (madeD w m r) 10) fun d => DI.get (gAt "index" d) P) = P w := rfl
theorem fl_11_place {w m r : D} {P : D → Prop} : (DI.get (atI (madeD w m r) 11) fun d => DI.get (gAt "place" d) P) = P w := rfl
theorem fl_12_gap {w m r : D} {P : D → Prop} : (DI.get (atI (madeD w m r) 12) fun d => DI.get (gAt "gap" d) P) = P w := rfl
theorem fl_13_number {w m r : D} {P : D → Prop} : (DI.get (atI (madeD w m r) 13) fun d => DI.get (gAt "number" d) P) = P w := rfl
theorem fl_14_side {w m r : D} {P : D → Prop} : (DI.get (atI (madeD w m r) 14) fun d => DI.get (gAt "side" d) P) = P w := rfl
theorem fl_14_number {w m r : D} {P : D → Prop} : (DI.get (atI (madeD w m r) 14) fun d => DI.get (gAt "number" d) P) = P m := rfl
theorem fl_15_first {w m r : D} {P : D → Prop} : (DI.get (atI (madeD w m r) 15) fun d => DI.get (gAt "first" d) P) = P w := rfl
theorem fl_15_second {w m r : D} {P : D → Prop} : (DI.get (atI (madeD w m r) 15) fun d => DI.get (gAt "second" d) P) = P m := rfl
theorem fl_15_place {w m r : D} {P : D → Prop} : (DI.get (atI (madeD w m r) 15) fun d => DI.get (gAt "place" d) P) = P r := rfl
theorem fl_16_part {w m r : D} {P : D → Prop} : (DI.get (atI (madeD w m r) 16) fun d => DI.get (gAt "part" d) P) = P w := rfl
theorem fl_16_number {w m r : D} {P : D → Prop} : (DI.get (atI (madeD w m r) 16) fun d => DI.get (gAt "number" d) P) = P m := rfl
theorem fl_17_key {w m r : D} {P : D → Prop} : (DI.get (atI (madeD w m r) 17) fun d => DI.get (gAt "key" d) P) = P w := rfl
theorem fl_18_key {w m r : D} {P : D → Prop} : (DI.get (atI (madeD w m r) 18) fun d => DI.get (gAt "key" d) P) = P w := rfl
theorem fl_19_key {w m r : D} {P : D → Prop} : (DI.get (atI (madeD w m r) 19) fun d => DI.get (gAt "key" d) P) = P w := rfl
theorem fl_21_number {w m r : D} {P : D → Prop} : (DI.get (atI (madeD w m r) 21) fun d => DI.get (gAt "number" d) P) = P w := rfl
theorem fl_22_number {w m r : D} {P : D → Prop} : (DI.get (atI (madeD w m r) 22) fun d => DI.get (gAt "number" d) P) = P w := rfl
theorem fl_24_part {w m r : D} {P : D → Prop} : (DI.get (atI (madeD w m r) 24) fun d => DI.get (gAt "part" d) P) = P w := rfl
theorem fl_25_word {w m r : D} {P : D → Prop} : (DI.get (atI (madeD w m r) 25) fun d => DI.get (gAt "word" d) P) = P w := rfl
theorem fl_25_path {w m r : D} {P : D → Prop} : (DI.get (atI (madeD w m r) 25) fun d => DI.get (gAt "path" d) P) = P m := rfl
theorem fl_27_name {w m r : D} {P : D → Prop} : (DI.get (atI (madeD w m r) 27) fun d => DI.get (gAt "name" d) P) = P w := rfl
theorem fl_28_index {w m r : D} {P : D → Prop} : (DI.get (atI (madeD w m r) 28) fun d => DI.get (gAt "index" d) P) = P w := rfl
theorem fl_29_number {w m r : D} {P : D → Prop} : (DI.get (atI (madeD w m r) 29) fun d => DI.get (gAt "number" d) P) = P w := rfl
theorem fl_30_word {w m r : D} {P : D → Prop} : (DI.get (atI (madeD w m r) 30) fun d => DI.get (gAt "word" d) P) = P w := rfl
theorem fl_30_offset {w m r : D} {P : D → Prop} : (DI.get (atI (madeD w m r) 30) fun d => DI.get (gAt "offset" d) P) = P m := rfl
theorem fl_31_word {w m r : D} {P : D → Prop} : (DI.get (atI (madeD w m r) 31) fun d => DI.get (gAt "word" d) P) = P w := rfl
theorem fl_31_path {w m r : D} {P : D → Prop} : (DI.get (atI (madeD w m r) 31) fun d => DI.get (gAt "path" d) P) = P m := rfl
theorem fl_32_word {w m r : D} {P : D → Prop} : (DI.get (atI (madeD w m r) 32) fun d => DI.get (gAt "word" d) P) = P w := rfl
theorem fn_0_index {w : D} : gAt "index" (.exc "BadChapter" ["index"] [w]) = some w := rfl
theorem fn_1_index {w : D} : gAt "index" (.exc "BadToken" ["index"] [w]) = some w := rfl
theorem fn_2_kind {w : D} : gAt "kind" (.exc "BadKind" ["kind"] [w]) = some w := rfl
theorem fn_3_word {w : D} : gAt "word" (.exc "BadStyle" ["word"] [w]) = some w := rfl
theorem fn_4_link {w : D} : gAt "link" (.exc "BadLink" ["link"] [w]) = some w := rfl
theorem fn_5_name {w : D} : gAt "name" (.exc "BadNumber" ["name"] [w]) = some w := rfl
theorem fn_6_number {w : D} : gAt "number" (.exc "BadSpot" ["number"] [w]) = some w := rfl
theorem fn_7_depth {w : D} : gAt "depth" (.exc "NoSpot" ["depth"] [w]) = some w := rfl
theorem fn_8_row {w m : D} : gAt "row" (.exc "BadText" ["row", "column"] [w, m]) = some w := rfl
theorem fn_8_column {w m : D} : gAt "column" (.exc "BadText" ["row", "column"] [w, m]) = some m := rfl
theorem fn_9_part {w m : D} : gAt "part" (.exc "BadPatch" ["part", "number"] [w, m]) = some w := rfl
theorem fn_9_number {w m : D} : gAt "number" (.exc "BadPatch" ["part", "number"] [w, m]) = some m := rfl
theorem fn_10_index {w : D} : gAt "index" (.exc "Misfit" ["index"] [w]) = some w := rfl
theorem fn_11_place {w : D} : gAt "place" (.exc "Conflict" ["place"] [w]) = some w := rfl
theorem fn_12_gap {w : D} : gAt "gap" (.exc "NoNode" ["gap"] [w]) = some w := rfl
theorem fn_13_number {w : D} : gAt "number" (.exc "TooLong" ["number"] [w]) = some w := rfl
theorem fn_14_side {w m : D} : gAt "side" (.exc "BadBranch" ["side", "number"] [w, m]) = some w := rfl
theorem fn_14_number {w m : D} : gAt "number" (.exc "BadBranch" ["side", "number"] [w, m]) = some m := rfl
theorem fn_15_first {w m r : D} : gAt "first" (.exc "Clash" ["first", "second", "place"] [w, m, r]) = some w := rfl
theorem fn_15_second {w m r : D} : gAt "second" (.exc "Clash" ["first", "second", "place"] [w, m, r]) = some m := rfl
theorem fn_15_place {w m r : D} : gAt "place" (.exc "Clash" ["first", "second", "place"] [w, m, r]) = some r := rfl
theorem fn_16_part {w m : D} : gAt "part" (.exc "BadBook" ["part", "number"] [w, m]) = some w := rfl
theorem fn_16_number {w m : D} : gAt "number" (.exc "BadBook" ["part", "number"] [w, m]) = some m := rfl
theorem fn_17_key {w : D} : gAt "key" (.exc "NoItem" ["key"] [w]) = some w := rfl
theorem fn_18_key {w : D} : gAt "key" (.exc "NoChapter" ["key"] [w]) = some w := rfl
theorem fn_19_key {w : D} : gAt "key" (.exc "NotInSlots" ["key"] [w]) = some w := rfl
theorem fn_21_number {w : D} : gAt "number" (.exc "BadOrder" ["number"] [w]) = some w := rfl
theorem fn_22_number {w : D} : gAt "number" (.exc "BadNames" ["number"] [w]) = some w := rfl
theorem fn_24_part {w : D} : gAt "part" (.exc "TooMany" ["part"] [w]) = some w := rfl
theorem fn_25_word {w m : D} : gAt "word" (.exc "Unsound" ["word", "path"] [w, m]) = some w := rfl
theorem fn_25_path {w m : D} : gAt "path" (.exc "Unsound" ["word", "path"] [w, m]) = some m := rfl
theorem fn_27_name {w : D} : gAt "name" (.exc "NoMark" ["name"] [w]) = some w := rfl
theorem fn_28_index {w : D} : gAt "index" (.exc "BadOctets" ["index"] [w]) = some w := rfl
theorem fn_29_number {w : D} : gAt "number" (.exc "BadEntry" ["number"] [w]) = some w := rfl
theorem fn_30_word {w m : D} : gAt "word" (.exc "BadArchive" ["word", "offset"] [w, m]) = some w := rfl
theorem fn_30_offset {w m : D} : gAt "offset" (.exc "BadArchive" ["word", "offset"] [w, m]) = some m := rfl
theorem fn_31_word {w m : D} : gAt "word" (.exc "Refused" ["word", "path"] [w, m]) = some w := rfl
theorem fn_31_path {w m : D} : gAt "path" (.exc "Refused" ["word", "path"] [w, m]) = some m := rfl
theorem fn_32_word {w : D} : gAt "word" (.exc "Unrecoverable" ["word"] [w]) = some w := rfl
theorem ex2 {a b : D} {P : D → D → Prop} : (∃ d1 d2, [a, b] = [d1, d2] ∧ P d1 d2) = P a b := propext ⟨fun ⟨d1, d2, e, p⟩ => by cases e; exact p, fun p => ⟨a, b, rfl, p⟩⟩
theorem str_app (a b : Str) : (a ++ b).length = a.length + b.length := Array.size_append
theorem from_len {B : Nat} : ∀ (ts : List Str) (i : Nat) (acc : Str), (∀ t ∈ ts, t.length ≤ B) → (textFrom i acc ts).length ≤ acc.length + ts.length * (B + 2)
  | [], i, acc, _ => by simp [textFrom]
  | t :: ts, i, acc, h => by
    have ih := from_len ts (i + 1) (acc ++ Str.ofString (if i > 0 then ", " else "") ++ t) fun t m => h t (List.mem_cons_of_mem _ m)
    have h1 : t.length ≤ B := h t List.mem_cons_self
    have h2 : (Str.ofString (if i > 0 then ", " else "")).length ≤ 2 := by split <;> decide
    rw [textFrom]
    rw [str_app, str_app] at ih
    have e : (ts.length + 1) * (B + 2) = ts.length * (B + 2) + (B + 2) := Nat.succ_mul _ _
    rw [List.length_cons, e]
    omega
theorem shownA {B : Nat} : ∀ {ds : List D}, (∀ d ∈ ds, (toPy d).shown.length ≤ B) → (∀ t ∈ PyData.shownAll (toPyA ds), t.length ≤ B) ∧ (PyData.shownAll (toPyA ds)).length = ds.length
  | [], _ => by simp [toPyA, PyData.shownAll]
  | d :: ds, h => by
    obtain ⟨h1, h2⟩ := shownA (ds := ds) fun d m => h d (List.mem_cons_of_mem _ m)
    simp only [toPyA, PyData.shownAll, List.mem_cons, List.length_cons]
    refine ⟨fun t m => ?_, by rw [h2]⟩
    rcases m with rfl | m
    · exact h d List.mem_cons_self
    · exact h1 t m
theorem plA : ∀ {ds : List D}, (∀ d ∈ ds, Gd d) → plainXA ds = true ∧ PyData.showableAll (toPyA ds) = true ∧ PyData.depthAll (toPyA ds) ≤ 8
  | [], _ => by simp [plainXA, toPyA, PyData.showableAll, PyData.depthAll]
  | d :: ds, h => by
    obtain ⟨h1, h2, h3⟩ := plA (ds := ds) fun d m => h d (List.mem_cons_of_mem _ m)
    have g := h d List.mem_cons_self
    have g3 := g.dp
    simp only [plainXA, toPyA, PyData.showableAll, PyData.depthAll, Bool.and_eq_true]
    exact ⟨⟨g.pl, h1⟩, ⟨g.sh, h2⟩, by omega⟩
theorem lst_ok {ds : List D} (h : ∀ d ∈ ds, Gd d) (hl : ds.length ≤ 64) : cReprX [.lst ds] := by
  obtain ⟨h1, h2, h3⟩ := plA h
  obtain ⟨h4, h5⟩ := shownA (B := 40) fun d m => (h d m).ln
  refine ⟨by simpa only [plainX] using h1, by simpa only [toPy, PyData.showable] using h2, by simp only [toPy, PyData.depth]; omega, ?_⟩
  simp only [toPy, PyData.shown, listText]
  rw [str_app]
  have z := from_len _ 0 (Str.ofString "[") h4
  rw [h5] at z
  have e1 : (Str.ofString "[").length = 1 := by decide
  have e2 : (Str.ofString "]").length = 1 := by decide
  have e3 : ds.length * (40 + 2) ≤ 64 * 42 := Nat.mul_le_mul_right _ hl
  have e4 : (3000 : Nat) ≤ sizeLine := by decide
  omega
theorem one_ok {d : D} (h : Gd d) : cReprX [d] := ⟨h.pl, h.sh, Nat.le_trans h.dp (by decide), Nat.le_trans h.ln (by decide)⟩
theorem eq_self' {a : Str} : eqD (.str a) (.str a) = true := by simp [eqD, toPy, PyData.eqv]
theorem i_1 : ∀ q < 9, ∀ k < 250, (PyData.int ((250 * q + k : Nat) - 1000 : Int)).shown.length ≤ 6 := by decide +kernel
theorem int_len {i : Int} (h1 : -1000 ≤ i) (h2 : i ≤ 1000) : (PyData.int i).shown.length ≤ 6 := by
  have z := i_1 ((i + 1000).toNat / 250) (by omega) ((i + 1000).toNat % 250) (by omega)
  have e : ((250 * ((i + 1000).toNat / 250) + (i + 1000).toNat % 250 : Nat) - 1000 : Int) = i := by omega
  rw [e] at z
  exact z
theorem int_sh {i : Int} (h1 : -1000 ≤ i) (h2 : i ≤ 1000) : (PyData.int i).showable = true := by
  simp only [PyData.showable, decide_eq_true_eq]
  have h : i.natAbs < 2 ^ 1920 := Nat.lt_of_le_of_lt (show i.natAbs ≤ 1000 by omega) (by decide +kernel)
  by_cases h0 : i.natAbs = 0
  · rw [h0]
    decide
  · exact (Nat.log2_lt h0).mpr h
section
variable {ge : D → List Sl → Option (List Sl)} {vs : List Nat} {tt : WT} {te : W} {env : List Sl}
theorem lcGo_map {g : D → D} {n : Nat} {P : List D → Nat → Prop} : ∀ (ds acc : List D), (∀ d ∈ ds, ∀ P : D → S → Prop, (∀ s, s.n = n → P (g d) s) → get (ge d (innE vs env)) fun env' => te.f ⟨env', n⟩ P) → acc.length + ds.length ≤ sizeLine → P (acc ++ ds.map g) n → lcGo ge vs wtYes te env ds acc n P
  | [], acc, _, _, q => by
    show P acc n
    simpa using q
  | d :: ds, acc, h, hz, q => by
    have k := h d List.mem_cons_self (fun y s2 => acc.length < sizeLine ∧ lcGo ge vs wtYes te env ds (acc ++ [y]) s2.n P) (fun s e => by
      rw [e]
      refine ⟨by simp only [List.length_cons] at hz; omega, lcGo_map ds _ (fun d' hd => h d' (List.mem_cons_of_mem _ hd)) (by simp only [List.length_append, List.length_cons, List.length_nil] at hz ⊢; omega) (by simpa using q)⟩)
    exact get_mono (fun env' q => by
      simp only [wtYes, if_true]
      exact q) k
end
def compD (i : Int) : List D := (rngD 0 33).map fun d => .bl (eqD d (.int i))
abbrev teK : W := wBin cEq gEq (wVar 3) (wVar 1)
abbrev waK : WA := wLc (wiR1 (waCons (wC (.int 33)) waNil)) (gNm 3) [3] wtYes teK
theorem comp33 {x0 x2 x3 : Sl} {i : Int} {n : Nat} {P : List D → S → Prop} (h : P (compD i) ⟨[x0, .val (.int i), x2, x3], n⟩) : waK.f ⟨[x0, .val (.int i), x2, x3], n⟩ P := by
  show ∃ j, [D.int 33] = [.int j] ∧ -(2 ^ 62) ≤ j ∧ j < 2 ^ 62 ∧ lcGo (gNm 3) [3] wtYes teK [x0, .val (.int i), x2, x3] (rngD 0 j.toNat) [] n fun acc n => P acc ⟨[x0, .val (.int i), x2, x3], n⟩
  refine ⟨33, rfl, by decide, by decide, lcGo_map (g := fun d => .bl (eqD d (.int i))) _ _ (fun d hd P hP => ?_) (line2 (by decide)) h⟩
  obtain ⟨j, _, rfl⟩ := List.mem_map.mp hd
  exact (show cEq (D.int (0 + (j:Int))) (.int i) ∧ DI.get (gEq (D.int (0 + (j:Int))) (.int i)) fun d => P d ⟨(innE [3] [x0, .val (.int i), x2, x3]).set 3 (.val (.int (0 + (j : Int)))), n⟩ from ⟨.inl rfl, hP _ rfl⟩)
def famOk (d : D) : Prop := ∃ (i : Int) (nm : Str) (fs : List Str) (xs : List D), d = .tup [.int i, .exc nm fs xs] ∧ eqD (.lst (kindsD nm)) (.lst (compD i)) = true ∧ shp (.lst (kindsD nm)) ∧ shp (.lst (compD i))
abbrev wsFam : WS := wSeq (wIfS (tOrD (wT (wBin cEq gNe (wCall F__law_kinds (waCons (wVar 2) waNil)) (wOfL waK))) (tNotD (wT (wG (gIsA true) (wVar 2))))) (wRet (wC (.bl false))) wNext)
  (wIfS (tOrD (tNotD (wT (wG (gIsA true) (wVar 2)))) (wT (wG (gIsA false) (wVar 2)))) (wRet (wC (.bl false))) wNext)
theorem fam_loop {L : List D} {E : ED} {n : Nat} (hE : ∀ x1 x2 x3, E.nx ⟨[.val (.lst L), x1, x2, x3], n⟩) : ∀ (ds : List D), (∀ d ∈ ds, famOk d) → ∀ x1 x2 x3, forW (gTp 2 (gsCons (gNm 1) (gsCons (gNm 2) gsNil))) wsFam E ds ⟨[.val (.lst L), x1, x2, x3], n⟩
  | [], _, x1, x2, x3 => hE x1 x2 x3
  | d :: ds, h, x1, x2, x3 => by
    obtain ⟨i, nm, fs, xs, rfl, he, s1, s2⟩ := h d List.mem_cons_self
    have ih := fam_loop hE ds fun d m => h d (List.mem_cons_of_mem _ m)
    show wsFam.f { nx := forW (gTp 2 (gsCons (gNm 1) (gsCons (gNm 2) gsNil))) wsFam E ds, rt := E.rt, bk := E.nx, ct := forW (gTp 2 (gsCons (gNm 1) (gsCons (gNm 2) gsNil))) wsFam E ds } ⟨[.val (.lst L), .val (.int i), .val (.exc nm fs xs), x3], n⟩
    have key : ∀ (P : Bool → S → Prop), P false ⟨[.val (.lst L), .val (.int i), .val (.exc nm fs xs), x3], n⟩ → (wT (wBin cEq gNe (wCall F__law_kinds (waCons (wVar 2) waNil)) (wOfL waK))).f ⟨[.val (.lst L), .val (.int i), .val (.exc nm fs xs), x3], n⟩ P := fun P hP => by
      show F__law_kinds.f [.exc nm fs xs] n fun d m => waK.f ⟨[.val (.lst L), .val (.int i), .val (.exc nm fs xs), x3], m⟩ fun ds s2 => cEq d (.lst ds) ∧ DI.get (gNe d (.lst ds)) fun z => DI.get (blD z) fun b => P b s2
      refine ⟨nm, fs, xs, rfl, comp33 ⟨.inr ⟨s1, s2⟩, ?_⟩⟩
      show P (!eqD (.lst (kindsD nm)) (.lst (compD i))) _
      rw [he]
      exact hP
    show (wT (wBin cEq gNe (wCall F__law_kinds (waCons (wVar 2) waNil)) (wOfL waK))).f ⟨[.val (.lst L), .val (.int i), .val (.exc nm fs xs), x3], n⟩ _
    refine key _ ?_
    exact ih _ _ _
theorem fam_ok {w m r : D} : ∀ d ∈ enumD (madeD w m r), famOk d := by
  show ∀ d ∈ [.tup [.int 0, .exc "BadChapter" ["index"] [w]], .tup [.int 1, .exc "BadToken" ["index"] [w]], .tup [.int 2, .exc "BadKind" ["kind"] [w]], .tup [.int 3, .exc "BadStyle" ["word"] [w]], .tup [.int 4, .exc "BadLink" ["link"] [w]], .tup [.int 5, .exc "BadNumber" ["name"] [w]], .tup [.int 6, .exc "BadSpot" ["number"] [w]], .tup [.int 7, .exc "NoSpot" ["depth"] [w]], .tup [.int 8, .exc "BadText" ["row", "column"] [w, m]], .tup [.int 9, .exc "BadPatch" ["part", "number"] [w, m]], .tup [.int 10, .exc "Misfit" ["index"] [w]], .tup [.int 11, .exc "Conflict" ["place"] [w]], .tup [.int 12, .exc "NoNode" ["gap"] [w]], .tup [.int 13, .exc "TooLong" ["number"] [w]], .tup [.int 14, .exc "BadBranch" ["side", "number"] [w, m]], .tup [.int 15, .exc "Clash" ["first", "second", "place"] [w, m, r]], .tup [.int 16, .exc "BadBook" ["part", "number"] [w, m]], .tup [.int 17, .exc "NoItem" ["key"] [w]], .tup [.int 18, .exc "NoChapter" ["key"] [w]], .tup [.int 19, .exc "NotInSlots" ["key"] [w]], .tup [.int 20, .exc "NotNeighbors" [] []], .tup [.int 21, .exc "BadOrder" ["number"] [w]], .tup [.int 22, .exc "BadNames" ["number"] [w]], .tup [.int 23, .exc "NoMain" [] []], .tup [.int 24, .exc "TooMany" ["part"] [w]], .tup [.int 25, .exc "Unsound" ["word", "path"] [w, m]], .tup [.int 26, .exc "Busy" [] []], .tup [.int 27, .exc "NoMark" ["name"] [w]], .tup [.int 28, .exc "BadOctets" ["index"] [w]], .tup [.int 29, .exc "BadEntry" ["number"] [w]], .tup [.int 30, .exc "BadArchive" ["word", "offset"] [w, m]], .tup [.int 31, .exc "Refused" ["word", "path"] [w, m]], .tup [.int 32, .exc "Unrecoverable" ["word"] [w]]], famOk d
  refine List.forall_mem_cons.mpr ⟨⟨_, _, _, _, rfl, by decide +kernel, ⟨rfl, by decide +kernel⟩, ⟨by decide +kernel, by decide +kernel⟩⟩, ?_⟩
  refine List.forall_mem_cons.mpr ⟨⟨_, _, _, _, rfl, by decide +kernel, ⟨rfl, by decide +kernel⟩, ⟨by decide +kernel, by decide +kernel⟩⟩, ?_⟩
  refine List.forall_mem_cons.mpr ⟨⟨_, _, _, _, rfl, by decide +kernel, ⟨rfl, by decide +kernel⟩, ⟨by decide +kernel, by decide +kernel⟩⟩, ?_⟩
  refine List.forall_mem_cons.mpr ⟨⟨_, _, _, _, rfl, by decide +kernel, ⟨rfl, by decide +kernel⟩, ⟨by decide +kernel, by decide +kernel⟩⟩, ?_⟩
  refine List.forall_mem_cons.mpr ⟨⟨_, _, _, _, rfl, by decide +kernel, ⟨rfl, by decide +kernel⟩, ⟨by decide +kernel, by decide +kernel⟩⟩, ?_⟩
  refine List.forall_mem_cons.mpr ⟨⟨_, _, _, _, rfl, by decide +kernel, ⟨rfl, by decide +kernel⟩, ⟨by decide +kernel, by decide +kernel⟩⟩, ?_⟩
  refine List.forall_mem_cons.mpr ⟨⟨_, _, _, _, rfl, by decide +kernel, ⟨rfl, by decide +kernel⟩, ⟨by decide +kernel, by decide +kernel⟩⟩, ?_⟩
  refine List.forall_mem_cons.mpr ⟨⟨_, _, _, _, rfl, by decide +kernel, ⟨rfl, by decide +kernel⟩, ⟨by decide +kernel, by decide +kernel⟩⟩, ?_⟩
  refine List.forall_mem_cons.mpr ⟨⟨_, _, _, _, rfl, by decide +kernel, ⟨rfl, by decide +kernel⟩, ⟨by decide +kernel, by decide +kernel⟩⟩, ?_⟩
  refine List.forall_mem_cons.mpr ⟨⟨_, _, _, _, rfl, by decide +kernel, ⟨rfl, by decide +kernel⟩, ⟨by decide +kernel, by decide +kernel⟩⟩, ?_⟩
  refine List.forall_mem_cons.mpr ⟨⟨_, _, _, _, rfl, by decide +kernel, ⟨rfl, by decide +kernel⟩, ⟨by decide +kernel, by decide +kernel⟩⟩, ?_⟩
  refine List.forall_mem_cons.mpr ⟨⟨_, _, _, _, rfl, by decide +kernel, ⟨rfl, by decide +kernel⟩, ⟨by decide +kernel, by decide +kernel⟩⟩, ?_⟩
  refine List.forall_mem_cons.mpr ⟨⟨_, _, _, _, rfl, by decide +kernel, ⟨rfl, by decide +kernel⟩, ⟨by decide +kernel, by decide +kernel⟩⟩, ?_⟩
  refine List.forall_mem_cons.mpr ⟨⟨_, _, _, _, rfl, by decide +kernel, ⟨rfl, by decide +kernel⟩, ⟨by decide +kernel, by decide +kernel⟩⟩, ?_⟩
  refine List.forall_mem_cons.mpr ⟨⟨_, _, _, _, rfl, by decide +kernel, ⟨rfl, by decide +kernel⟩, ⟨by decide +kernel, by decide +kernel⟩⟩, ?_⟩
  refine List.forall_mem_cons.mpr ⟨⟨_, _, _, _, rfl, by decide +kernel, ⟨rfl, by decide +kernel⟩, ⟨by decide +kernel, by decide +kernel⟩⟩, ?_⟩
  refine List.forall_mem_cons.mpr ⟨⟨_, _, _, _, rfl, by decide +kernel, ⟨rfl, by decide +kernel⟩, ⟨by decide +kernel, by decide +kernel⟩⟩, ?_⟩
  refine List.forall_mem_cons.mpr ⟨⟨_, _, _, _, rfl, by decide +kernel, ⟨rfl, by decide +kernel⟩, ⟨by decide +kernel, by decide +kernel⟩⟩, ?_⟩
  refine List.forall_mem_cons.mpr ⟨⟨_, _, _, _, rfl, by decide +kernel, ⟨rfl, by decide +kernel⟩, ⟨by decide +kernel, by decide +kernel⟩⟩, ?_⟩
  refine List.forall_mem_cons.mpr ⟨⟨_, _, _, _, rfl, by decide +kernel, ⟨rfl, by decide +kernel⟩, ⟨by decide +kernel, by decide +kernel⟩⟩, ?_⟩
  refine List.forall_mem_cons.mpr ⟨⟨_, _, _, _, rfl, by decide +kernel, ⟨rfl, by decide +kernel⟩, ⟨by decide +kernel, by decide +kernel⟩⟩, ?_⟩
  refine List.forall_mem_cons.mpr ⟨⟨_, _, _, _, rfl, by decide +kernel, ⟨rfl, by decide +kernel⟩, ⟨by decide +kernel, by decide +kernel⟩⟩, ?_⟩
  refine List.forall_mem_cons.mpr ⟨⟨_, _, _, _, rfl, by decide +kernel, ⟨rfl, by decide +kernel⟩, ⟨by decide +kernel, by decide +kernel⟩⟩, ?_⟩
  refine List.forall_mem_cons.mpr ⟨⟨_, _, _, _, rfl, by decide +kernel, ⟨rfl, by decide +kernel⟩, ⟨by decide +kernel, by decide +kernel⟩⟩, ?_⟩
  refine List.forall_mem_cons.mpr ⟨⟨_, _, _, _, rfl, by decide +kernel, ⟨rfl, by decide +kernel⟩, ⟨by decide +kernel, by decide +kernel⟩⟩, ?_⟩
  refine List.forall_mem_cons.mpr ⟨⟨_, _, _, _, rfl, by decide +kernel, ⟨rfl, by decide +kernel⟩, ⟨by decide +kernel, by decide +kernel⟩⟩, ?_⟩
  refine List.forall_mem_cons.mpr ⟨⟨_, _, _, _, rfl, by decide +kernel, ⟨rfl, by decide +kernel⟩, ⟨by decide +kernel, by decide +kernel⟩⟩, ?_⟩
  refine List.forall_mem_cons.mpr ⟨⟨_, _, _, _, rfl, by decide +kernel, ⟨rfl, by decide +kernel⟩, ⟨by decide +kernel, by decide +kernel⟩⟩, ?_⟩
  refine List.forall_mem_cons.mpr ⟨⟨_, _, _, _, rfl, by decide +kernel, ⟨rfl, by decide +kernel⟩, ⟨by decide +kernel, by decide +kernel⟩⟩, ?_⟩
  refine List.forall_mem_cons.mpr ⟨⟨_, _, _, _, rfl, by decide +kernel, ⟨rfl, by decide +kernel⟩, ⟨by decide +kernel, by decide +kernel⟩⟩, ?_⟩
  refine List.forall_mem_cons.mpr ⟨⟨_, _, _, _, rfl, by decide +kernel, ⟨rfl, by decide +kernel⟩, ⟨by decide +kernel, by decide +kernel⟩⟩, ?_⟩
  refine List.forall_mem_cons.mpr ⟨⟨_, _, _, _, rfl, by decide +kernel, ⟨rfl, by decide +kernel⟩, ⟨by decide +kernel, by decide +kernel⟩⟩, ?_⟩
  refine List.forall_mem_cons.mpr ⟨⟨_, _, _, _, rfl, by decide +kernel, ⟨rfl, by decide +kernel⟩, ⟨by decide +kernel, by decide +kernel⟩⟩, ?_⟩
  exact fun _ h => nomatch h
theorem sc__law_mixed : FnScope ["cell", "k", "mixed"] ["cell", "k"] (defScope (top 37)) := ⟨rfl, rfl, rfl, by decide +kernel, rfl, by decide +kernel, by decide +kernel⟩
theorem ok__law_mixed {P : Program} {w : World} {K : PySem.W.Frag} {mg : Str → Option Value} {base : Heap} (T : Txt K mg) (Z : Ec K mg) (bk : Bk K mg) {f : Addr} {fd : FuncData} (U : Fun K "_law_mixed" "_law_mixed" (top 37) f fd) (dr : Option Addr) :
    FnG P w K mg base 1 f fd ["cell", "k"] (SpD K dr [false, false] F__law_mixed) := by
  refine fnd_of (k := 0) U sc__law_mixed rfl (fun cdv A callers s0 H E G0 hr hga =>
    (sd_cons (sd_set 2 sc__law_mixed.nd (pd_mod (pd_bt bt_int T.int (ad_cons (pd_add (pd_add (pd_add (pd_mod (pd_bt bt_int T.int (ad_cons (pd_var 0 (pv 0)) ad_nil)) pd_int) (pd_mul (pd_mul pd_int (pd_var 1 (pv 1))) (pd_var 1 (pv 1)))) (pd_mul pd_int (pd_var 1 (pv 1)))) pd_int) ad_nil)) pd_int))
      (sd_cons (sd_set 2 sc__law_mixed.nd (pd_mod (pd_bt bt_int T.int (ad_cons (pd_mul (pd_mod (pd_bt bt_int T.int (ad_cons (pd_mul (pd_var 2 (pv 2)) (pd_var 2 (pv 2))) ad_nil)) pd_int) (pd_var 2 (pv 2))) ad_nil)) pd_int))
      (sd_one (sd_ret (pd_div (pd_mod (pd_bt bt_int T.int (ad_cons (pd_mul (pd_var 2 (pv 2)) (pd_add pd_int (pd_mul pd_int (pd_mod (pd_bt bt_int T.int (ad_cons (pd_var 1 (pv 1)) ad_nil)) pd_int)))) ad_nil)) pd_int) pd_int)))))) ?_
  intro ds n Q hl hF
  obtain ⟨c, k, rfl, h0, h1, q⟩ := hF
  simp (config := {maxSteps := 10000000}) only [↓f_wC, ↓f_wVar, ↓f_wBin, ↓f_wBinV, ↓f_wBinR, ↓f_wT, ↓f_wChain, ↓f_wTru, ↓f_wTruV, ↓f_tAnd, ↓f_tOr, ↓f_tNot, ↓f_andV, ↓f_orV, ↓f_notV, ↓f_if, ↓f_noPart, ↓f_part, ↓f_sl, ↓f_slV, ↓f_nil, ↓f_cons, ↓f_bor, ↓f_tup, ↓f_lst, ↓f_fn, ↓f_isi, ↓f_mt, ↓f_call, ↓f_next, ↓f_seq, ↓f_break, ↓f_cont, ↓f_drop, ↓f_ret, ↓f_retN, ↓f_ifS, ↓f_set, ↓f_ofL, ↓f_sz, ↓f_own, ↓f_par, ↓f_par3, ↓f_asgT, ↓f_iL, ↓f_iT, ↓f_iS, ↓f_iR1, ↓f_for, ↓f_lc, ↓f_yes, ↓f_dgL, ↓f_dgA, ↓f_dgC, ↓f_dpL, ↓f_dpA, ↓f_app, ↓f_pop, env0, env1, ↓bl_bl, ↓int_int, ↓str_str, ↓get_some, get_if, vget, ownE, List.length_cons, List.length_nil, List.replicate, List.getElem?_cons_zero, List.getElem?_cons_succ, List.set_cons_zero, List.set_cons_succ, Nat.zero_add, Nat.add_sub_cancel, Nat.reduceAdd, Nat.reduceSub, Nat.reduceLT, Nat.reduceLeDiff, true_and, if_true, if_false, Bool.false_eq_true, List.length_set, gLt, gLe, gGt, gGe, gIx, gLen, cLen, cT, cIx, gIsi, tyD, Option.map_some, gIn, gNin, cIn, gAll, c0, lstD, tupD, innE, wipeE, toBor, Bool.not_false, Bool.not_true, eq_self, List.map_cons, List.map_nil]
  simp only [gInt, get_some, gI, gMulI, cI, cMul, cMod, cDiv, gMod, gDiv, DI.gSub, gAdd, cAdd]
  have hm : ∀ {a b : Int}, CMul (a % 2147483647) b := cm_mod (by decide) (by decide)
  have hm2 : ∀ {a b : Int}, CMul (a % 2147483629) b := cm_mod (by decide) (by decide)
  exact ⟨by decide, .inl ⟨by decide, by decide⟩, .inr ⟨by omega, by omega⟩, trivial, .inl ⟨by decide, by decide⟩, trivial, trivial, by decide, hm, by decide, hm, by decide, by decide, .inl ⟨by decide, by decide⟩, trivial, hm2, by decide, ⟨by decide, by decide⟩, q _⟩
theorem sc__law_next : FnScope ["draw", "bound", "found", "every", "cell"] ["draw", "bound"] (defScope (top 38)) := ⟨rfl, rfl, rfl, by decide +kernel, rfl, by decide +kernel, by decide +kernel⟩
theorem ok__law_next {P : Program} {w : World} {K : PySem.W.Frag} {mg : Str → Option Value} {base : Heap} (T : Txt K mg) (Z : Ec K mg) (bk : Bk K mg) (D__law_mixed : Dn P w K mg base 1 "_law_mixed" ["cell", "k"] F__law_mixed) {f : Addr} {fd : FuncData} (U : Fun K "_law_next" "_law_next" (top 38) f fd) (dr : Option Addr) :
    FnG P w K mg base 2 f fd ["draw", "bound"] (SpD K dr [false, false] F__law_next) := by
  refine fnd_of (k := 1) U sc__law_next rfl (fun cdv A callers s0 H E G0 hr hga =>
    (sd_cons (sd_if (td_cmp cm_gt (dgL_of hr 0 (pv 0)) pd_int) (sd_cons (sd_set 2 sc__law_next.nd (pd_mod (pd_bt bt_int T.int (ad_cons (dgL_of hr 0 (pv 0)) ad_nil)) (pd_var 1 (pv 1))))
      (sd_cons (sdpL hr 0 (pv 0) (pd_div (dgL_of hr 0 (pv 0)) (pd_var 1 (pv 1))))
      (sd_one (sd_ret (pd_var 2 (pv 2)))))) sd_nil)
      (sd_cons (sd_set 3 sc__law_next.nd (dgC_of hr 0 (pv 0)))
      (sd_cons (sd_set 4 sc__law_next.nd (pd_ix (pd_var 3 (pv 3)) (pd_mod (pd_bt bt_int T.int (ad_cons (dgA_of hr 0 (pv 0)) ad_nil)) (pd_bt bt_len T.len (ad_cons (pd_var 3 (pv 3)) ad_nil)))))
      (sd_cons (sdpA hr 0 (pv 0) (pd_add (dgA_of hr 0 (pv 0)) pd_int))
      (sd_cons (sd_if (PW.pt (wd_and (td_cmp cm_ge (pd_var 4 (pv 4)) (pd_pow pd_int pd_int)) (wd_and1 (td_cmp cm_le (dgA_of hr 0 (pv 0)) (pd_bt bt_len T.len (ad_cons (pd_var 3 (pv 3)) ad_nil)))))) (sd_cons (sdpL hr 0 (pv 0) (pd_div (pd_var 4 (pv 4)) (pd_var 1 (pv 1))))
      (sd_one (sd_ret (pd_mod (pd_bt bt_int T.int (ad_cons (pd_var 4 (pv 4)) ad_nil)) (pd_var 1 (pv 1)))))) sd_nil)
      (sd_cons (sdpU hr 0 (pv 0) (pd_add (dgU_of hr 0 (pv 0)) pd_int))
      (sd_one (sd_ret (pd_mod (pd_bt bt_int T.int (ad_cons (pd_cl D__law_mixed hr (by decide) hga (ad_cons (pd_cl D__law_mixed hr (by decide) hga (ad_cons (pd_var 4 (pv 4)) (ad_cons (dgA_of hr 0 (pv 0)) ad_nil))) (ad_cons (dgU_of hr 0 (pv 0)) ad_nil))) ad_nil)) (pd_var 1 (pv 1)))))))))))) ?_
  intro ds n Q hl hF
  obtain ⟨b, rfl, hn, h0, h1, q⟩ := hF
  simp (config := {maxSteps := 10000000}) only [↓f_wC, ↓f_wVar, ↓f_wBin, ↓f_wBinV, ↓f_wBinR, ↓f_wT, ↓f_wChain, ↓f_wTru, ↓f_wTruV, ↓f_tAnd, ↓f_tOr, ↓f_tNot, ↓f_andV, ↓f_orV, ↓f_notV, ↓f_if, ↓f_noPart, ↓f_part, ↓f_sl, ↓f_slV, ↓f_nil, ↓f_cons, ↓f_bor, ↓f_tup, ↓f_lst, ↓f_fn, ↓f_isi, ↓f_mt, ↓f_call, ↓f_next, ↓f_seq, ↓f_break, ↓f_cont, ↓f_drop, ↓f_ret, ↓f_retN, ↓f_ifS, ↓f_set, ↓f_ofL, ↓f_sz, ↓f_own, ↓f_par, ↓f_par3, ↓f_asgT, ↓f_iL, ↓f_iT, ↓f_iS, ↓f_iR1, ↓f_for, ↓f_lc, ↓f_yes, ↓f_dgL, ↓f_dgA, ↓f_dgC, ↓f_dpL, ↓f_dpA, ↓f_app, ↓f_pop, env0, env1, ↓bl_bl, ↓int_int, ↓str_str, ↓get_some, get_if, vget, ownE, List.length_cons, List.length_nil, List.replicate, List.getElem?_cons_zero, List.getElem?_cons_succ, List.set_cons_zero, List.set_cons_succ, Nat.zero_add, Nat.add_sub_cancel, Nat.reduceAdd, Nat.reduceSub, Nat.reduceLT, Nat.reduceLeDiff, true_and, if_true, if_false, Bool.false_eq_true, List.length_set, gLt, gLe, gGt, gGe, gIx, gLen, cLen, cT, cIx, gIsi, tyD, Option.map_some, gIn, gNin, cIn, gAll, c0, lstD, tupD, innE, wipeE, toBor, Bool.not_false, Bool.not_true, eq_self, List.map_cons, List.map_nil]
  intro l
  have Qb : ∀ a : Int, Q (.int (a % b)) (n + 2) := fun a => q _ (Int.emod_nonneg _ (Int.ne_of_gt h0)) (Int.emod_lt_of_pos _ h0)
  split
  · intro l2
    simp only [gInt, get_some, gI, cI, cMod, cDiv, gMod, gDiv]
    exact ⟨h0, fun l3 => ⟨⟨h0, h1⟩, _, n + 2, rfl, by omega, Qb _⟩⟩
  · intro ns k1 k2 l2 l20 l21
    simp only [gInt, get_some, gI, cI, cMod, gMod, List.length_map]
    have kz : (0 : Int) < (ns.length : Int) := by omega
    refine ⟨kz, ?_⟩
    obtain ⟨a, ea, ma⟩ := atI_lt (xs := ns.map D.int) (i := l2 % (ns.length : Int)) (Int.emod_nonneg _ (by omega)) (by rw [List.length_map]; exact Int.emod_lt_of_pos _ kz)
    obtain ⟨c, _, rfl⟩ := List.mem_map.mp ma
    rw [ea]
    simp only [get_some]
    intro l3 l30 l31
    simp only [gAdd, cAdd, get_some, true_and]
    refine ⟨_, rfl, by omega, by omega, ?_⟩
    simp only [gPow, cPow, gI, cI, get_some]
    refine ⟨⟨by decide, by decide, by decide⟩, ?_⟩
    simp only [bl_bl, get_some]
    split
    · intro l4 l40 l41
      split
      · exact ⟨⟨h0, h1⟩, _, n + 2, rfl, by omega, h0, Qb _⟩
      · intro l5 l50 l51
        refine ⟨_, rfl, by omega, by omega, ?_⟩
        intro l6 l60 l61
        refine ⟨c, l6, rfl, l60, by omega, fun r => ?_⟩
        intro l7 l70 l71
        refine ⟨r, l7, rfl, l70, by omega, fun r2 => ?_⟩
        exact ⟨h0, Qb _⟩
    · intro l5 l50 l51
      refine ⟨_, rfl, by omega, by omega, ?_⟩
      intro l6 l60 l61
      refine ⟨c, l6, rfl, l60, by omega, fun r => ?_⟩
      intro l7 l70 l71
      refine ⟨r, l7, rfl, l70, by omega, fun r2 => ?_⟩
      exact ⟨h0, Qb _⟩
theorem sc__law_made : FnScope ["what", "more", "rest", "errs"] ["what", "more", "rest"] (defScope (top 39)) := ⟨rfl, rfl, rfl, by decide +kernel, rfl, by decide +kernel, by decide +kernel⟩
theorem ok__law_made {P : Program} {w : World} {K : PySem.W.Frag} {mg : Str → Option Value} {base : Heap} (T : Txt K mg) (Z : Ec K mg) (bk : Bk K mg) {f : Addr} {fd : FuncData} (U : Fun K "_law_made" "_law_made" (top 39) f fd) (dr : Option Addr) :
    FnG P w K mg base 1 f fd ["what", "more", "rest"] (SpD K dr [false, false, false] F__law_made) := by
  refine fnd_of (k := 0) U sc__law_made rfl (fun cdv A callers s0 H E G0 hr hga =>
    (sd_cons (sd_set 3 sc__law_made.nd (pd_lst (ad_cons (pd_mkE Z.BadChapter hr (ad_cons (pd_var 0 (pv 0)) ad_nil)) (ad_cons (pd_mkE Z.BadToken hr (ad_cons (pd_var 0 (pv 0)) ad_nil)) (ad_cons (pd_mkE Z.BadKind hr (ad_cons (pd_var 0 (pv 0)) ad_nil)) (ad_cons (pd_mkE Z.BadStyle hr (ad_cons (pd_var 0 (pv 0)) ad_nil)) (ad_cons (pd_mkE Z.BadLink hr (ad_cons (pd_var 0 (pv 0)) ad_nil)) (ad_cons (pd_mkE Z.BadNumber hr (ad_cons (pd_var 0 (pv 0)) ad_nil)) ad_nil))))))))
      (sd_cons (sd_set 3 sc__law_made.nd (pd_add (pd_var 3 (pv 3)) (pd_lst (ad_cons (pd_mkE Z.BadSpot hr (ad_cons (pd_var 0 (pv 0)) ad_nil)) (ad_cons (pd_mkE Z.NoSpot hr (ad_cons (pd_var 0 (pv 0)) ad_nil)) (ad_cons (pd_mkE Z.BadText hr (ad_cons (pd_var 0 (pv 0)) (ad_cons (pd_var 1 (pv 1)) ad_nil))) (ad_cons (pd_mkE Z.BadPatch hr (ad_cons (pd_var 0 (pv 0)) (ad_cons (pd_var 1 (pv 1)) ad_nil))) (ad_cons (pd_mkE Z.Misfit hr (ad_cons (pd_var 0 (pv 0)) ad_nil)) ad_nil))))))))
      (sd_cons (sd_set 3 sc__law_made.nd (pd_add (pd_var 3 (pv 3)) (pd_lst (ad_cons (pd_mkE Z.Conflict hr (ad_cons (pd_var 0 (pv 0)) ad_nil)) (ad_cons (pd_mkE Z.NoNode hr (ad_cons (pd_var 0 (pv 0)) ad_nil)) (ad_cons (pd_mkE Z.TooLong hr (ad_cons (pd_var 0 (pv 0)) ad_nil)) (ad_cons (pd_mkE Z.BadBranch hr (ad_cons (pd_var 0 (pv 0)) (ad_cons (pd_var 1 (pv 1)) ad_nil))) (ad_cons (pd_mkE Z.Clash hr (ad_cons (pd_var 0 (pv 0)) (ad_cons (pd_var 1 (pv 1)) (ad_cons (pd_var 2 (pv 2)) ad_nil)))) ad_nil))))))))
      (sd_cons (sd_set 3 sc__law_made.nd (pd_add (pd_var 3 (pv 3)) (pd_lst (ad_cons (pd_mkE Z.BadBook hr (ad_cons (pd_var 0 (pv 0)) (ad_cons (pd_var 1 (pv 1)) ad_nil))) (ad_cons (pd_mkE Z.NoItem hr (ad_cons (pd_var 0 (pv 0)) ad_nil)) (ad_cons (pd_mkE Z.NoChapter hr (ad_cons (pd_var 0 (pv 0)) ad_nil)) (ad_cons (pd_mkE Z.NotInSlots hr (ad_cons (pd_var 0 (pv 0)) ad_nil)) (ad_cons (pd_mkEK Z.NotNeighbors hr kd_nil) ad_nil))))))))
      (sd_cons (sd_set 3 sc__law_made.nd (pd_add (pd_var 3 (pv 3)) (pd_lst (ad_cons (pd_mkE Z.BadOrder hr (ad_cons (pd_var 0 (pv 0)) ad_nil)) (ad_cons (pd_mkE Z.BadNames hr (ad_cons (pd_var 0 (pv 0)) ad_nil)) (ad_cons (pd_mkEK Z.NoMain hr kd_nil) (ad_cons (pd_mkE Z.TooMany hr (ad_cons (pd_var 0 (pv 0)) ad_nil)) (ad_cons (pd_mkE Z.Unsound hr (ad_cons (pd_var 0 (pv 0)) (ad_cons (pd_var 1 (pv 1)) ad_nil))) (ad_cons (pd_mkEK Z.Busy hr kd_nil) (ad_cons (pd_mkE Z.NoMark hr (ad_cons (pd_var 0 (pv 0)) ad_nil)) ad_nil))))))))))
      (sd_cons (sd_set 3 sc__law_made.nd (pd_add (pd_var 3 (pv 3)) (pd_lst (ad_cons (pd_mkE Z.BadOctets hr (ad_cons (pd_var 0 (pv 0)) ad_nil)) (ad_cons (pd_mkE Z.BadEntry hr (ad_cons (pd_var 0 (pv 0)) ad_nil)) (ad_cons (pd_mkE Z.BadArchive hr (ad_cons (pd_var 0 (pv 0)) (ad_cons (pd_var 1 (pv 1)) ad_nil))) (ad_cons (pd_mkE Z.Refused hr (ad_cons (pd_var 0 (pv 0)) (ad_cons (pd_var 1 (pv 1)) ad_nil))) ad_nil)))))))
      (sd_one (sd_ret (pd_add (pd_var 3 (pv 3)) (pd_lst (ad_cons (pd_mkE Z.Unrecoverable hr (ad_cons (pd_var 0 (pv 0)) ad_nil)) ad_nil)))))))))))) ?_
  intro ds n Q hl hF
  obtain ⟨w, m, r, rfl, q⟩ := hF
  simp (config := {maxSteps := 10000000}) only [↓f_wC, ↓f_wVar, ↓f_wBin, ↓f_wBinV, ↓f_wBinR, ↓f_wT, ↓f_wChain, ↓f_wTru, ↓f_wTruV, ↓f_tAnd, ↓f_tOr, ↓f_tNot, ↓f_andV, ↓f_orV, ↓f_notV, ↓f_if, ↓f_noPart, ↓f_part, ↓f_sl, ↓f_slV, ↓f_nil, ↓f_cons, ↓f_bor, ↓f_tup, ↓f_lst, ↓f_fn, ↓f_isi, ↓f_mt, ↓f_call, ↓f_next, ↓f_seq, ↓f_break, ↓f_cont, ↓f_drop, ↓f_ret, ↓f_retN, ↓f_ifS, ↓f_set, ↓f_ofL, ↓f_sz, ↓f_own, ↓f_par, ↓f_par3, ↓f_asgT, ↓f_iL, ↓f_iT, ↓f_iS, ↓f_iR1, ↓f_for, ↓f_lc, ↓f_yes, ↓f_dgL, ↓f_dgA, ↓f_dgC, ↓f_dpL, ↓f_dpA, ↓f_app, ↓f_pop, env0, env1, ↓bl_bl, ↓int_int, ↓str_str, ↓get_some, get_if, vget, ownE, List.length_cons, List.length_nil, List.replicate, List.getElem?_cons_zero, List.getElem?_cons_succ, List.set_cons_zero, List.set_cons_succ, Nat.zero_add, Nat.add_sub_cancel, Nat.reduceAdd, Nat.reduceSub, Nat.reduceLT, Nat.reduceLeDiff, true_and, if_true, if_false, Bool.false_eq_true, List.length_set, gLt, gLe, gGt, gGe, gIx, gLen, cLen, cT, cIx, gIsi, tyD, Option.map_some, gIn, gNin, cIn, gAll, c0, lstD, tupD, innE, wipeE, toBor, Bool.not_false, Bool.not_true, eq_self, List.map_cons, List.map_nil, ↓f_wMk, ↓f_wMkK, ↓f_wAt, ↓f_wG, ↓f_wiE, ↓f_wDic]
  simp only [gAdd, cAdd, get_some, List.cons_append, List.nil_append, List.length_cons, List.length_nil, Nat.reduceAdd, Nat.zero_add]
  repeat' (first | exact q | exact line2 (by decide) | refine ⟨?_, ?_⟩)
theorem sc__law_kinds : FnScope ["e", "told"] ["e"] (defScope (top 40)) := ⟨rfl, rfl, rfl, by decide +kernel, rfl, by decide +kernel, by decide +kernel⟩
theorem ok__law_kinds {P : Program} {w : World} {K : PySem.W.Frag} {mg : Str → Option Value} {base : Heap} (T : Txt K mg) (Z : Ec K mg) (bk : Bk K mg) {f : Addr} {fd : FuncData} (U : Fun K "_law_kinds" "_law_kinds" (top 40) f fd) (dr : Option Addr) :
    FnG P w K mg base 1 f fd ["e"] (SpD K dr [false] F__law_kinds) := by
  refine fnd_of (k := 0) U sc__law_kinds rfl (fun cdv A callers s0 H E G0 hr hga =>
    (sd_cons (sd_set 1 sc__law_kinds.nd (pd_lst (ad_cons (pd_isE Z.BadChapter bk (pd_var 0 (pv 0)) T.isinstance) (ad_cons (pd_isE Z.BadToken bk (pd_var 0 (pv 0)) T.isinstance) (ad_cons (pd_isE Z.BadKind bk (pd_var 0 (pv 0)) T.isinstance) (ad_cons (pd_isE Z.BadStyle bk (pd_var 0 (pv 0)) T.isinstance) ad_nil))))))
      (sd_cons (sd_set 1 sc__law_kinds.nd (pd_add (pd_var 1 (pv 1)) (pd_lst (ad_cons (pd_isE Z.BadLink bk (pd_var 0 (pv 0)) T.isinstance) (ad_cons (pd_isE Z.BadNumber bk (pd_var 0 (pv 0)) T.isinstance) (ad_cons (pd_isE Z.BadSpot bk (pd_var 0 (pv 0)) T.isinstance) (ad_cons (pd_isE Z.NoSpot bk (pd_var 0 (pv 0)) T.isinstance) ad_nil)))))))
      (sd_cons (sd_set 1 sc__law_kinds.nd (pd_add (pd_var 1 (pv 1)) (pd_lst (ad_cons (pd_isE Z.BadText bk (pd_var 0 (pv 0)) T.isinstance) (ad_cons (pd_isE Z.BadPatch bk (pd_var 0 (pv 0)) T.isinstance) (ad_cons (pd_isE Z.Misfit bk (pd_var 0 (pv 0)) T.isinstance) (ad_cons (pd_isE Z.Conflict bk (pd_var 0 (pv 0)) T.isinstance) ad_nil)))))))
      (sd_cons (sd_set 1 sc__law_kinds.nd (pd_add (pd_var 1 (pv 1)) (pd_lst (ad_cons (pd_isE Z.NoNode bk (pd_var 0 (pv 0)) T.isinstance) (ad_cons (pd_isE Z.TooLong bk (pd_var 0 (pv 0)) T.isinstance) (ad_cons (pd_isE Z.BadBranch bk (pd_var 0 (pv 0)) T.isinstance) (ad_cons (pd_isE Z.Clash bk (pd_var 0 (pv 0)) T.isinstance) ad_nil)))))))
      (sd_cons (sd_set 1 sc__law_kinds.nd (pd_add (pd_var 1 (pv 1)) (pd_lst (ad_cons (pd_isE Z.BadBook bk (pd_var 0 (pv 0)) T.isinstance) (ad_cons (pd_isE Z.NoItem bk (pd_var 0 (pv 0)) T.isinstance) (ad_cons (pd_isE Z.NoChapter bk (pd_var 0 (pv 0)) T.isinstance) ad_nil))))))
      (sd_cons (sd_set 1 sc__law_kinds.nd (pd_add (pd_var 1 (pv 1)) (pd_lst (ad_cons (pd_isE Z.NotInSlots bk (pd_var 0 (pv 0)) T.isinstance) (ad_cons (pd_isE Z.NotNeighbors bk (pd_var 0 (pv 0)) T.isinstance) (ad_cons (pd_isE Z.BadOrder bk (pd_var 0 (pv 0)) T.isinstance) ad_nil))))))
      (sd_cons (sd_set 1 sc__law_kinds.nd (pd_add (pd_var 1 (pv 1)) (pd_lst (ad_cons (pd_isE Z.BadNames bk (pd_var 0 (pv 0)) T.isinstance) (ad_cons (pd_isE Z.NoMain bk (pd_var 0 (pv 0)) T.isinstance) (ad_cons (pd_isE Z.TooMany bk (pd_var 0 (pv 0)) T.isinstance) (ad_cons (pd_isE Z.Unsound bk (pd_var 0 (pv 0)) T.isinstance) ad_nil)))))))
      (sd_cons (sd_set 1 sc__law_kinds.nd (pd_add (pd_var 1 (pv 1)) (pd_lst (ad_cons (pd_isE Z.Busy bk (pd_var 0 (pv 0)) T.isinstance) (ad_cons (pd_isE Z.NoMark bk (pd_var 0 (pv 0)) T.isinstance) (ad_cons (pd_isE Z.BadOctets bk (pd_var 0 (pv 0)) T.isinstance) (ad_cons (pd_isE Z.BadEntry bk (pd_var 0 (pv 0)) T.isinstance) ad_nil)))))))
      (sd_one (sd_ret (pd_add (pd_var 1 (pv 1)) (pd_lst (ad_cons (pd_isE Z.BadArchive bk (pd_var 0 (pv 0)) T.isinstance) (ad_cons (pd_isE Z.Refused bk (pd_var 0 (pv 0)) T.isinstance) (ad_cons (pd_isE Z.Unrecoverable bk (pd_var 0 (pv 0)) T.isinstance) ad_nil)))))))))))))))) ?_
  intro ds n Q hl hF
  obtain ⟨nm, fs, xs, rfl, q⟩ := hF
  simp (config := {maxSteps := 10000000}) only [↓f_wC, ↓f_wVar, ↓f_wBin, ↓f_wBinV, ↓f_wBinR, ↓f_wT, ↓f_wChain, ↓f_wTru, ↓f_wTruV, ↓f_tAnd, ↓f_tOr, ↓f_tNot, ↓f_andV, ↓f_orV, ↓f_notV, ↓f_if, ↓f_noPart, ↓f_part, ↓f_sl, ↓f_slV, ↓f_nil, ↓f_cons, ↓f_bor, ↓f_tup, ↓f_lst, ↓f_fn, ↓f_isi, ↓f_mt, ↓f_call, ↓f_next, ↓f_seq, ↓f_break, ↓f_cont, ↓f_drop, ↓f_ret, ↓f_retN, ↓f_ifS, ↓f_set, ↓f_ofL, ↓f_sz, ↓f_own, ↓f_par, ↓f_par3, ↓f_asgT, ↓f_iL, ↓f_iT, ↓f_iS, ↓f_iR1, ↓f_for, ↓f_lc, ↓f_yes, ↓f_dgL, ↓f_dgA, ↓f_dgC, ↓f_dpL, ↓f_dpA, ↓f_app, ↓f_pop, env0, env1, ↓bl_bl, ↓int_int, ↓str_str, ↓get_some, get_if, vget, ownE, List.length_cons, List.length_nil, List.replicate, List.getElem?_cons_zero, List.getElem?_cons_succ, List.set_cons_zero, List.set_cons_succ, Nat.zero_add, Nat.add_sub_cancel, Nat.reduceAdd, Nat.reduceSub, Nat.reduceLT, Nat.reduceLeDiff, true_and, if_true, if_false, Bool.false_eq_true, List.length_set, gLt, gLe, gGt, gGe, gIx, gLen, cLen, cT, cIx, gIsi, tyD, Option.map_some, gIn, gNin, cIn, gAll, c0, lstD, tupD, innE, wipeE, toBor, Bool.not_false, Bool.not_true, eq_self, List.map_cons, List.map_nil, ↓f_wMk, ↓f_wMkK, ↓f_wAt, ↓f_wG, ↓f_wiE, ↓f_wDic]
  simp only [gIsE, gAdd, cAdd, get_some, List.cons_append, List.nil_append, List.length_cons, List.length_nil, Nat.reduceAdd, Nat.zero_add]
  repeat' (first | exact q | exact line2 (by decide) | refine ⟨?_, ?_⟩)
theorem sc__law_families_right : FnScope ["errs", "at", "e", "k"] ["errs"] (defScope (top 41)) := ⟨rfl, rfl, rfl, by decide +kernel, rfl, by decide +kernel, by decide +kernel⟩
theorem ok__law_families_right {P : Program} {w : World} {K : PySem.W.Frag} {mg : Str → Option Value} {base : Heap} (T : Txt K mg) (Z : Ec K mg) (bk : Bk K mg) (D__law_kinds : Dn P w K mg base 1 "_law_kinds" ["e"] F__law_kinds) {f : Addr} {fd : FuncData} (U : Fun K "_law_families_right" "_law_families_right" (top 41) f fd) (dr : Option Addr) :
    FnG P w K mg base 2 f fd ["errs"] (SpD K dr [false] F__law_families_right) := by
  refine fnd_of (k := 1) U sc__law_families_right rfl (fun cdv A callers s0 H E G0 hr hga =>
    (sd_cons (sd_for (id_enum (pd_var 0 (pv 0)) T.enumerate) (gd_tup (n := 2) (gds_cons (gd_name 1 sc__law_families_right.nd) (gds_cons (gd_name 2 sc__law_families_right.nd) gds_nil))) (sd_cons (sd_if (PW.pt (wd_or (td_cmp (cm_ne hr) (pd_cl D__law_kinds hr (by decide) hga (ad_cons (pd_var 2 (pv 2)) ad_nil)) (pd_ofL (ld_lc (own := [("k", 3)]) sc__law_families_right.nd (id_range1 (ad_cons pd_int ad_nil) T.range) (lct_name) (by change blkC ["errs", "at", "e", "k"] (defScope (top 41)) _ _ = true; decide +kernel) (fun _ _ _ _ _ => pg_name (i := 3) sc__law_families_right.nd rfl (.inl rfl)) (fun _ _ _ _ _ _ _ => (pts_yes)) (fun _ _ _ _ _ _ _ => (pd_cmp (cm_eq hr) (pd_var 3 (pv 3)) (pd_var 1 (pv 1))))))) (wd_or1 (td_not (td_val (pd_isB bk (pd_var 2 (pv 2)) T.isinstance)))))) (sd_one (sd_ret pd_bl)) sd_nil)
      (sd_one (sd_if (PW.pt (wd_or (td_not (td_val (pd_isV (pd_var 2 (pv 2)) T.isinstance T.ValueError))) (wd_or1 (td_val (pd_isT (pd_var 2 (pv 2)) T.isinstance T.LookupError T.RuntimeError))))) (sd_one (sd_ret pd_bl)) sd_nil))))
      (sd_one (sd_ret (pd_cmp (cm_eq hr) (pd_bt bt_len T.len (ad_cons (pd_var 0 (pv 0)) ad_nil)) pd_int))))) ?_
  intro ds n Q hl hF
  obtain ⟨w, m, r, rfl, q⟩ := hF
  simp (config := {maxSteps := 10000000}) only [↓f_wC, ↓f_wVar, ↓f_wBin, ↓f_wBinV, ↓f_wBinR, ↓f_wT, ↓f_wChain, ↓f_wTru, ↓f_wTruV, ↓f_tAnd, ↓f_tOr, ↓f_tNot, ↓f_andV, ↓f_orV, ↓f_notV, ↓f_if, ↓f_noPart, ↓f_part, ↓f_sl, ↓f_slV, ↓f_nil, ↓f_cons, ↓f_bor, ↓f_tup, ↓f_lst, ↓f_fn, ↓f_isi, ↓f_mt, ↓f_call, ↓f_next, ↓f_seq, ↓f_break, ↓f_cont, ↓f_drop, ↓f_ret, ↓f_retN, ↓f_ifS, ↓f_set, ↓f_ofL, ↓f_sz, ↓f_own, ↓f_par, ↓f_par3, ↓f_asgT, ↓f_iL, ↓f_iT, ↓f_iS, ↓f_iR1, ↓f_for, ↓f_lc, ↓f_yes, ↓f_dgL, ↓f_dgA, ↓f_dgC, ↓f_dpL, ↓f_dpA, ↓f_app, ↓f_pop, env0, env1, ↓bl_bl, ↓int_int, ↓str_str, ↓get_some, get_if, vget, ownE, List.length_cons, List.length_nil, List.replicate, List.getElem?_cons_zero, List.getElem?_cons_succ, List.set_cons_zero, List.set_cons_succ, Nat.zero_add, Nat.add_sub_cancel, Nat.reduceAdd, Nat.reduceSub, Nat.reduceLT, Nat.reduceLeDiff, true_and, if_true, if_false, Bool.false_eq_true, List.length_set, gLt, gLe, gGt, gGe, gIx, gLen, cLen, cT, cIx, gIsi, tyD, Option.map_some, gIn, gNin, cIn, gAll, c0, lstD, tupD, innE, wipeE, toBor, Bool.not_false, Bool.not_true, eq_self, List.map_cons, List.map_nil, ↓f_wMk, ↓f_wMkK, ↓f_wAt, ↓f_wG, ↓f_wiE, ↓f_wDic]
  refine fam_loop (fun x1 x2 x3 => ?_) _ fam_ok _ _ _
  show cLen [.lst (madeD w m r)] ∧ (cEq (.int 33) (.int 33) ∧ Q (.bl (eqD (.int 33) (.int 33))) n)
  exact ⟨trivial, .inl rfl, q⟩
theorem sc__law_fields : FnScope ["errs", "told"] ["errs"] (defScope (top 42)) := ⟨rfl, rfl, rfl, by decide +kernel, rfl, by decide +kernel, by decide +kernel⟩
theorem ok__law_fields {P : Program} {w : World} {K : PySem.W.Frag} {mg : Str → Option Value} {base : Heap} (T : Txt K mg) (Z : Ec K mg) (bk : Bk K mg) {f : Addr} {fd : FuncData} (U : Fun K "_law_fields" "_law_fields" (top 42) f fd) (dr : Option Addr) :
    FnG P w K mg base 1 f fd ["errs"] (SpD K dr [false] F__law_fields) := by
  refine fnd_of (k := 0) U sc__law_fields rfl (fun cdv A callers s0 H E G0 hr hga =>
    (sd_cons (sd_set 1 sc__law_fields.nd (pd_lst (ad_cons (pd_at "index" (pd_ix (pd_var 0 (pv 0)) pd_int)) (ad_cons (pd_at "index" (pd_ix (pd_var 0 (pv 0)) pd_int)) (ad_cons (pd_at "kind" (pd_ix (pd_var 0 (pv 0)) pd_int)) (ad_cons (pd_at "word" (pd_ix (pd_var 0 (pv 0)) pd_int)) (ad_cons (pd_at "link" (pd_ix (pd_var 0 (pv 0)) pd_int)) (ad_cons (pd_at "name" (pd_ix (pd_var 0 (pv 0)) pd_int)) (ad_cons (pd_at "number" (pd_ix (pd_var 0 (pv 0)) pd_int)) ad_nil)))))))))
      (sd_cons (sd_set 1 sc__law_fields.nd (pd_add (pd_var 1 (pv 1)) (pd_lst (ad_cons (pd_at "depth" (pd_ix (pd_var 0 (pv 0)) pd_int)) (ad_cons (pd_at "row" (pd_ix (pd_var 0 (pv 0)) pd_int)) (ad_cons (pd_at "column" (pd_ix (pd_var 0 (pv 0)) pd_int)) (ad_cons (pd_at "part" (pd_ix (pd_var 0 (pv 0)) pd_int)) (ad_cons (pd_at "number" (pd_ix (pd_var 0 (pv 0)) pd_int)) (ad_cons (pd_at "index" (pd_ix (pd_var 0 (pv 0)) pd_int)) ad_nil)))))))))
      (sd_cons (sd_set 1 sc__law_fields.nd (pd_add (pd_var 1 (pv 1)) (pd_lst (ad_cons (pd_at "place" (pd_ix (pd_var 0 (pv 0)) pd_int)) (ad_cons (pd_at "gap" (pd_ix (pd_var 0 (pv 0)) pd_int)) (ad_cons (pd_at "number" (pd_ix (pd_var 0 (pv 0)) pd_int)) (ad_cons (pd_at "side" (pd_ix (pd_var 0 (pv 0)) pd_int)) (ad_cons (pd_at "number" (pd_ix (pd_var 0 (pv 0)) pd_int)) (ad_cons (pd_at "first" (pd_ix (pd_var 0 (pv 0)) pd_int)) ad_nil)))))))))
      (sd_cons (sd_set 1 sc__law_fields.nd (pd_add (pd_var 1 (pv 1)) (pd_lst (ad_cons (pd_at "second" (pd_ix (pd_var 0 (pv 0)) pd_int)) (ad_cons (pd_at "place" (pd_ix (pd_var 0 (pv 0)) pd_int)) (ad_cons (pd_at "part" (pd_ix (pd_var 0 (pv 0)) pd_int)) (ad_cons (pd_at "number" (pd_ix (pd_var 0 (pv 0)) pd_int)) (ad_cons (pd_at "key" (pd_ix (pd_var 0 (pv 0)) pd_int)) (ad_cons (pd_at "key" (pd_ix (pd_var 0 (pv 0)) pd_int)) ad_nil)))))))))
      (sd_cons (sd_set 1 sc__law_fields.nd (pd_add (pd_var 1 (pv 1)) (pd_lst (ad_cons (pd_at "key" (pd_ix (pd_var 0 (pv 0)) pd_int)) (ad_cons (pd_at "number" (pd_ix (pd_var 0 (pv 0)) pd_int)) (ad_cons (pd_at "number" (pd_ix (pd_var 0 (pv 0)) pd_int)) (ad_cons (pd_at "part" (pd_ix (pd_var 0 (pv 0)) pd_int)) (ad_cons (pd_at "word" (pd_ix (pd_var 0 (pv 0)) pd_int)) (ad_cons (pd_at "path" (pd_ix (pd_var 0 (pv 0)) pd_int)) ad_nil)))))))))
      (sd_cons (sd_set 1 sc__law_fields.nd (pd_add (pd_var 1 (pv 1)) (pd_lst (ad_cons (pd_at "name" (pd_ix (pd_var 0 (pv 0)) pd_int)) (ad_cons (pd_at "index" (pd_ix (pd_var 0 (pv 0)) pd_int)) (ad_cons (pd_at "number" (pd_ix (pd_var 0 (pv 0)) pd_int)) (ad_cons (pd_at "word" (pd_ix (pd_var 0 (pv 0)) pd_int)) (ad_cons (pd_at "offset" (pd_ix (pd_var 0 (pv 0)) pd_int)) (ad_cons (pd_at "word" (pd_ix (pd_var 0 (pv 0)) pd_int)) ad_nil)))))))))
      (sd_one (sd_ret (pd_add (pd_var 1 (pv 1)) (pd_lst (ad_cons (pd_at "path" (pd_ix (pd_var 0 (pv 0)) pd_int)) (ad_cons (pd_at "word" (pd_ix (pd_var 0 (pv 0)) pd_int)) ad_nil))))))))))))) ?_
  intro ds n Q hl hF
  obtain ⟨w, m, r, rfl, q⟩ := hF
  simp (config := {maxSteps := 10000000}) only [↓f_wC, ↓f_wVar, ↓f_wBin, ↓f_wBinV, ↓f_wBinR, ↓f_wT, ↓f_wChain, ↓f_wTru, ↓f_wTruV, ↓f_tAnd, ↓f_tOr, ↓f_tNot, ↓f_andV, ↓f_orV, ↓f_notV, ↓f_if, ↓f_noPart, ↓f_part, ↓f_sl, ↓f_slV, ↓f_nil, ↓f_cons, ↓f_bor, ↓f_tup, ↓f_lst, ↓f_fn, ↓f_isi, ↓f_mt, ↓f_call, ↓f_next, ↓f_seq, ↓f_break, ↓f_cont, ↓f_drop, ↓f_ret, ↓f_retN, ↓f_ifS, ↓f_set, ↓f_ofL, ↓f_sz, ↓f_own, ↓f_par, ↓f_par3, ↓f_asgT, ↓f_iL, ↓f_iT, ↓f_iS, ↓f_iR1, ↓f_for, ↓f_lc, ↓f_yes, ↓f_dgL, ↓f_dgA, ↓f_dgC, ↓f_dpL, ↓f_dpA, ↓f_app, ↓f_pop, env0, env1, ↓bl_bl, ↓int_int, ↓str_str, ↓get_some, get_if, vget, ownE, List.length_cons, List.length_nil, List.replicate, List.getElem?_cons_zero, List.getElem?_cons_succ, List.set_cons_zero, List.set_cons_succ, Nat.zero_add, Nat.add_sub_cancel, Nat.reduceAdd, Nat.reduceSub, Nat.reduceLT, Nat.reduceLeDiff, true_and, if_true, if_false, Bool.false_eq_true, List.length_set, gLt, gLe, gGt, gGe, gIx, gLen, cLen, cT, cIx, gIsi, tyD, Option.map_some, gIn, gNin, cIn, gAll, c0, lstD, tupD, innE, wipeE, toBor, Bool.not_false, Bool.not_true, eq_self, List.map_cons, List.map_nil, ↓f_wMk, ↓f_wMkK, ↓f_wAt, ↓f_wG, ↓f_wiE, ↓f_wDic]
  simp only [↓fl_0_index, ↓fl_1_index, ↓fl_2_kind, ↓fl_3_word, ↓fl_4_link, ↓fl_5_name, ↓fl_6_number, ↓fl_7_depth, ↓fl_8_row, ↓fl_8_column, ↓fl_9_part, ↓fl_9_number, ↓fl_10_index, ↓fl_11_place, ↓fl_12_gap, ↓fl_13_number, ↓fl_14_side, ↓fl_14_number, ↓fl_15_first, ↓fl_15_second, ↓fl_15_place, ↓fl_16_part, ↓fl_16_number, ↓fl_17_key, ↓fl_18_key, ↓fl_19_key, ↓fl_21_number, ↓fl_22_number, ↓fl_24_part, ↓fl_25_word, ↓fl_25_path, ↓fl_27_name, ↓fl_28_index, ↓fl_29_number, ↓fl_30_word, ↓fl_30_offset, ↓fl_31_word, ↓fl_31_path, ↓fl_32_word, gAdd, cAdd, get_some, List.cons_append, List.nil_append, List.length_cons, List.length_nil, Nat.reduceAdd, Nat.zero_add]
  repeat' (first | exact q | exact line2 (by decide) | refine ⟨?_, ?_⟩)
theorem sc__law_due : FnScope ["what", "more", "rest", "due"] ["what", "more", "rest"] (defScope (top 43)) := ⟨rfl, rfl, rfl, by decide +kernel, rfl, by decide +kernel, by decide +kernel⟩
theorem ok__law_due {P : Program} {w : World} {K : PySem.W.Frag} {mg : Str → Option Value} {base : Heap} (T : Txt K mg) (Z : Ec K mg) (bk : Bk K mg) {f : Addr} {fd : FuncData} (U : Fun K "_law_due" "_law_due" (top 43) f fd) (dr : Option Addr) :
    FnG P w K mg base 1 f fd ["what", "more", "rest"] (SpD K dr [false, false, false] F__law_due) := by
  refine fnd_of (k := 0) U sc__law_due rfl (fun cdv A callers s0 H E G0 hr hga =>
    (sd_cons (sd_set 3 sc__law_due.nd (pd_add (pd_add (pd_add (pd_rep (pd_lst (ad_cons (pd_var 0 (pv 0)) ad_nil)) pd_int) (pd_lst (ad_cons (pd_var 0 (pv 0)) (ad_cons (pd_var 1 (pv 1)) (ad_cons (pd_var 0 (pv 0)) (ad_cons (pd_var 1 (pv 1)) ad_nil)))))) (pd_rep (pd_lst (ad_cons (pd_var 0 (pv 0)) ad_nil)) pd_int)) (pd_lst (ad_cons (pd_var 0 (pv 0)) (ad_cons (pd_var 1 (pv 1)) (ad_cons (pd_var 0 (pv 0)) (ad_cons (pd_var 1 (pv 1)) (ad_cons (pd_var 2 (pv 2)) (ad_cons (pd_var 0 (pv 0)) (ad_cons (pd_var 1 (pv 1)) ad_nil))))))))))
      (sd_one (sd_ret (pd_add (pd_add (pd_add (pd_add (pd_var 3 (pv 3)) (pd_rep (pd_lst (ad_cons (pd_var 0 (pv 0)) ad_nil)) pd_int)) (pd_lst (ad_cons (pd_var 0 (pv 0)) (ad_cons (pd_var 1 (pv 1)) ad_nil)))) (pd_rep (pd_lst (ad_cons (pd_var 0 (pv 0)) ad_nil)) pd_int)) (pd_lst (ad_cons (pd_var 0 (pv 0)) (ad_cons (pd_var 1 (pv 1)) (ad_cons (pd_var 0 (pv 0)) (ad_cons (pd_var 1 (pv 1)) (ad_cons (pd_var 0 (pv 0)) ad_nil))))))))))) ?_
  intro ds n Q hl hF
  obtain ⟨w, m, r, rfl, q⟩ := hF
  simp (config := {maxSteps := 10000000}) only [↓f_wC, ↓f_wVar, ↓f_wBin, ↓f_wBinV, ↓f_wBinR, ↓f_wT, ↓f_wChain, ↓f_wTru, ↓f_wTruV, ↓f_tAnd, ↓f_tOr, ↓f_tNot, ↓f_andV, ↓f_orV, ↓f_notV, ↓f_if, ↓f_noPart, ↓f_part, ↓f_sl, ↓f_slV, ↓f_nil, ↓f_cons, ↓f_bor, ↓f_tup, ↓f_lst, ↓f_fn, ↓f_isi, ↓f_mt, ↓f_call, ↓f_next, ↓f_seq, ↓f_break, ↓f_cont, ↓f_drop, ↓f_ret, ↓f_retN, ↓f_ifS, ↓f_set, ↓f_ofL, ↓f_sz, ↓f_own, ↓f_par, ↓f_par3, ↓f_asgT, ↓f_iL, ↓f_iT, ↓f_iS, ↓f_iR1, ↓f_for, ↓f_lc, ↓f_yes, ↓f_dgL, ↓f_dgA, ↓f_dgC, ↓f_dpL, ↓f_dpA, ↓f_app, ↓f_pop, env0, env1, ↓bl_bl, ↓int_int, ↓str_str, ↓get_some, get_if, vget, ownE, List.length_cons, List.length_nil, List.replicate, List.getElem?_cons_zero, List.getElem?_cons_succ, List.set_cons_zero, List.set_cons_succ, Nat.zero_add, Nat.add_sub_cancel, Nat.reduceAdd, Nat.reduceSub, Nat.reduceLT, Nat.reduceLeDiff, true_and, if_true, if_false, Bool.false_eq_true, List.length_set, gLt, gLe, gGt, gGe, gIx, gLen, cLen, cT, cIx, gIsi, tyD, Option.map_some, gIn, gNin, cIn, gAll, c0, lstD, tupD, innE, wipeE, toBor, Bool.not_false, Bool.not_true, eq_self, List.map_cons, List.map_nil, ↓f_wMk, ↓f_wMkK, ↓f_wAt, ↓f_wG, ↓f_wiE, ↓f_wDic]
  have r8 : (List.replicate (Int.toNat 8) [w]).flatten = [w, w, w, w, w, w, w, w] := rfl
  have r4 : (List.replicate (Int.toNat 4) [w]).flatten = [w, w, w, w] := rfl
  have r6 : (List.replicate (Int.toNat 6) [w]).flatten = [w, w, w, w, w, w] := rfl
  have r3 : (List.replicate (Int.toNat 3) [w]).flatten = [w, w, w] := rfl
  simp only [gRep, cRep, r8, r4, r6, r3, gAdd, cAdd, get_some, List.cons_append, List.nil_append, List.length_cons, List.length_nil, Nat.reduceAdd, Nat.zero_add]
  repeat' (first | exact q | decide | exact line2 (by decide) | refine ⟨?_, ?_⟩)
theorem sc__law_named : FnScope ["what", "more", "rest", "one", "two", "told"] ["what", "more", "rest"] (defScope (top 44)) := ⟨rfl, rfl, rfl, by decide +kernel, rfl, by decide +kernel, by decide +kernel⟩
theorem ok__law_named {P : Program} {w : World} {K : PySem.W.Frag} {mg : Str → Option Value} {base : Heap} (T : Txt K mg) (Z : Ec K mg) (bk : Bk K mg) {f : Addr} {fd : FuncData} (U : Fun K "_law_named" "_law_named" (top 44) f fd) (dr : Option Addr) :
    FnG P w K mg base 1 f fd ["what", "more", "rest"] (SpD K dr [false, false, false] F__law_named) := by
  refine fnd_of (k := 0) U sc__law_named rfl (fun cdv A callers s0 H E G0 hr hga =>
    (sd_cons (sd_par 3 4 sc__law_named.nd (ad_cons (pd_mkEK Z.BadText hr (kd_cons (pd_var 1 (pv 1)) (kd_cons (pd_var 0 (pv 0)) kd_nil))) (ad_cons (pd_mkEK Z.BadPatch hr (kd_cons (pd_var 1 (pv 1)) (kd_cons (pd_var 0 (pv 0)) kd_nil))) ad_nil)))
      (sd_cons (sd_set 5 sc__law_named.nd (pd_lst (ad_cons (pd_at "row" (pd_var 3 (pv 3))) (ad_cons (pd_at "column" (pd_var 3 (pv 3))) (ad_cons (pd_at "part" (pd_var 4 (pv 4))) (ad_cons (pd_at "number" (pd_var 4 (pv 4))) ad_nil))))))
      (sd_cons (sd_par 3 4 sc__law_named.nd (ad_cons (pd_mkEK Z.BadBranch hr (kd_cons (pd_var 1 (pv 1)) (kd_cons (pd_var 0 (pv 0)) kd_nil))) (ad_cons (pd_mkEK Z.BadBook hr (kd_cons (pd_var 1 (pv 1)) (kd_cons (pd_var 0 (pv 0)) kd_nil))) ad_nil)))
      (sd_cons (sd_set 5 sc__law_named.nd (pd_add (pd_var 5 (pv 5)) (pd_lst (ad_cons (pd_at "side" (pd_var 3 (pv 3))) (ad_cons (pd_at "number" (pd_var 3 (pv 3))) (ad_cons (pd_at "part" (pd_var 4 (pv 4))) (ad_cons (pd_at "number" (pd_var 4 (pv 4))) ad_nil)))))))
      (sd_cons (sd_par 3 4 sc__law_named.nd (ad_cons (pd_mkEK Z.Unsound hr (kd_cons (pd_var 1 (pv 1)) (kd_cons (pd_var 0 (pv 0)) kd_nil))) (ad_cons (pd_mkEK Z.BadArchive hr (kd_cons (pd_var 1 (pv 1)) (kd_cons (pd_var 0 (pv 0)) kd_nil))) ad_nil)))
      (sd_cons (sd_set 5 sc__law_named.nd (pd_add (pd_var 5 (pv 5)) (pd_lst (ad_cons (pd_at "word" (pd_var 3 (pv 3))) (ad_cons (pd_at "path" (pd_var 3 (pv 3))) (ad_cons (pd_at "word" (pd_var 4 (pv 4))) (ad_cons (pd_at "offset" (pd_var 4 (pv 4))) ad_nil)))))))
      (sd_cons (sd_par 3 4 sc__law_named.nd (ad_cons (pd_mkEK Z.Refused hr (kd_cons (pd_var 1 (pv 1)) (kd_cons (pd_var 0 (pv 0)) kd_nil))) (ad_cons (pd_mkEK Z.Clash hr (kd_cons (pd_var 2 (pv 2)) (kd_cons (pd_var 1 (pv 1)) (kd_cons (pd_var 0 (pv 0)) kd_nil)))) ad_nil)))
      (sd_cons (sd_set 5 sc__law_named.nd (pd_add (pd_var 5 (pv 5)) (pd_lst (ad_cons (pd_at "word" (pd_var 3 (pv 3))) (ad_cons (pd_at "path" (pd_var 3 (pv 3))) (ad_cons (pd_at "first" (pd_var 4 (pv 4))) (ad_cons (pd_at "second" (pd_var 4 (pv 4))) ad_nil)))))))
      (sd_cons (sd_if (PW.pt (wd_or (td_cmp (cm_ne hr) (pd_bt (bt_reprX hr hga) T.repr (ad_cons (pd_var 5 (pv 5)) ad_nil)) (pd_bt (bt_reprX hr hga) T.repr (ad_cons (pd_rep (pd_lst (ad_cons (pd_var 0 (pv 0)) (ad_cons (pd_var 1 (pv 1)) ad_nil))) pd_int) ad_nil))) (wd_or1 (td_cmp (cm_ne hr) (pd_bt (bt_reprX hr hga) T.repr (ad_cons (pd_at "place" (pd_var 4 (pv 4))) ad_nil)) (pd_bt (bt_reprX hr hga) T.repr (ad_cons (pd_var 2 (pv 2)) ad_nil)))))) (sd_one (sd_ret pd_bl)) sd_nil)
      (sd_cons (sd_set 5 sc__law_named.nd (pd_lst (ad_cons (pd_at "index" (pd_mkEK Z.BadChapter hr (kd_cons (pd_var 0 (pv 0)) kd_nil))) (ad_cons (pd_at "kind" (pd_mkEK Z.BadKind hr (kd_cons (pd_var 0 (pv 0)) kd_nil))) (ad_cons (pd_at "link" (pd_mkEK Z.BadLink hr (kd_cons (pd_var 0 (pv 0)) kd_nil))) (ad_cons (pd_at "depth" (pd_mkEK Z.NoSpot hr (kd_cons (pd_var 0 (pv 0)) kd_nil))) ad_nil))))))
      (sd_cons (sd_set 5 sc__law_named.nd (pd_add (pd_var 5 (pv 5)) (pd_lst (ad_cons (pd_at "name" (pd_mkEK Z.BadNumber hr (kd_cons (pd_var 0 (pv 0)) kd_nil))) (ad_cons (pd_at "place" (pd_mkEK Z.Conflict hr (kd_cons (pd_var 0 (pv 0)) kd_nil))) (ad_cons (pd_at "gap" (pd_mkEK Z.NoNode hr (kd_cons (pd_var 0 (pv 0)) kd_nil))) (ad_cons (pd_at "key" (pd_mkEK Z.NoItem hr (kd_cons (pd_var 0 (pv 0)) kd_nil))) ad_nil)))))))
      (sd_cons (sd_set 5 sc__law_named.nd (pd_add (pd_var 5 (pv 5)) (pd_lst (ad_cons (pd_at "part" (pd_mkEK Z.TooMany hr (kd_cons (pd_var 0 (pv 0)) kd_nil))) (ad_cons (pd_at "name" (pd_mkEK Z.NoMark hr (kd_cons (pd_var 0 (pv 0)) kd_nil))) (ad_cons (pd_at "index" (pd_mkEK Z.BadToken hr (kd_cons (pd_var 0 (pv 0)) kd_nil))) ad_nil))))))
      (sd_cons (sd_set 5 sc__law_named.nd (pd_add (pd_var 5 (pv 5)) (pd_lst (ad_cons (pd_at "word" (pd_mkEK Z.BadStyle hr (kd_cons (pd_var 0 (pv 0)) kd_nil))) (ad_cons (pd_at "number" (pd_mkEK Z.BadSpot hr (kd_cons (pd_var 0 (pv 0)) kd_nil))) (ad_cons (pd_at "index" (pd_mkEK Z.Misfit hr (kd_cons (pd_var 0 (pv 0)) kd_nil))) ad_nil))))))
      (sd_cons (sd_set 5 sc__law_named.nd (pd_add (pd_var 5 (pv 5)) (pd_lst (ad_cons (pd_at "number" (pd_mkEK Z.TooLong hr (kd_cons (pd_var 0 (pv 0)) kd_nil))) (ad_cons (pd_at "key" (pd_mkEK Z.NoChapter hr (kd_cons (pd_var 0 (pv 0)) kd_nil))) (ad_cons (pd_at "key" (pd_mkEK Z.NotInSlots hr (kd_cons (pd_var 0 (pv 0)) kd_nil))) ad_nil))))))
      (sd_cons (sd_set 5 sc__law_named.nd (pd_add (pd_var 5 (pv 5)) (pd_lst (ad_cons (pd_at "number" (pd_mkEK Z.BadOrder hr (kd_cons (pd_var 0 (pv 0)) kd_nil))) (ad_cons (pd_at "number" (pd_mkEK Z.BadNames hr (kd_cons (pd_var 0 (pv 0)) kd_nil))) (ad_cons (pd_at "index" (pd_mkEK Z.BadOctets hr (kd_cons (pd_var 0 (pv 0)) kd_nil))) ad_nil))))))
      (sd_cons (sd_set 5 sc__law_named.nd (pd_add (pd_var 5 (pv 5)) (pd_lst (ad_cons (pd_at "number" (pd_mkEK Z.BadEntry hr (kd_cons (pd_var 0 (pv 0)) kd_nil))) (ad_cons (pd_at "word" (pd_mkEK Z.Unrecoverable hr (kd_cons (pd_var 0 (pv 0)) kd_nil))) ad_nil)))))
      (sd_one (sd_ret (pd_cmp (cm_eq hr) (pd_bt (bt_reprX hr hga) T.repr (ad_cons (pd_var 5 (pv 5)) ad_nil)) (pd_bt (bt_reprX hr hga) T.repr (ad_cons (pd_rep (pd_lst (ad_cons (pd_var 0 (pv 0)) ad_nil)) pd_int) ad_nil)))))))))))))))))))))) ?_
  intro ds n Q hl hF
  obtain ⟨w, m, r, rfl, g1, g2, g3, q⟩ := hF
  simp (config := {maxSteps := 10000000}) only [↓f_wC, ↓f_wVar, ↓f_wBin, ↓f_wBinV, ↓f_wBinR, ↓f_wT, ↓f_wChain, ↓f_wTru, ↓f_wTruV, ↓f_tAnd, ↓f_tOr, ↓f_tNot, ↓f_andV, ↓f_orV, ↓f_notV, ↓f_if, ↓f_noPart, ↓f_part, ↓f_sl, ↓f_slV, ↓f_nil, ↓f_cons, ↓f_bor, ↓f_tup, ↓f_lst, ↓f_fn, ↓f_isi, ↓f_mt, ↓f_call, ↓f_next, ↓f_seq, ↓f_break, ↓f_cont, ↓f_drop, ↓f_ret, ↓f_retN, ↓f_ifS, ↓f_set, ↓f_ofL, ↓f_sz, ↓f_own, ↓f_par, ↓f_par3, ↓f_asgT, ↓f_iL, ↓f_iT, ↓f_iS, ↓f_iR1, ↓f_for, ↓f_lc, ↓f_yes, ↓f_dgL, ↓f_dgA, ↓f_dgC, ↓f_dpL, ↓f_dpA, ↓f_app, ↓f_pop, env0, env1, ↓bl_bl, ↓int_int, ↓str_str, ↓get_some, get_if, vget, ownE, List.length_cons, List.length_nil, List.replicate, List.getElem?_cons_zero, List.getElem?_cons_succ, List.set_cons_zero, List.set_cons_succ, Nat.zero_add, Nat.add_sub_cancel, Nat.reduceAdd, Nat.reduceSub, Nat.reduceLT, Nat.reduceLeDiff, true_and, if_true, if_false, Bool.false_eq_true, List.length_set, gLt, gLe, gGt, gGe, gIx, gLen, cLen, cT, cIx, gIsi, tyD, Option.map_some, gIn, gNin, cIn, gAll, c0, lstD, tupD, innE, wipeE, toBor, Bool.not_false, Bool.not_true, eq_self, List.map_cons, List.map_nil, ↓f_wMk, ↓f_wMkK, ↓f_wAt, ↓f_wG, ↓f_wiE, ↓f_wDic]
  simp only [List.reverse_cons, List.reverse_nil, List.nil_append, List.cons_append, ↓ex2, fn_0_index, fn_1_index, fn_2_kind, fn_3_word, fn_4_link, fn_5_name, fn_6_number, fn_7_depth, fn_8_row, fn_8_column, fn_9_part, fn_9_number, fn_10_index, fn_11_place, fn_12_gap, fn_13_number, fn_14_side, fn_14_number, fn_15_first, fn_15_second, fn_15_place, fn_16_part, fn_16_number, fn_17_key, fn_18_key, fn_19_key, fn_21_number, fn_22_number, fn_24_part, fn_25_word, fn_25_path, fn_27_name, fn_28_index, fn_29_number, fn_30_word, fn_30_offset, fn_31_word, fn_31_path, fn_32_word, gRep, cRep, gAdd, cAdd, get_some, List.length_cons, List.length_nil, Nat.reduceAdd]
  have r8 : (List.replicate (Int.toNat 8) [w, m]).flatten = [w, m, w, m, w, m, w, m, w, m, w, m, w, m, w, m] := rfl
  have r22 : (List.replicate (Int.toNat 22) [w]).flatten = [w, w, w, w, w, w, w, w, w, w, w, w, w, w, w, w, w, w, w, w, w, w] := rfl
  have h16 : cReprX [.lst [w, m, w, m, w, m, w, m, w, m, w, m, w, m, w, m]] := by
    rw [← r8]
    refine lst_ok (fun d hd => ?_) (by show 16 ≤ 64; decide)
    obtain ⟨l, h1, h2⟩ := List.mem_flatten.mp hd
    obtain ⟨_, rfl⟩ := List.mem_replicate.mp h1
    cases h2 with
    | head => exact g1
    | tail _ h2 =>
      cases h2 with
      | head => exact g2
      | tail _ h2 => cases h2
  have h22 : cReprX [.lst [w, w, w, w, w, w, w, w, w, w, w, w, w, w, w, w, w, w, w, w, w, w]] := by
    rw [← r22]
    refine lst_ok (fun d hd => ?_) (by show 22 ≤ 64; decide)
    obtain ⟨l, h1, h2⟩ := List.mem_flatten.mp hd
    obtain ⟨_, rfl⟩ := List.mem_replicate.mp h1
    cases h2 with
    | head => exact g1
    | tail _ h2 => cases h2
  have h1 := one_ok g3
  simp only [r8, r22, gRepr, gNe, gEq, get_some, bl_bl, eq_self', Bool.not_true, Bool.false_eq_true, if_false]
  repeat' (first | exact q | exact h16 | exact h22 | exact h1 | exact .inl rfl | decide | exact line2 (by decide) | refine ⟨?_, ?_⟩)
theorem next_of {b : Int} {n : Nat} {Q : D → Nat → Prop} (h : n < 2 ^ 60) (h0 : 0 < b) (h1 : b < 1073741824) (q : ∀ r : Int, 0 ≤ r → r < b → Q (.int r) (n + 2)) : F__law_next.f [.drw, .int b] n Q := ⟨b, rfl, h, h0, h1, q⟩
theorem pick_of {xs : List D} {P : D → Prop} {r : Int} {Q : D → Prop} (h0 : 0 ≤ r) (h1 : r < (xs.length : Int)) (h : ∀ x ∈ xs, P x) (q : ∀ x, P x → Q x) : get (atI xs r) Q := by
  obtain ⟨a, e, m⟩ := atI_lt h0 h1
  rw [e]
  exact q a (h a m)
theorem join2 (s a b : Str) : (s.join [a, b]).length = a.length + s.length + b.length := by
  simp only [Str.join]
  rw [str_app, str_app]
theorem tup_len {i : Int} (h1 : -1000 ≤ i) (h2 : i ≤ 1000) : (PyData.tuple [.int i, .int 7]).shown.length ≤ 40 := by
  have z := int_len h1 h2
  have z7 : (PyData.int 7).shown.length ≤ 6 := by decide +kernel
  simp only [PyData.shown, PyData.shownAll, tupleText] at z z7 ⊢
  rw [str_app, str_app, join2]
  have e1 : (Str.ofString "(").length = 1 := by decide
  have e2 : (Str.ofString ", ").length = 2 := by decide
  have e3 : ∀ x : List Str, (Str.ofString (if (x.length == 1) = true then ",)" else ")")).length ≤ 2 := fun x => by split <;> decide
  refine Nat.le_trans (Nat.add_le_add_left (e3 _) _) ?_
  omega
def someD (a : Int) : List D := [.non, .int a, .str "items", .tup [.int a, .int 7], .lst [.int a], .tup [.str "a", .tup []], .dic0, .bl true]
theorem some_gd {a : Int} (h1 : -1000 ≤ a) (h2 : a ≤ 1000) : ∀ d ∈ someD a, Gd d := by
  unfold someD
  have gi : Gd (.int a) := ⟨rfl, by simp only [toPy]; exact int_sh h1 h2, by simp [toPy, PyData.depth], by simp only [toPy]; exact Nat.le_trans (int_len h1 h2) (by decide)⟩
  refine List.forall_mem_cons.mpr ⟨⟨rfl, by decide +kernel, by decide +kernel, by decide +kernel⟩, ?_⟩
  refine List.forall_mem_cons.mpr ⟨gi, ?_⟩
  refine List.forall_mem_cons.mpr ⟨⟨rfl, by decide +kernel, by decide +kernel, by decide +kernel⟩, ?_⟩
  refine List.forall_mem_cons.mpr ⟨⟨rfl, ?_, ?_, ?_⟩, ?_⟩
  · have z := int_sh h1 h2
    simp only [toPy, toPyA, PyData.showable, PyData.showableAll] at z ⊢
    rw [z]
    decide +kernel
  · simp [toPy, toPyA, PyData.depth, PyData.depthAll]
  · simp only [toPy, toPyA]
    exact tup_len h1 h2
  refine List.forall_mem_cons.mpr ⟨⟨rfl, ?_, ?_, ?_⟩, ?_⟩
  · have z := int_sh h1 h2
    simp only [toPy, toPyA, PyData.showable, PyData.showableAll] at z ⊢
    rw [z]
    rfl
  · simp [toPy, toPyA, PyData.depth, PyData.depthAll]
  · simp only [toPy, toPyA, PyData.shown, PyData.shownAll, listText, textFrom]
    rw [str_app, str_app, str_app]
    have z := int_len h1 h2
    simp only [PyData.shown] at z
    have e1 : (Str.ofString "[").length = 1 := by decide
    have e2 : (Str.ofString "]").length = 1 := by decide
    have e3 : (Str.ofString (if 0 > 0 then ", " else "")).length = 0 := by decide
    omega
  refine List.forall_mem_cons.mpr ⟨⟨rfl, by decide +kernel, by decide +kernel, by decide +kernel⟩, ?_⟩
  refine List.forall_mem_cons.mpr ⟨⟨rfl, by decide +kernel, by decide +kernel, by decide +kernel⟩, ?_⟩
  refine List.forall_mem_cons.mpr ⟨⟨rfl, by decide +kernel, by decide +kernel, by decide +kernel⟩, ?_⟩
  exact fun _ h => nomatch h
theorem due_gd {w m r : D} (g1 : Gd w) (g2 : Gd m) (g3 : Gd r) : ∀ d ∈ dueD w m r, Gd d := by
  unfold dueD
  repeat' (first | refine List.forall_mem_cons.mpr ⟨by assumption, ?_⟩ | exact fun _ h => (List.not_mem_nil h).elim)
/-! ### the law -/
theorem sd_forC {C : L2.St → Hp → Prop} {X : Cx} {p : Pl} {e tg : Expr} {pos : Pos} {wi : WI} {g : D → List Sl → Option (List Sl)} {tb : WS} {body : List Stmt} (hi : PI X tg e (fun σ H Rr => C σ H ∧ liftI p wi σ H Rr)) (hg : PG X tg (liftG p g)) (hb : PSs X body (liftS p tb)) (hp : PassesOwn (model X.prog X.w) X.A X.env X.xe := by exact PassesOwn.never) (hc : X.calm = true := by rfl) (hs : ∀ x, foldedSetIterable e X.env x = pure x := by intro _; rfl) :
    PS X (.For tg e body [] pos) (fun D σ H => C σ H ∧ liftS p (wForS wi g tb) D σ H) := PS.imp (ps_for hp hc hi hg hb hs) fun D σ H ⟨hC, G, s, E, R, k, q⟩ => ⟨hC, G, s, R, wi.mono _ _ _ (fun ds s1 k1 J H1 G1 e1 R1 src => by
    refine ⟨fun i m σ' H' => m = ds.length - i ∧ i ≤ ds.length ∧ ∃ G' s', Same G1 G' ∧ p.Rs σ' H' G' s' ∧ forW g tb E (ds.drop i) s', ⟨ds.length, by simp, Nat.zero_le _, G1, s1, Same.refl G1, R1, by simpa using k1⟩, ?_⟩
    rintro i m σ' H' ⟨rfl, hi, G', s', e2, R2, k2⟩
    obtain ⟨s1', s2'⟩ := src i H' G' e2 R2.sub
    by_cases hlt : i < ds.length
    · right
      have hd : ds[i]? = some ds[i] := List.getElem?_eq_getElem hlt
      obtain ⟨go, yl⟩ := s1' _ hd
      rw [List.drop_eq_getElem_cons hlt] at k2
      obtain ⟨env', eg, k3⟩ := get_of k2
      refine ⟨go, fun σ2 H2 => ∃ G2 s2, Same G1 G2 ∧ p.Rs σ2 H2 G2 s2 ∧ forW g tb E (ds.drop (i + 1)) s2, fun σ2 H2 ⟨G2, s2, z1, z2, z3⟩ => ⟨ds.length - (i + 1), by omega, rfl, hlt, G2, s2, z1, z2, z3⟩, fun x H'' y => ?_⟩
      have cm : ∀ {G3 : Hp}, Same G1 G3 → Cmp p G3 { nx := forW g tb E (ds.drop (i + 1)), rt := E.rt, bk := E.nx, ct := forW g tb E (ds.drop (i + 1)) } { D with nx := fun σ2 H2 => ∃ G2 s2, Same G1 G2 ∧ p.Rs σ2 H2 G2 s2 ∧ forW g tb E (ds.drop (i + 1)) s2, ct := fun σ2 H2 => ∃ G2 s2, Same G1 G2 ∧ p.Rs σ2 H2 G2 s2 ∧ forW g tb E (ds.drop (i + 1)) s2, bk := D.nx } := fun {G3} e3 =>
        ⟨fun σ4 H4 G4 s4 a R4 k4 => ⟨G4, s4, e3.trans a, R4, k4⟩, fun v σ4 H4 G4 d4 s4 a R4 r4 k4 => q.rt v σ4 H4 G4 d4 s4 (e1.trans (e3.trans a)) R4 r4 k4, fun σ4 H4 G4 s4 a R4 k4 => q.nx σ4 H4 G4 s4 (e1.trans (e3.trans a)) R4 k4, fun σ4 H4 G4 s4 a R4 k4 => ⟨G4, s4, e3.trans a, R4, k4⟩⟩
      rcases yl x H'' y with ⟨rfl, rx⟩ | ⟨q1, o, hq, rfl, rfl, rx⟩
      · exact ⟨G', s', _, env', R2, rx, eg, fun σ3 H3 G3 e3 R3 => ⟨G3, _, _, R3, k3, cm (e2.trans e3)⟩⟩
      · have e4 : Same G' (upd G' q1 o) := Same.upd (R2.sub.none hq)
        exact ⟨_, s', _, env', R2.alloc hq, rx, eg, fun σ3 H3 G3 e3 R3 => ⟨G3, _, _, R3, k3, cm ((e2.trans e4).trans e3)⟩⟩
    · left
      have e0 : i = ds.length := by omega
      subst e0
      rw [List.drop_length] at k2
      exact ⟨s2' (Nat.le_refl _), q.nx σ' H' G' s' (e1.trans e2) R2 k2⟩) k⟩


/-- script is a list of whole numbers -/
def ScrAt (K : PySem.W.Frag) : L2.St → Hp → Prop := fun σ H => ∃ (a : Addr) (ns : List Int), σ[0]? = some (some (.ref a)) ∧ SqL K H a (ns.map V.int) ∧ ns.length ≤ 63
/-- a number of turns up to thirty -/
def wiTurns : WI := ⟨fun s P => ∀ k : Nat, k ≤ 30 → P (rngD 0 k) s, fun s P P' h q k hk => h _ _ (q k hk)⟩
def spLaw (K : PySem.W.Frag) : Sp := fun vs H Q _ => ∃ (a : Addr) (ns : List Int), vs = [.ref a] ∧ SqL K H a (ns.map V.int) ∧ ns.length ≤ 63 ∧ One K H ∧ ∀ H', Q (.bl true) H'
theorem sc_law : FnScope ["script", "draw", "turn", "amount", "some", "what", "more", "rest"] ["script"] (defScope (top 45)) := ⟨rfl, rfl, rfl, by decide +kernel, rfl, by decide +kernel, by decide +kernel⟩
def wa3 : WA := waCons (wVar 5) (waCons (wVar 6) (waCons (wVar 7) waNil))
def wsSome : W := wLst (waCons (wC .non) (waCons (wVar 3) (waCons (wC (.str "items")) (waCons (wTup (waCons (wVar 3) (waCons (wC (.int 7)) waNil))) (waCons (wLst (waCons (wVar 3) waNil)) (waCons (wTup (waCons (wC (.str "a")) (waCons (wTup waNil) waNil))) (waCons (wDic 1) (waCons (wC (.bl true)) waNil))))))))
def wsPick : W := wBin cIx gIx (wVar 4) (wCall F__law_next (waCons (wVar 1) (waCons (wC (.int 8)) waNil)))
def wsIf1 : WS := wIfS (tNotD (wT (wCall F__law_families_right (waCons (wCall F__law_made wa3) waNil)))) (wRet (wC (.bl false))) wNext
def wsIf2 : WS := wIfS (wT (wBin cEq gNe (wFn cReprX gRepr (waCons (wCall F__law_fields (waCons (wCall F__law_made wa3) waNil)) waNil)) (wFn cReprX gRepr (waCons (wCall F__law_due wa3) waNil)))) (wRet (wC (.bl false))) wNext
def wsIf3 : WS := wIfS (tNotD (wT (wCall F__law_named wa3))) (wRet (wC (.bl false))) wNext
def wsTurn : WS := wSeq (wSet 3 (wBin cT gSub (wCall F__law_next (waCons (wVar 1) (waCons (wC (.int 2001)) waNil))) (wC (.int 1000)))) (wSeq (wSet 4 wsSome) (wSeq (wPar3 5 6 7 (waCons wsPick (waCons wsPick (waCons wsPick waNil)))) (wSeq wsIf1 (wSeq wsIf2 wsIf3))))
def wsLaw : WS := wSeq (wForS wiTurns (gNm 2) wsTurn) (wRet (wC (.bl true)))
theorem ifs_wp {E : ED} {x2 x3 x4 : Sl} {w m r : D} {n : Nat} (g1 : Gd w) (g2 : Gd m) (g3 : Gd r) (h : E.nx ⟨[.emp, .val .drw, x2, x3, x4, .val w, .val m, .val r], n⟩) : (wSeq wsIf1 (wSeq wsIf2 wsIf3)).f E ⟨[.emp, .val .drw, x2, x3, x4, .val w, .val m, .val r], n⟩ := by
  have hd : cReprX [.lst (dueD w m r)] := lst_ok (due_gd g1 g2 g3) (by show 39 ≤ 64; decide)
  show F__law_made.f [w, m, r] n fun d k => F__law_families_right.f [d] k fun z k => DI.get (blD z) fun b => if (!b) = true then E.rt (.bl false) ⟨[.emp, .val .drw, x2, x3, x4, .val w, .val m, .val r], k⟩ else (wSeq wsIf2 wsIf3).f E ⟨[.emp, .val .drw, x2, x3, x4, .val w, .val m, .val r], k⟩
  refine ⟨w, m, r, rfl, w, m, r, rfl, ?_⟩
  show (if (!true) = true then E.rt (.bl false) ⟨[.emp, .val .drw, x2, x3, x4, .val w, .val m, .val r], n⟩ else (wSeq wsIf2 wsIf3).f E ⟨[.emp, .val .drw, x2, x3, x4, .val w, .val m, .val r], n⟩)
  rw [if_neg (by decide)]
  show F__law_made.f [w, m, r] n fun d k => F__law_fields.f [d] k fun d k => cReprX [d] ∧ DI.get (gRepr [d]) fun d1 => F__law_due.f [w, m, r] k fun d2 k => cReprX [d2] ∧ DI.get (gRepr [d2]) fun d2 => cEq d1 d2 ∧ DI.get (gNe d1 d2) fun z => DI.get (blD z) fun b => if b = true then E.rt (.bl false) ⟨[.emp, .val .drw, x2, x3, x4, .val w, .val m, .val r], k⟩ else wsIf3.f E ⟨[.emp, .val .drw, x2, x3, x4, .val w, .val m, .val r], k⟩
  refine ⟨w, m, r, rfl, w, m, r, rfl, hd, ?_⟩
  simp only [gRepr, get_some]
  refine ⟨w, m, r, rfl, hd, ?_⟩
  simp only [gNe, get_some, bl_bl, eq_self', Bool.not_true, Bool.false_eq_true, if_false]
  refine ⟨.inl rfl, ?_⟩
  show F__law_named.f [w, m, r] n fun z k => DI.get (blD z) fun b => if (!b) = true then E.rt (.bl false) ⟨[.emp, .val .drw, x2, x3, x4, .val w, .val m, .val r], k⟩ else E.nx ⟨[.emp, .val .drw, x2, x3, x4, .val w, .val m, .val r], k⟩
  refine ⟨w, m, r, rfl, g1, g2, g3, ?_⟩
  show (if (!true) = true then E.rt (.bl false) ⟨[.emp, .val .drw, x2, x3, x4, .val w, .val m, .val r], n⟩ else E.nx ⟨[.emp, .val .drw, x2, x3, x4, .val w, .val m, .val r], n⟩)
  rw [if_neg (by decide)]
  exact h
theorem turn_wp {E : ED} {x2 x3 x4 x5 x6 x7 : Sl} {n : Nat} (hn : n < 2 ^ 41) (h : ∀ x3 x4 x5 x6 x7 m, n ≤ m → m ≤ n + 1000 → E.nx ⟨[.emp, .val .drw, x2, x3, x4, x5, x6, x7], m⟩) : wsTurn.f E ⟨[.emp, .val .drw, x2, x3, x4, x5, x6, x7], n⟩ := by
  unfold wsTurn
  show F__law_next.f [.drw, .int 2001] n fun d k => cT d (.int 1000) ∧ DI.get (DI.gSub d (.int 1000)) fun d => 3 < 8 ∧ (wSeq (wSet 4 wsSome) (wSeq (wPar3 5 6 7 (waCons wsPick (waCons wsPick (waCons wsPick waNil)))) (wSeq wsIf1 (wSeq wsIf2 wsIf3)))).f E ⟨[.emp, .val .drw, x2, .val d, x4, x5, x6, x7], k⟩
  refine next_of (by omega) (by decide) (by decide) fun r r0 r1 => ?_
  show cT (.int r) (.int 1000) ∧ DI.get (DI.gSub (.int r) (.int 1000)) fun d => 3 < 8 ∧ (wSeq (wSet 4 wsSome) (wSeq (wPar3 5 6 7 (waCons wsPick (waCons wsPick (waCons wsPick waNil)))) (wSeq wsIf1 (wSeq wsIf2 wsIf3)))).f E ⟨[.emp, .val .drw, x2, .val d, x4, x5, x6, x7], n + 2⟩
  refine ⟨trivial, (show 3 < 8 ∧ (wSeq (wSet 4 wsSome) (wSeq (wPar3 5 6 7 (waCons wsPick (waCons wsPick (waCons wsPick waNil)))) (wSeq wsIf1 (wSeq wsIf2 wsIf3)))).f E ⟨[.emp, .val .drw, x2, .val (.int (r - 1000)), x4, x5, x6, x7], n + 2⟩ from ⟨by decide, ?_⟩)⟩
  have gd := some_gd (a := r - 1000) (by omega) (by omega)
  rw [f_seq, f_set]
  unfold wsSome
  simp only [↓f_lst, ↓f_cons, ↓f_nil, ↓f_wC, ↓f_tup, ↓f_wDic, ↓f_wVar, List.getElem?_cons_zero, List.getElem?_cons_succ]
  refine ⟨line2 (by simp), line2 (by simp), by decide, line2 (by simp), rfl, line2 (by simp), by simp, ?_⟩
  show (wSeq (wPar3 5 6 7 (waCons wsPick (waCons wsPick (waCons wsPick waNil)))) (wSeq wsIf1 (wSeq wsIf2 wsIf3))).f E ⟨[.emp, .val .drw, x2, .val (.int (r - 1000)), .val (.lst (someD (r - 1000))), x5, x6, x7], n + 2⟩
  generalize r - 1000 = a at gd
  have hl : ((someD a).length : Int) = 8 := rfl
  show F__law_next.f [.drw, .int 8] (n + 2) fun d k => cIx (.lst (someD a)) d ∧ DI.get (gIx (.lst (someD a)) d) fun w => F__law_next.f [.drw, .int 8] k fun d k => cIx (.lst (someD a)) d ∧ DI.get (gIx (.lst (someD a)) d) fun m => F__law_next.f [.drw, .int 8] k fun d k => cIx (.lst (someD a)) d ∧ DI.get (gIx (.lst (someD a)) d) fun r =>
    ∃ d1 d2 d3, [w, m, r] = [d1, d2, d3] ∧ 5 < 8 ∧ 6 < 8 ∧ 7 < 8 ∧ (wSeq wsIf1 (wSeq wsIf2 wsIf3)).f E ⟨[.emp, .val .drw, x2, .val (.int a), .val (.lst (someD a)), .val d1, .val d2, .val d3], k⟩
  refine next_of (by omega) (by decide) (by decide) fun r1 a1 b1 => ⟨trivial, pick_of (P := Gd) a1 (by omega) gd fun w g1 => ?_⟩
  refine next_of (by omega) (by decide) (by decide) fun r2 a2 b2 => ⟨trivial, pick_of (P := Gd) a2 (by omega) gd fun m g2 => ?_⟩
  refine next_of (by omega) (by decide) (by decide) fun r3 a3 b3 => ⟨trivial, pick_of (P := Gd) a3 (by omega) gd fun r g3 => ?_⟩
  refine ⟨w, m, r, rfl, by decide, by decide, by decide, ?_⟩
  exact ifs_wp g1 g2 g3 (h _ _ _ _ _ _ (by omega) (by omega))
theorem law_wp : ∀ (ds : List D) (x2 x3 x4 x5 x6 x7 : Sl) (n : Nat), n + 1000 * ds.length ≤ 2 ^ 40 → forW (gNm 2) wsTurn { nx := (wRet (wC (.bl true))).f { nx := fun _ => False, rt := fun d _ => d = .bl true }, rt := fun d _ => d = .bl true } ds ⟨[.emp, .val .drw, x2, x3, x4, x5, x6, x7], n⟩
  | [], x2, x3, x4, x5, x6, x7, n, _ => rfl
  | d :: ds, x2, x3, x4, x5, x6, x7, n, hn => by
    simp only [List.length_cons, Nat.mul_add, Nat.mul_one] at hn
    exact turn_wp (x2 := .val d) (n := n) (by omega) fun x3 x4 x5 x6 x7 m h1 h2 => law_wp ds _ x3 x4 x5 x6 x7 m (by omega)
theorem merge_drw (q : Addr) : mergeK [] [((Sum.inr "cells" : Key), V.ref q), (Sum.inr "at", .int 0), (Sum.inr "left", .int 0), (Sum.inr "used", .int 0)] = drwK q 0 0 0 := by
  obtain ⟨h1, h2, h3, h4, h5, h6⟩ := kAt
  simp [mergeK, putK, drwK, h1, h2, h3, h4, h5, h6]
/-! ### the draws are begun -/
def spBegin (K : PySem.W.Frag) : Sp := fun vs H Q _ => ∃ (a : Addr) (ns : List Int), vs = [.ref a] ∧ SqL K H a (ns.map V.int) ∧ ns.length ≤ 63 ∧
  ∀ (p L : Addr) (H' : Hp), H p = none → H L = none → L ≠ p → (∀ b o, H b = some o → H' b = some o) → H' p = some (.dK (drwK L 0 0 0)) → H' L = some (.lst ((ns ++ [0]).map V.int)) → Q (.ref p) H'
theorem sc__law_begin : FnScope ["script"] ["script"] (defScope (top 36)) := ⟨rfl, rfl, rfl, by decide +kernel, rfl, by decide +kernel, by decide +kernel⟩
theorem ok__law_begin {P : Program} {w : World} {K : PySem.W.Frag} {mg : Str → Option Value} {base : Heap} {f : Addr} {fd : FuncData} (U : Fun K "_law_begin" "_law_begin" (top 36) f fd) : FnOk P w K mg base CX0 1 f fd ["script"] (spBegin K) := by
  refine U.ok sc__law_begin (fun vs H Q E h => ?_) (fun cdv A outer s H vs Q E hr h => ?_)
  · obtain ⟨a, ns, rfl, _⟩ := h
    rfl
  · obtain ⟨a, ns, rfl, hS, hl, k⟩ := h
    refine ⟨_, pss_one (ps_ret (pe_disp (pps_cons pe_str (pe_op op_catS (pv 0) (pe_lst (pa_cons pe_int pa_nil))) (pps_cons pe_str pe_int (pps_cons pe_str pe_int (pps_cons pe_str pe_int pps_nil)))) (by rfl) (by rfl) (fun z => by cases z) (by decide))), ?_⟩
    intro p hp
    have s0 : Same H (upd H p (.dK [])) := Same.upd hp
    refine ⟨_, rfl, by decide, fun l hl' => ?_⟩
    have npl : p ≠ l := fun z => by
      rw [z, upd_same] at hl'
      cases hl'
    have s1 : Same H (upd (upd H p (.dK [])) l (.lst [.int 0])) := s0.trans (Same.upd hl')
    refine ⟨a, l, _, _, rfl, rfl, s1.seq hS, SqL.of upd_same, ?_, fun q hq => ?_⟩
    · have e : (ns.map V.int).length = ns.length := List.length_map _
      rw [e]
      exact line2 (by simp only [List.length_cons, List.length_nil]; omega)
    have nql : q ≠ l := fun z => by
      rw [z, upd_same] at hq
      cases hq
    have nqp : q ≠ p := fun z => by
      rw [z, upd_ne npl, upd_same] at hq
      cases hq
    have hpp : (upd (upd (upd H p (.dK [])) l (.lst [.int 0])) q (.lst (ns.map V.int ++ [.int 0]))) p = some (.dK []) := by
      rw [upd_ne nqp.symm, upd_ne npl, upd_same]
    refine ⟨hpp, [(Sum.inr "cells", .ref q), (Sum.inr "at", .int 0), (Sum.inr "left", .int 0), (Sum.inr "used", .int 0)], rfl, by simp, ?_⟩
    have hqH : H q = none := s1.free hq
    refine k p q _ hp hqH nqp (fun b o e => ?_) ?_ ?_
    · rw [upd_ne (ne_of_none e hp)]
      rw [upd_ne (ne_of_none e hqH)]
      exact s1 b o e
    · rw [upd_same, merge_drw]
    · rw [upd_ne nqp, upd_same, List.map_append]
      rfl
theorem rng_len (lo : Int) (n : Nat) : (rngD lo n).length = n := by
  unfold rngD
  simp
theorem ok_law {P : Program} {w : World} {K : PySem.W.Frag} {mg : Str → Option Value} {base : Heap} (T : Txt K mg) {fB : Addr} {fdB : FuncData} (UB : Fun K "_law_begin" "_law_begin" (top 36) fB fdB) (mB : mg "_law_begin" = some (.ref fB)) (bB : Binds K fdB ["script"] []) (D__law_next : Dn P w K mg base 2 "_law_next" ["draw", "bound"] F__law_next) (D__law_families_right : Dn P w K mg base 2 "_law_families_right" ["errs"] F__law_families_right) (D__law_named : Dn P w K mg base 1 "_law_named" ["what", "more", "rest"] F__law_named) (D__law_made : Dn P w K mg base 1 "_law_made" ["what", "more", "rest"] F__law_made) (D__law_fields : Dn P w K mg base 1 "_law_fields" ["errs"] F__law_fields) (D__law_due : Dn P w K mg base 1 "_law_due" ["what", "more", "rest"] F__law_due) {f : Addr} {fd : FuncData} (U : Fun K "law" "law" (top 45) f fd) :
    FnG P w K mg base 4 f fd ["script"] (spLaw K) := by
  have GB : FnOk P w K mg base CX0 1 fB fdB ["script"] (spBegin K) := ok__law_begin UB
  obtain ⟨oc, od, kV, doc, pm, an, cdv, ct, osl, rfl, lk, hcd⟩ := U.ex
  refine fng_of (k := 3) lk hcd sc_law (fun vs H Q E h => ?_) fun A callers s0 H vs Q E hr hga hsp => ?_
  · obtain ⟨a, ns, rfl, _⟩ := h
    rfl
  · obtain ⟨a, ns, rfl, hS, hl, hone, k⟩ := hsp
    have hr1 : Room 1 _ := hr.mono (by decide)
    have main : ∀ (d : Addr) (H0 G0 : Hp), PSs (cxOf CX0 P w K mg base ["script", "draw", "turn", "amount", "some", "what", "more", "rest"] "law" (defScope (top 45)) f cdv A callers s0 H E).nox (((defBody (top 45)).drop 1)) (fun D σ H => ScrAt K σ H ∧ liftS ⟨K, some d, H0, G0⟩ wsLaw D σ H) := by
      intro d H0 G0
      refine PSs.imp (pss_cons (sd_forC (p := ⟨K, some d, H0, G0⟩) (wi := wiTurns) (g := gNm 2) (tb := wsTurn) (C := ScrAt K) (PI.imp (pi_range1 rfl T.range (pa_cons (pe_callB (call_min2 rfl) (by rfl) T.min (by decide +kernel) (pa_cons pe_int (pa_cons (pe_op op_add pe_int (pe_callB call_len_seq (by rfl) T.len PySem.boot_len (pa_cons (pv 0) pa_nil))) pa_nil))) pa_nil)) ?_) (gd_name 2 sc_law.nd) ((sd_cons (sd_set 3 sc_law.nd (pd_sub (pd_cl D__law_next hr (by decide) hga (ad_cons (pd_var 1 (pv 1)) (ad_cons pd_int ad_nil))) pd_int))
      (sd_cons (sd_set 4 sc_law.nd (pd_lst (ad_cons pd_non (ad_cons (pd_var 3 (pv 3)) (ad_cons pd_str (ad_cons (pd_tup (ad_cons (pd_var 3 (pv 3)) (ad_cons pd_int ad_nil))) (ad_cons (pd_lst (ad_cons (pd_var 3 (pv 3)) ad_nil)) (ad_cons (pd_tup (ad_cons pd_str (ad_cons (pd_tup ad_nil) ad_nil))) (ad_cons (pd_dict0 1) (ad_cons pd_bl ad_nil))))))))))
      (sd_cons (sd_par3 5 6 7 sc_law.nd (ad_cons (pd_ix (pd_var 4 (pv 4)) (pd_cl D__law_next hr (by decide) hga (ad_cons (pd_var 1 (pv 1)) (ad_cons pd_int ad_nil)))) (ad_cons (pd_ix (pd_var 4 (pv 4)) (pd_cl D__law_next hr (by decide) hga (ad_cons (pd_var 1 (pv 1)) (ad_cons pd_int ad_nil)))) (ad_cons (pd_ix (pd_var 4 (pv 4)) (pd_cl D__law_next hr (by decide) hga (ad_cons (pd_var 1 (pv 1)) (ad_cons pd_int ad_nil)))) ad_nil))))
      (sd_cons (sd_if (td_not (td_val (pd_cl D__law_families_right hr (by decide) hga (ad_cons (pd_cl D__law_made hr (by decide) hga (ad_cons (pd_var 5 (pv 5)) (ad_cons (pd_var 6 (pv 6)) (ad_cons (pd_var 7 (pv 7)) ad_nil)))) ad_nil)))) (sd_one (sd_ret pd_bl)) sd_nil)
      (sd_cons (sd_if (td_cmp (cm_ne hr) (pd_bt (bt_reprX hr hga) T.repr (ad_cons (pd_cl D__law_fields hr (by decide) hga (ad_cons (pd_cl D__law_made hr (by decide) hga (ad_cons (pd_var 5 (pv 5)) (ad_cons (pd_var 6 (pv 6)) (ad_cons (pd_var 7 (pv 7)) ad_nil)))) ad_nil)) ad_nil)) (pd_bt (bt_reprX hr hga) T.repr (ad_cons (pd_cl D__law_due hr (by decide) hga (ad_cons (pd_var 5 (pv 5)) (ad_cons (pd_var 6 (pv 6)) (ad_cons (pd_var 7 (pv 7)) ad_nil)))) ad_nil))) (sd_one (sd_ret pd_bl)) sd_nil)
      (sd_one (sd_if (td_not (td_val (pd_cl D__law_named hr (by decide) hga (ad_cons (pd_var 5 (pv 5)) (ad_cons (pd_var 6 (pv 6)) (ad_cons (pd_var 7 (pv 7)) ad_nil)))))) (sd_one (sd_ret pd_bl)) sd_nil))))))))) (sd_one (sd_ret (p := ⟨K, some d, H0, G0⟩) pd_bl))) ?_
      · rintro σ H1 R ⟨⟨a, ns, ea, hS, hl⟩, G, s, Rr, k⟩
        refine ⟨_, ea, a, _, rfl, .inl hS, _, _, rfl, rfl, _, _, rfl, ?_⟩
        have e : ((ns.map V.int).length : Int) = (ns.length : Int) := by rw [List.length_map]
        refine ⟨_, rfl, by split <;> omega, by split <;> omega, k _ ?_ _ H1 G (Same.refl G) Rr src_rng⟩
        split <;> omega
      · rintro D σ H1 ⟨hC, G, s, E', R, k, q⟩
        exact ⟨hC, G, s, _, R, k, fun σ' H' G' s' a R' k' => ⟨G', s', E', R', k', q.mono a⟩, q.rt, q.bk, q.ct⟩
    have rest : PSs (cxOf CX0 P w K mg base ["script", "draw", "turn", "amount", "some", "what", "more", "rest"] "law" (defScope (top 45)) f cdv A callers s0 H E).nox ((defBody (top 45)).drop 1) (fun D σ H => ∃ d H0 G0, ScrAt K σ H ∧ liftS ⟨K, some d, H0, G0⟩ wsLaw D σ H) :=
      ⟨fun pins s σ H D I ⟨d, H0, G0, h⟩ => (main d H0 G0).run pins s σ H D I h⟩
    have whole : ∃ t : TS, PSs (cxOf CX0 P w K mg base ["script", "draw", "turn", "amount", "some", "what", "more", "rest"] "law" (defScope (top 45)) f cdv A callers s0 H E).nox (defBody (top 45)) t ∧ t { nx := fun _ H' => Q .non H', rt := Q } (L2.start ["script", "draw", "turn", "amount", "some", "what", "more", "rest"] [.ref a]) H := by
      refine ⟨_, pss_cons (ps_set (i := 1) sc_law.nd rfl (Or.inl rfl) (pe_call GB hr1 rfl mB UB.kp bB .nil pass0 (pa_cons (pv 0) pa_nil))) rest, ?_⟩
      refine ⟨_, rfl, a, ns, rfl, hS, hl, fun p L H' hp hL nlp hsame e1 e2 => ?_⟩
      obtain ⟨o1, nd1, h1s⟩ := hone
      let G1 : Hp := fun b => if b = L then some (.lst ((ns ++ [0]).map V.int)) else if b = sysModules then H sysModules else none
      have gL : G1 L = some (.lst ((ns ++ [0]).map V.int)) := if_pos rfl
      have gN : ∀ b, b ≠ L → b ≠ sysModules → G1 b = none := fun b hb h1 => by
        show (if b = L then _ else if b = sysModules then H sysModules else none) = _
        rw [if_neg hb, if_neg h1]
      have gE : sysModules ≠ L → G1 sysModules = H sysModules := fun hb => by
        show (if sysModules = L then _ else if sysModules = sysModules then H sysModules else none) = _
        rw [if_neg hb, if_pos rfl]
      have gS : ∀ o, sysModules ≠ L → G1 sysModules = some o → H' sysModules = some o := fun o hb e => hsame _ _ (by rw [← gE hb]; exact e)
      have one1 : One K G1 := by
        refine ⟨o1, nd1, h1s.imp (fun z => ?_) id⟩
        have hb : sysModules ≠ L := fun q => by
          rw [← q] at hL
          rw [z] at hL
          cases hL
        rw [gE hb]
        exact z
      have pS : p = sysModules → G1 p = none := fun q => by
        have hb : sysModules ≠ L := fun z => nlp (by rw [← z, ← q])
        rw [q, gE hb, ← q]
        exact hp
      refine ⟨p, H', G1, ⟨a, ns, rfl, Same.seq hsame hS, hl⟩, G1, ⟨[.emp, .val .drw, .emp, .emp, .emp, .emp, .emp, .emp], 0⟩, { nx := fun _ => False, rt := fun d _ => d = .bl true }, ⟨fun b o e => ?_, fun b o _ e => e, fun b h _ => h, rfl, ?_, ?_, ?_⟩, fun k hk => law_wp (rngD 0 k) _ _ _ _ _ _ 0 ?_, ?_⟩
      · by_cases hb : b = L
        · subst hb
          rw [gL] at e
          cases e
          exact e2
        · by_cases hs : b = sysModules
          · subst hs
            exact gS o hb e
          · rw [gN b hb hs] at e
            cases e
      · intro i x hx
        match i, hx with
        | 0, hx => cases hx; trivial
        | 1, hx => cases hx; exact ⟨_, rfl, .drw rfl one1⟩
        | 2, hx => cases hx; trivial
        | 3, hx => cases hx; trivial
        | 4, hx => cases hx; trivial
        | 5, hx => cases hx; trivial
        | 6, hx => cases hx; trivial
        | 7, hx => cases hx; trivial
        | i + 8, hx => cases hx
      · intro i j q ds es _ h1
        match i, h1 with
        | 0, h1 => cases h1
        | 1, h1 => cases h1
        | 2, h1 => cases h1
        | 3, h1 => cases h1
        | 4, h1 => cases h1
        | 5, h1 => cases h1
        | 6, h1 => cases h1
        | 7, h1 => cases h1
        | i + 8, h1 => cases h1
      · intro b hb
        cases hb
        refine ⟨?_, L, ns ++ [0], 0, 0, 0, e1, gL, ?_, ?_, ?_, ?_, ?_, ?_⟩
        · by_cases hs : p = sysModules
          · exact pS hs
          · exact gN p nlp.symm hs
        all_goals (simp <;> omega)
      · rw [rng_len]
        omega
      · exact ⟨fun _ _ _ _ _ _ h => h.elim, fun v σ' H2 G2 d2 s' _ _ r h => by
          subst h
          cases r
          exact k H2, fun _ _ _ _ _ _ h => h.elim, fun _ _ _ _ _ _ h => h.elim⟩
    obtain ⟨t, h1, h2⟩ := whole
    exact ⟨t, h1.nox, h2⟩
/-! ### what the top has written -/
theorem dn_mk {P : Program} {w : World} {K : PySem.W.Frag} {mg : Str → Option Value} {base : Heap} {k : Nat} {x : Str} {st : Stmt} {f : Addr} {fd : FuncData} {ps : List Str} {F : FT} (U : Fun K x x st f fd) (hm : mg x = some (.ref f)) (hb : Binds K fd ps []) (hk : ∀ (s : Shared) (us : List Value), us.length = ps.length → BindsTo s fd ⟨[], ps.zip us⟩ (ps.zip us))
    (G : ∀ dr, FnG P w K mg base k f fd ps (SpD K dr (List.replicate ps.length false) F)) : Dn P w K mg base k x ps F := ⟨f, fd, hm, U.kp, hb, hk, G⟩
theorem bk_mk {K : PySem.W.Frag} {h : Heap} {mg : Str → Option Value} (X : K.In h) (G : h.Ns mainGlobals mg) {B N : Addr} {qn : Str} {bs : List Value} {sn : List Str} {sub : List Value} {ab : Bool} {col : Option Bool} {dd : Option Addr} {m0 m1 m2 m3 m5 : Option Value}
    (a : PySem.W.nsIn K mainGlobals "BookError" = some (some (.ref B)))
    (x : K.lookup B = some (excClassObj "BookError" qn B N bs [.type "ValueError", .type "Exception", .type "BaseException", .type "object"] true sn sub ab col dd m0 m1 m2 m3 m5 "ValueError.__new__"))
    (t : PySem.W.typeIn K (.ref B) = some (.type "type")) : Bk K mg := by
  refine ⟨B, a, ⟨{ name := "BookError", bases := bs, mro := .ref B :: [.type "ValueError", .type "Exception", .type "BaseException", .type "object"], ns := N, qualname := qn, hasDict := true, slotNames := sn, subclasses := sub, abstract := ab, collection := col, hasDel := false }, ?_, rfl⟩, t, PySem.W.mg_of X G a⟩
  unfold PySem.W.clsIn
  rw [x] <;> rfl
theorem mk_BadChapter {K : PySem.W.Frag} {h : Heap} {mg : Str → Option Value} (X : K.In h) (G : h.Ns mainGlobals mg) {B C N g : Addr} {qn : Str} {bs : List Value} {sn : List Str} {sub : List Value} {ab : Bool} {col : Option Bool} {dd od an : Option Addr} {m0 m1 m2 m3 m5 : Option Value} {oc kV dc pm cd ct : Value} {sl : Array (Option Value)}
    (a : PySem.W.nsIn K mainGlobals "BadChapter" = some (some (.ref C)))
    (b : PySem.W.nsIn K mainGlobals "BookError" = some (some (.ref B)))
    (x : K.lookup C = some (excClassObj "BadChapter" qn C N bs (.ref B :: [.type "ValueError", .type "Exception", .type "BaseException", .type "object"]) true sn sub ab col dd m0 m1 m2 m3 m5 "ValueError.__new__"))
    (sa : PySem.W.findIn K (.ref C) "__setattr__" = some (some (.builtin "object.__setattr__")))
    (ga : PySem.W.findIn K (.ref C) "__getattribute__" = some (some (.builtin "BaseException.__getattribute__")))
    (gg : PySem.W.findIn K (.ref C) "__getattr__" = some none)
    (gc : PySem.W.findIn K (.ref C) "__class__" = some (some (.builtin "object.__class__")))
    (n0 : PySem.W.findIn K (.ref C) "index" = some none)
    (kC : PySem.W.keepIn K (.ref C) = true)
    (tC : PySem.W.typeIn K (.ref C) = some (.type "type"))
    (iC : PySem.W.findIn K (.ref C) "__init__" = some (some (.ref g)))
    (tg : PySem.W.typeIn K (.ref g) = some (.type "function"))
    (l : K.lookup g = some ⟨oc, od, .func (PySem.W.fnOf "__init__" "BadChapter.__init__" (EX.iA_index ⟨6, 17, 6, 21⟩ ⟨6, 23, 6, 28⟩) (EX.iB_index ⟨7, 8, 7, 12⟩ ⟨7, 8, 7, 18⟩ ⟨7, 21, 7, 26⟩ ⟨7, 8, 7, 26⟩) EX.iS_index .none kV dc pm an cd ct), sl⟩)
    (c : PySem.W.codeIn K cd "BadChapter.__init__" = true) : Cl K mg "BadChapter" ["index"] := by
  have hno : ∀ f ∈ (["index"] : List Str), PySem.W.findIn K (.ref C) f = some none := fun f hf => by
    simp only [List.mem_cons, List.not_mem_nil, or_false] at hf
    rcases hf with rfl
    · exact n0

  have T : EX.ExK K B "BadChapter" C ["index"] := ⟨a, b, ⟨_, _, _, _, _, _, _, _, _, _, _, _, _, x⟩, sa, ga, gg, gc, hno, kC, tC⟩
  exact ⟨B, C, g, T, ⟨iC, tg, EX.ini_index (qn := "BadChapter.__init__") ⟨_, _, _, _, _, _, _, _, _, _, _, _, _, _, _, l, c⟩ T.y⟩, PySem.W.mg_of X G a⟩
theorem mk_BadToken {K : PySem.W.Frag} {h : Heap} {mg : Str → Option Value} (X : K.In h) (G : h.Ns mainGlobals mg) {B C N g : Addr} {qn : Str} {bs : List Value} {sn : List Str} {sub : List Value} {ab : Bool} {col : Option Bool} {dd od an : Option Addr} {m0 m1 m2 m3 m5 : Option Value} {oc kV dc pm cd ct : Value} {sl : Array (Option Value)}
    (a : PySem.W.nsIn K mainGlobals "BadToken" = some (some (.ref C)))
    (b : PySem.W.nsIn K mainGlobals "BookError" = some (some (.ref B)))
    (x : K.lookup C = some (excClassObj "BadToken" qn C N bs (.ref B :: [.type "ValueError", .type "Exception", .type "BaseException", .type "object"]) true sn sub ab col dd m0 m1 m2 m3 m5 "ValueError.__new__"))
    (sa : PySem.W.findIn K (.ref C) "__setattr__" = some (some (.builtin "object.__setattr__")))
    (ga : PySem.W.findIn K (.ref C) "__getattribute__" = some (some (.builtin "BaseException.__getattribute__")))
    (gg : PySem.W.findIn K (.ref C) "__getattr__" = some none)
    (gc : PySem.W.findIn K (.ref C) "__class__" = some (some (.builtin "object.__class__")))
    (n0 : PySem.W.findIn K (.ref C) "index" = some none)
    (kC : PySem.W.keepIn K (.ref C) = true)
    (tC : PySem.W.typeIn K (.ref C) = some (.type "type"))
    (iC : PySem.W.findIn K (.ref C) "__init__" = some (some (.ref g)))
    (tg : PySem.W.typeIn K (.ref g) = some (.type "function"))
    (l : K.lookup g = some ⟨oc, od, .func (PySem.W.fnOf "__init__" "BadToken.__init__" (EX.iA_index ⟨10, 17, 10, 21⟩ ⟨10, 23, 10, 28⟩) (EX.iB_index ⟨11, 8, 11, 12⟩ ⟨11, 8, 11, 18⟩ ⟨11, 21, 11, 26⟩ ⟨11, 8, 11, 26⟩) EX.iS_index .none kV dc pm an cd ct), sl⟩)
    (c : PySem.W.codeIn K cd "BadToken.__init__" = true) : Cl K mg "BadToken" ["index"] := by
  have hno : ∀ f ∈ (["index"] : List Str), PySem.W.findIn K (.ref C) f = some none := fun f hf => by
    simp only [List.mem_cons, List.not_mem_nil, or_false] at hf
    rcases hf with rfl
    · exact n0

  have T : EX.ExK K B "BadToken" C ["index"] := ⟨a, b, ⟨_, _, _, _, _, _, _, _, _, _, _, _, _, x⟩, sa, ga, gg, gc, hno, kC, tC⟩
  exact ⟨B, C, g, T, ⟨iC, tg, EX.ini_index (qn := "BadToken.__init__") ⟨_, _, _, _, _, _, _, _, _, _, _, _, _, _, _, l, c⟩ T.y⟩, PySem.W.mg_of X G a⟩
theorem mk_BadKind {K : PySem.W.Frag} {h : Heap} {mg : Str → Option Value} (X : K.In h) (G : h.Ns mainGlobals mg) {B C N g : Addr} {qn : Str} {bs : List Value} {sn : List Str} {sub : List Value} {ab : Bool} {col : Option Bool} {dd od an : Option Addr} {m0 m1 m2 m3 m5 : Option Value} {oc kV dc pm cd ct : Value} {sl : Array (Option Value)}
    (a : PySem.W.nsIn K mainGlobals "BadKind" = some (some (.ref C)))
    (b : PySem.W.nsIn K mainGlobals "BookError" = some (some (.ref B)))
    (x : K.lookup C = some (excClassObj "BadKind" qn C N bs (.ref B :: [.type "ValueError", .type "Exception", .type "BaseException", .type "object"]) true sn sub ab col dd m0 m1 m2 m3 m5 "ValueError.__new__"))
    (sa : PySem.W.findIn K (.ref C) "__setattr__" = some (some (.builtin "object.__setattr__")))
    (ga : PySem.W.findIn K (.ref C) "__getattribute__" = some (some (.builtin "BaseException.__getattribute__")))
    (gg : PySem.W.findIn K (.ref C) "__getattr__" = some none)
    (gc : PySem.W.findIn K (.ref C) "__class__" = some (some (.builtin "object.__class__")))
    (n0 : PySem.W.findIn K (.ref C) "kind" = some none)
    (kC : PySem.W.keepIn K (.ref C) = true)
    (tC : PySem.W.typeIn K (.ref C) = some (.type "type"))
    (iC : PySem.W.findIn K (.ref C) "__init__" = some (some (.ref g)))
    (tg : PySem.W.typeIn K (.ref g) = some (.type "function"))
    (l : K.lookup g = some ⟨oc, od, .func (PySem.W.fnOf "__init__" "BadKind.__init__" (EX.iA_kind ⟨14, 17, 14, 21⟩ ⟨14, 23, 14, 27⟩) (EX.iB_kind ⟨15, 8, 15, 12⟩ ⟨15, 8, 15, 17⟩ ⟨15, 20, 15, 24⟩ ⟨15, 8, 15, 24⟩) EX.iS_kind .none kV dc pm an cd ct), sl⟩)
    (c : PySem.W.codeIn K cd "BadKind.__init__" = true) : Cl K mg "BadKind" ["kind"] := by
  have hno : ∀ f ∈ (["kind"] : List Str), PySem.W.findIn K (.ref C) f = some none := fun f hf => by
    simp only [List.mem_cons, List.not_mem_nil, or_false] at hf
    rcases hf with rfl
    · exact n0

  have T : EX.ExK K B "BadKind" C ["kind"] := ⟨a, b, ⟨_, _, _, _, _, _, _, _, _, _, _, _, _, x⟩, sa, ga, gg, gc, hno, kC, tC⟩
  exact ⟨B, C, g, T, ⟨iC, tg, EX.ini_kind (qn := "BadKind.__init__") ⟨_, _, _, _, _, _, _, _, _, _, _, _, _, _, _, l, c⟩ T.y⟩, PySem.W.mg_of X G a⟩
theorem mk_BadStyle {K : PySem.W.Frag} {h : Heap} {mg : Str → Option Value} (X : K.In h) (G : h.Ns mainGlobals mg) {B C N g : Addr} {qn : Str} {bs : List Value} {sn : List Str} {sub : List Value} {ab : Bool} {col : Option Bool} {dd od an : Option Addr} {m0 m1 m2 m3 m5 : Option Value} {oc kV dc pm cd ct : Value} {sl : Array (Option Value)}
    (a : PySem.W.nsIn K mainGlobals "BadStyle" = some (some (.ref C)))
    (b : PySem.W.nsIn K mainGlobals "BookError" = some (some (.ref B)))
    (x : K.lookup C = some (excClassObj "BadStyle" qn C N bs (.ref B :: [.type "ValueError", .type "Exception", .type "BaseException", .type "object"]) true sn sub ab col dd m0 m1 m2 m3 m5 "ValueError.__new__"))
    (sa : PySem.W.findIn K (.ref C) "__setattr__" = some (some (.builtin "object.__setattr__")))
    (ga : PySem.W.findIn K (.ref C) "__getattribute__" = some (some (.builtin "BaseException.__getattribute__")))
    (gg : PySem.W.findIn K (.ref C) "__getattr__" = some none)
    (gc : PySem.W.findIn K (.ref C) "__class__" = some (some (.builtin "object.__class__")))
    (n0 : PySem.W.findIn K (.ref C) "word" = some none)
    (kC : PySem.W.keepIn K (.ref C) = true)
    (tC : PySem.W.typeIn K (.ref C) = some (.type "type"))
    (iC : PySem.W.findIn K (.ref C) "__init__" = some (some (.ref g)))
    (tg : PySem.W.typeIn K (.ref g) = some (.type "function"))
    (l : K.lookup g = some ⟨oc, od, .func (PySem.W.fnOf "__init__" "BadStyle.__init__" (EX.iA_word ⟨18, 17, 18, 21⟩ ⟨18, 23, 18, 27⟩) (EX.iB_word ⟨19, 8, 19, 12⟩ ⟨19, 8, 19, 17⟩ ⟨19, 20, 19, 24⟩ ⟨19, 8, 19, 24⟩) EX.iS_word .none kV dc pm an cd ct), sl⟩)
    (c : PySem.W.codeIn K cd "BadStyle.__init__" = true) : Cl K mg "BadStyle" ["word"] := by
  have hno : ∀ f ∈ (["word"] : List Str), PySem.W.findIn K (.ref C) f = some none := fun f hf => by
    simp only [List.mem_cons, List.not_mem_nil, or_false] at hf
    rcases hf with rfl
    · exact n0

  have T : EX.ExK K B "BadStyle" C ["word"] := ⟨a, b, ⟨_, _, _, _, _, _, _, _, _, _, _, _, _, x⟩, sa, ga, gg, gc, hno, kC, tC⟩
  exact ⟨B, C, g, T, ⟨iC, tg, EX.ini_word (qn := "BadStyle.__init__") ⟨_, _, _, _, _, _, _, _, _, _, _, _, _, _, _, l, c⟩ T.y⟩, PySem.W.mg_of X G a⟩
theorem mk_BadLink {K : PySem.W.Frag} {h : Heap} {mg : Str → Option Value} (X : K.In h) (G : h.Ns mainGlobals mg) {B C N g : Addr} {qn : Str} {bs : List Value} {sn : List Str} {sub : List Value} {ab : Bool} {col : Option Bool} {dd od an : Option Addr} {m0 m1 m2 m3 m5 : Option Value} {oc kV dc pm cd ct : Value} {sl : Array (Option Value)}
    (a : PySem.W.nsIn K mainGlobals "BadLink" = some (some (.ref C)))
    (b : PySem.W.nsIn K mainGlobals "BookError" = some (some (.ref B)))
    (x : K.lookup C = some (excClassObj "BadLink" qn C N bs (.ref B :: [.type "ValueError", .type "Exception", .type "BaseException", .type "object"]) true sn sub ab col dd m0 m1 m2 m3 m5 "ValueError.__new__"))
    (sa : PySem.W.findIn K (.ref C) "__setattr__" = some (some (.builtin "object.__setattr__")))
    (ga : PySem.W.findIn K (.ref C) "__getattribute__" = some (some (.builtin "BaseException.__getattribute__")))
    (gg : PySem.W.findIn K (.ref C) "__getattr__" = some none)
    (gc : PySem.W.findIn K (.ref C) "__class__" = some (some (.builtin "object.__class__")))
    (n0 : PySem.W.findIn K (.ref C) "link" = some none)
    (kC : PySem.W.keepIn K (.ref C) = true)
    (tC : PySem.W.typeIn K (.ref C) = some (.type "type"))
    (iC : PySem.W.findIn K (.ref C) "__init__" = some (some (.ref g)))
    (tg : PySem.W.typeIn K (.ref g) = some (.type "function"))
    (l : K.lookup g = some ⟨oc, od, .func (PySem.W.fnOf "__init__" "BadLink.__init__" (EX.iA_link ⟨22, 17, 22, 21⟩ ⟨22, 23, 22, 27⟩) (EX.iB_link ⟨23, 8, 23, 12⟩ ⟨23, 8, 23, 17⟩ ⟨23, 20, 23, 24⟩ ⟨23, 8, 23, 24⟩) EX.iS_link .none kV dc pm an cd ct), sl⟩)
    (c : PySem.W.codeIn K cd "BadLink.__init__" = true) : Cl K mg "BadLink" ["link"] := by
  have hno : ∀ f ∈ (["link"] : List Str), PySem.W.findIn K (.ref C) f = some none := fun f hf => by
    simp only [List.mem_cons, List.not_mem_nil, or_false] at hf
    rcases hf with rfl
    · exact n0

  have T : EX.ExK K B "BadLink" C ["link"] := ⟨a, b, ⟨_, _, _, _, _, _, _, _, _, _, _, _, _, x⟩, sa, ga, gg, gc, hno, kC, tC⟩
  exact ⟨B, C, g, T, ⟨iC, tg, EX.ini_link (qn := "BadLink.__init__") ⟨_, _, _, _, _, _, _, _, _, _, _, _, _, _, _, l, c⟩ T.y⟩, PySem.W.mg_of X G a⟩
theorem mk_BadNumber {K : PySem.W.Frag} {h : Heap} {mg : Str → Option Value} (X : K.In h) (G : h.Ns mainGlobals mg) {B C N g : Addr} {qn : Str} {bs : List Value} {sn : List Str} {sub : List Value} {ab : Bool} {col : Option Bool} {dd od an : Option Addr} {m0 m1 m2 m3 m5 : Option Value} {oc kV dc pm cd ct : Value} {sl : Array (Option Value)}
    (a : PySem.W.nsIn K mainGlobals "BadNumber" = some (some (.ref C)))
    (b : PySem.W.nsIn K mainGlobals "BookError" = some (some (.ref B)))
    (x : K.lookup C = some (excClassObj "BadNumber" qn C N bs (.ref B :: [.type "ValueError", .type "Exception", .type "BaseException", .type "object"]) true sn sub ab col dd m0 m1 m2 m3 m5 "ValueError.__new__"))
    (sa : PySem.W.findIn K (.ref C) "__setattr__" = some (some (.builtin "object.__setattr__")))
    (ga : PySem.W.findIn K (.ref C) "__getattribute__" = some (some (.builtin "BaseException.__getattribute__")))
    (gg : PySem.W.findIn K (.ref C) "__getattr__" = some none)
    (gc : PySem.W.findIn K (.ref C) "__class__" = some (some (.builtin "object.__class__")))
    (n0 : PySem.W.findIn K (.ref C) "name" = some none)
    (kC : PySem.W.keepIn K (.ref C) = true)
    (tC : PySem.W.typeIn K (.ref C) = some (.type "type"))
    (iC : PySem.W.findIn K (.ref C) "__init__" = some (some (.ref g)))
    (tg : PySem.W.typeIn K (.ref g) = some (.type "function"))
    (l : K.lookup g = some ⟨oc, od, .func (PySem.W.fnOf "__init__" "BadNumber.__init__" (EX.iA_name ⟨26, 17, 26, 21⟩ ⟨26, 23, 26, 27⟩) (EX.iB_name ⟨27, 8, 27, 12⟩ ⟨27, 8, 27, 17⟩ ⟨27, 20, 27, 24⟩ ⟨27, 8, 27, 24⟩) EX.iS_name .none kV dc pm an cd ct), sl⟩)
    (c : PySem.W.codeIn K cd "BadNumber.__init__" = true) : Cl K mg "BadNumber" ["name"] := by
  have hno : ∀ f ∈ (["name"] : List Str), PySem.W.findIn K (.ref C) f = some none := fun f hf => by
    simp only [List.mem_cons, List.not_mem_nil, or_false] at hf
    rcases hf with rfl
    · exact n0

  have T : EX.ExK K B "BadNumber" C ["name"] := ⟨a, b, ⟨_, _, _, _, _, _, _, _, _, _, _, _, _, x⟩, sa, ga, gg, gc, hno, kC, tC⟩
  exact ⟨B, C, g, T, ⟨iC, tg, EX.ini_name (qn := "BadNumber.__init__") ⟨_, _, _, _, _, _, _, _, _, _, _, _, _, _, _, l, c⟩ T.y⟩, PySem.W.mg_of X G a⟩
theorem mk_BadSpot {K : PySem.W.Frag} {h : Heap} {mg : Str → Option Value} (X : K.In h) (G : h.Ns mainGlobals mg) {B C N g : Addr} {qn : Str} {bs : List Value} {sn : List Str} {sub : List Value} {ab : Bool} {col : Option Bool} {dd od an : Option Addr} {m0 m1 m2 m3 m5 : Option Value} {oc kV dc pm cd ct : Value} {sl : Array (Option Value)}
    (a : PySem.W.nsIn K mainGlobals "BadSpot" = some (some (.ref C)))
    (b : PySem.W.nsIn K mainGlobals "BookError" = some (some (.ref B)))
    (x : K.lookup C = some (excClassObj "BadSpot" qn C N bs (.ref B :: [.type "ValueError", .type "Exception", .type "BaseException", .type "object"]) true sn sub ab col dd m0 m1 m2 m3 m5 "ValueError.__new__"))
    (sa : PySem.W.findIn K (.ref C) "__setattr__" = some (some (.builtin "object.__setattr__")))
    (ga : PySem.W.findIn K (.ref C) "__getattribute__" = some (some (.builtin "BaseException.__getattribute__")))
    (gg : PySem.W.findIn K (.ref C) "__getattr__" = some none)
    (gc : PySem.W.findIn K (.ref C) "__class__" = some (some (.builtin "object.__class__")))
    (n0 : PySem.W.findIn K (.ref C) "number" = some none)
    (kC : PySem.W.keepIn K (.ref C) = true)
    (tC : PySem.W.typeIn K (.ref C) = some (.type "type"))
    (iC : PySem.W.findIn K (.ref C) "__init__" = some (some (.ref g)))
    (tg : PySem.W.typeIn K (.ref g) = some (.type "function"))
    (l : K.lookup g = some ⟨oc, od, .func (PySem.W.fnOf "__init__" "BadSpot.__init__" (EX.iA_number ⟨30, 17, 30, 21⟩ ⟨30, 23, 30, 29⟩) (EX.iB_number ⟨31, 8, 31, 12⟩ ⟨31, 8, 31, 19⟩ ⟨31, 22, 31, 28⟩ ⟨31, 8, 31, 28⟩) EX.iS_number .none kV dc pm an cd ct), sl⟩)
    (c : PySem.W.codeIn K cd "BadSpot.__init__" = true) : Cl K mg "BadSpot" ["number"] := by
  have hno : ∀ f ∈ (["number"] : List Str), PySem.W.findIn K (.ref C) f = some none := fun f hf => by
    simp only [List.mem_cons, List.not_mem_nil, or_false] at hf
    rcases hf with rfl
    · exact n0

  have T : EX.ExK K B "BadSpot" C ["number"] := ⟨a, b, ⟨_, _, _, _, _, _, _, _, _, _, _, _, _, x⟩, sa, ga, gg, gc, hno, kC, tC⟩
  exact ⟨B, C, g, T, ⟨iC, tg, EX.ini_number (qn := "BadSpot.__init__") ⟨_, _, _, _, _, _, _, _, _, _, _, _, _, _, _, l, c⟩ T.y⟩, PySem.W.mg_of X G a⟩
theorem mk_NoSpot {K : PySem.W.Frag} {h : Heap} {mg : Str → Option Value} (X : K.In h) (G : h.Ns mainGlobals mg) {B C N g : Addr} {qn : Str} {bs : List Value} {sn : List Str} {sub : List Value} {ab : Bool} {col : Option Bool} {dd od an : Option Addr} {m0 m1 m2 m3 m5 : Option Value} {oc kV dc pm cd ct : Value} {sl : Array (Option Value)}
    (a : PySem.W.nsIn K mainGlobals "NoSpot" = some (some (.ref C)))
    (b : PySem.W.nsIn K mainGlobals "BookError" = some (some (.ref B)))
    (x : K.lookup C = some (excClassObj "NoSpot" qn C N bs (.ref B :: [.type "ValueError", .type "Exception", .type "BaseException", .type "object"]) true sn sub ab col dd m0 m1 m2 m3 m5 "ValueError.__new__"))
    (sa : PySem.W.findIn K (.ref C) "__setattr__" = some (some (.builtin "object.__setattr__")))
    (ga : PySem.W.findIn K (.ref C) "__getattribute__" = some (some (.builtin "BaseException.__getattribute__")))
    (gg : PySem.W.findIn K (.ref C) "__getattr__" = some none)
    (gc : PySem.W.findIn K (.ref C) "__class__" = some (some (.builtin "object.__class__")))
    (n0 : PySem.W.findIn K (.ref C) "depth" = some none)
    (kC : PySem.W.keepIn K (.ref C) = true)
    (tC : PySem.W.typeIn K (.ref C) = some (.type "type"))
    (iC : PySem.W.findIn K (.ref C) "__init__" = some (some (.ref g)))
    (tg : PySem.W.typeIn K (.ref g) = some (.type "function"))
    (l : K.lookup g = some ⟨oc, od, .func (PySem.W.fnOf "__init__" "NoSpot.__init__" (EX.iA_depth ⟨34, 17, 34, 21⟩ ⟨34, 23, 34, 28⟩) (EX.iB_depth ⟨35, 8, 35, 12⟩ ⟨35, 8, 35, 18⟩ ⟨35, 21, 35, 26⟩ ⟨35, 8, 35, 26⟩) EX.iS_depth .none kV dc pm an cd ct), sl⟩)
    (c : PySem.W.codeIn K cd "NoSpot.__init__" = true) : Cl K mg "NoSpot" ["depth"] := by
  have hno : ∀ f ∈ (["depth"] : List Str), PySem.W.findIn K (.ref C) f = some none := fun f hf => by
    simp only [List.mem_cons, List.not_mem_nil, or_false] at hf
    rcases hf with rfl
    · exact n0

  have T : EX.ExK K B "NoSpot" C ["depth"] := ⟨a, b, ⟨_, _, _, _, _, _, _, _, _, _, _, _, _, x⟩, sa, ga, gg, gc, hno, kC, tC⟩
  exact ⟨B, C, g, T, ⟨iC, tg, EX.ini_depth (qn := "NoSpot.__init__") ⟨_, _, _, _, _, _, _, _, _, _, _, _, _, _, _, l, c⟩ T.y⟩, PySem.W.mg_of X G a⟩
theorem mk_BadText {K : PySem.W.Frag} {h : Heap} {mg : Str → Option Value} (X : K.In h) (G : h.Ns mainGlobals mg) {B C N g : Addr} {qn : Str} {bs : List Value} {sn : List Str} {sub : List Value} {ab : Bool} {col : Option Bool} {dd od an : Option Addr} {m0 m1 m2 m3 m5 : Option Value} {oc kV dc pm cd ct : Value} {sl : Array (Option Value)}
    (a : PySem.W.nsIn K mainGlobals "BadText" = some (some (.ref C)))
    (b : PySem.W.nsIn K mainGlobals "BookError" = some (some (.ref B)))
    (x : K.lookup C = some (excClassObj "BadText" qn C N bs (.ref B :: [.type "ValueError", .type "Exception", .type "BaseException", .type "object"]) true sn sub ab col dd m0 m1 m2 m3 m5 "ValueError.__new__"))
    (sa : PySem.W.findIn K (.ref C) "__setattr__" = some (some (.builtin "object.__setattr__")))
    (ga : PySem.W.findIn K (.ref C) "__getattribute__" = some (some (.builtin "BaseException.__getattribute__")))
    (gg : PySem.W.findIn K (.ref C) "__getattr__" = some none)
    (gc : PySem.W.findIn K (.ref C) "__class__" = some (some (.builtin "object.__class__")))
    (n0 : PySem.W.findIn K (.ref C) "row" = some none)
    (n1 : PySem.W.findIn K (.ref C) "column" = some none)
    (kC : PySem.W.keepIn K (.ref C) = true)
    (tC : PySem.W.typeIn K (.ref C) = some (.type "type"))
    (iC : PySem.W.findIn K (.ref C) "__init__" = some (some (.ref g)))
    (tg : PySem.W.typeIn K (.ref g) = some (.type "function"))
    (l : K.lookup g = some ⟨oc, od, .func (PySem.W.fnOf "__init__" "BadText.__init__" (EX.iA_row_column ⟨38, 17, 38, 21⟩ ⟨38, 23, 38, 26⟩ ⟨38, 28, 38, 34⟩) (EX.iB_row_column ⟨39, 8, 39, 12⟩ ⟨39, 8, 39, 16⟩ ⟨39, 19, 39, 22⟩ ⟨39, 8, 39, 22⟩ ⟨40, 8, 40, 12⟩ ⟨40, 8, 40, 19⟩ ⟨40, 22, 40, 28⟩ ⟨40, 8, 40, 28⟩) EX.iS_row_column .none kV dc pm an cd ct), sl⟩)
    (c : PySem.W.codeIn K cd "BadText.__init__" = true) : Cl K mg "BadText" ["row", "column"] := by
  have hno : ∀ f ∈ (["row", "column"] : List Str), PySem.W.findIn K (.ref C) f = some none := fun f hf => by
    simp only [List.mem_cons, List.not_mem_nil, or_false] at hf
    rcases hf with rfl | rfl
    · exact n0
    · exact n1

  have T : EX.ExK K B "BadText" C ["row", "column"] := ⟨a, b, ⟨_, _, _, _, _, _, _, _, _, _, _, _, _, x⟩, sa, ga, gg, gc, hno, kC, tC⟩
  exact ⟨B, C, g, T, ⟨iC, tg, EX.ini_row_column (qn := "BadText.__init__") ⟨_, _, _, _, _, _, _, _, _, _, _, _, _, _, _, _, _, _, _, _, l, c⟩ T.y⟩, PySem.W.mg_of X G a⟩
theorem mk_BadPatch {K : PySem.W.Frag} {h : Heap} {mg : Str → Option Value} (X : K.In h) (G : h.Ns mainGlobals mg) {B C N g : Addr} {qn : Str} {bs : List Value} {sn : List Str} {sub : List Value} {ab : Bool} {col : Option Bool} {dd od an : Option Addr} {m0 m1 m2 m3 m5 : Option Value} {oc kV dc pm cd ct : Value} {sl : Array (Option Value)}
    (a : PySem.W.nsIn K mainGlobals "BadPatch" = some (some (.ref C)))
    (b : PySem.W.nsIn K mainGlobals "BookError" = some (some (.ref B)))
    (x : K.lookup C = some (excClassObj "BadPatch" qn C N bs (.ref B :: [.type "ValueError", .type "Exception", .type "BaseException", .type "object"]) true sn sub ab col dd m0 m1 m2 m3 m5 "ValueError.__new__"))
    (sa : PySem.W.findIn K (.ref C) "__setattr__" = some (some (.builtin "object.__setattr__")))
    (ga : PySem.W.findIn K (.ref C) "__getattribute__" = some (some (.builtin "BaseException.__getattribute__")))
    (gg : PySem.W.findIn K (.ref C) "__getattr__" = some none)
    (gc : PySem.W.findIn K (.ref C) "__class__" = some (some (.builtin "object.__class__")))
    (n0 : PySem.W.findIn K (.ref C) "part" = some none)
    (n1 : PySem.W.findIn K (.ref C) "number" = some none)
    (kC : PySem.W.keepIn K (.ref C) = true)
    (tC : PySem.W.typeIn K (.ref C) = some (.type "type"))
    (iC : PySem.W.findIn K (.ref C) "__init__" = some (some (.ref g)))
    (tg : PySem.W.typeIn K (.ref g) = some (.type "function"))
    (l : K.lookup g = some ⟨oc, od, .func (PySem.W.fnOf "__init__" "BadPatch.__init__" (EX.iA_part_number ⟨43, 17, 43, 21⟩ ⟨43, 23, 43, 27⟩ ⟨43, 29, 43, 35⟩) (EX.iB_part_number ⟨44, 8, 44, 12⟩ ⟨44, 8, 44, 17⟩ ⟨44, 20, 44, 24⟩ ⟨44, 8, 44, 24⟩ ⟨45, 8, 45, 12⟩ ⟨45, 8, 45, 19⟩ ⟨45, 22, 45, 28⟩ ⟨45, 8, 45, 28⟩) EX.iS_part_number .none kV dc pm an cd ct), sl⟩)
    (c : PySem.W.codeIn K cd "BadPatch.__init__" = true) : Cl K mg "BadPatch" ["part", "number"] := by
  have hno : ∀ f ∈ (["part", "number"] : List Str), PySem.W.findIn K (.ref C) f = some none := fun f hf => by
    simp only [List.mem_cons, List.not_mem_nil, or_false] at hf
    rcases hf with rfl | rfl
    · exact n0
    · exact n1

  have T : EX.ExK K B "BadPatch" C ["part", "number"] := ⟨a, b, ⟨_, _, _, _, _, _, _, _, _, _, _, _, _, x⟩, sa, ga, gg, gc, hno, kC, tC⟩
  exact ⟨B, C, g, T, ⟨iC, tg, EX.ini_part_number (qn := "BadPatch.__init__") ⟨_, _, _, _, _, _, _, _, _, _, _, _, _, _, _, _, _, _, _, _, l, c⟩ T.y⟩, PySem.W.mg_of X G a⟩
theorem mk_Misfit {K : PySem.W.Frag} {h : Heap} {mg : Str → Option Value} (X : K.In h) (G : h.Ns mainGlobals mg) {B C N g : Addr} {qn : Str} {bs : List Value} {sn : List Str} {sub : List Value} {ab : Bool} {col : Option Bool} {dd od an : Option Addr} {m0 m1 m2 m3 m5 : Option Value} {oc kV dc pm cd ct : Value} {sl : Array (Option Value)}
    (a : PySem.W.nsIn K mainGlobals "Misfit" = some (some (.ref C)))
    (b : PySem.W.nsIn K mainGlobals "BookError" = some (some (.ref B)))
    (x : K.lookup C = some (excClassObj "Misfit" qn C N bs (.ref B :: [.type "ValueError", .type "Exception", .type "BaseException", .type "object"]) true sn sub ab col dd m0 m1 m2 m3 m5 "ValueError.__new__"))
    (sa : PySem.W.findIn K (.ref C) "__setattr__" = some (some (.builtin "object.__setattr__")))
    (ga : PySem.W.findIn K (.ref C) "__getattribute__" = some (some (.builtin "BaseException.__getattribute__")))
    (gg : PySem.W.findIn K (.ref C) "__getattr__" = some none)
    (gc : PySem.W.findIn K (.ref C) "__class__" = some (some (.builtin "object.__class__")))
    (n0 : PySem.W.findIn K (.ref C) "index" = some none)
    (kC : PySem.W.keepIn K (.ref C) = true)
    (tC : PySem.W.typeIn K (.ref C) = some (.type "type"))
    (iC : PySem.W.findIn K (.ref C) "__init__" = some (some (.ref g)))
    (tg : PySem.W.typeIn K (.ref g) = some (.type "function"))
    (l : K.lookup g = some ⟨oc, od, .func (PySem.W.fnOf "__init__" "Misfit.__init__" (EX.iA_index ⟨48, 17, 48, 21⟩ ⟨48, 23, 48, 28⟩) (EX.iB_index ⟨49, 8, 49, 12⟩ ⟨49, 8, 49, 18⟩ ⟨49, 21, 49, 26⟩ ⟨49, 8, 49, 26⟩) EX.iS_index .none kV dc pm an cd ct), sl⟩)
    (c : PySem.W.codeIn K cd "Misfit.__init__" = true) : Cl K mg "Misfit" ["index"] := by
  have hno : ∀ f ∈ (["index"] : List Str), PySem.W.findIn K (.ref C) f = some none := fun f hf => by
    simp only [List.mem_cons, List.not_mem_nil, or_false] at hf
    rcases hf with rfl
    · exact n0

  have T : EX.ExK K B "Misfit" C ["index"] := ⟨a, b, ⟨_, _, _, _, _, _, _, _, _, _, _, _, _, x⟩, sa, ga, gg, gc, hno, kC, tC⟩
  exact ⟨B, C, g, T, ⟨iC, tg, EX.ini_index (qn := "Misfit.__init__") ⟨_, _, _, _, _, _, _, _, _, _, _, _, _, _, _, l, c⟩ T.y⟩, PySem.W.mg_of X G a⟩
theorem mk_Conflict {K : PySem.W.Frag} {h : Heap} {mg : Str → Option Value} (X : K.In h) (G : h.Ns mainGlobals mg) {B C N g : Addr} {qn : Str} {bs : List Value} {sn : List Str} {sub : List Value} {ab : Bool} {col : Option Bool} {dd od an : Option Addr} {m0 m1 m2 m3 m5 : Option Value} {oc kV dc pm cd ct : Value} {sl : Array (Option Value)}
    (a : PySem.W.nsIn K mainGlobals "Conflict" = some (some (.ref C)))
    (b : PySem.W.nsIn K mainGlobals "BookError" = some (some (.ref B)))
    (x : K.lookup C = some (excClassObj "Conflict" qn C N bs (.ref B :: [.type "ValueError", .type "Exception", .type "BaseException", .type "object"]) true sn sub ab col dd m0 m1 m2 m3 m5 "ValueError.__new__"))
    (sa : PySem.W.findIn K (.ref C) "__setattr__" = some (some (.builtin "object.__setattr__")))
    (ga : PySem.W.findIn K (.ref C) "__getattribute__" = some (some (.builtin "BaseException.__getattribute__")))
    (gg : PySem.W.findIn K (.ref C) "__getattr__" = some none)
    (gc : PySem.W.findIn K (.ref C) "__class__" = some (some (.builtin "object.__class__")))
    (n0 : PySem.W.findIn K (.ref C) "place" = some none)
    (kC : PySem.W.keepIn K (.ref C) = true)
    (tC : PySem.W.typeIn K (.ref C) = some (.type "type"))
    (iC : PySem.W.findIn K (.ref C) "__init__" = some (some (.ref g)))
    (tg : PySem.W.typeIn K (.ref g) = some (.type "function"))
    (l : K.lookup g = some ⟨oc, od, .func (PySem.W.fnOf "__init__" "Conflict.__init__" (EX.iA_place ⟨52, 17, 52, 21⟩ ⟨52, 23, 52, 28⟩) (EX.iB_place ⟨53, 8, 53, 12⟩ ⟨53, 8, 53, 18⟩ ⟨53, 21, 53, 26⟩ ⟨53, 8, 53, 26⟩) EX.iS_place .none kV dc pm an cd ct), sl⟩)
    (c : PySem.W.codeIn K cd "Conflict.__init__" = true) : Cl K mg "Conflict" ["place"] := by
  have hno : ∀ f ∈ (["place"] : List Str), PySem.W.findIn K (.ref C) f = some none := fun f hf => by
    simp only [List.mem_cons, List.not_mem_nil, or_false] at hf
    rcases hf with rfl
    · exact n0

  have T : EX.ExK K B "Conflict" C ["place"] := ⟨a, b, ⟨_, _, _, _, _, _, _, _, _, _, _, _, _, x⟩, sa, ga, gg, gc, hno, kC, tC⟩
  exact ⟨B, C, g, T, ⟨iC, tg, EX.ini_place (qn := "Conflict.__init__") ⟨_, _, _, _, _, _, _, _, _, _, _, _, _, _, _, l, c⟩ T.y⟩, PySem.W.mg_of X G a⟩
theorem mk_NoNode {K : PySem.W.Frag} {h : Heap} {mg : Str → Option Value} (X : K.In h) (G : h.Ns mainGlobals mg) {B C N g : Addr} {qn : Str} {bs : List Value} {sn : List Str} {sub : List Value} {ab : Bool} {col : Option Bool} {dd od an : Option Addr} {m0 m1 m2 m3 m5 : Option Value} {oc kV dc pm cd ct : Value} {sl : Array (Option Value)}
    (a : PySem.W.nsIn K mainGlobals "NoNode" = some (some (.ref C)))
    (b : PySem.W.nsIn K mainGlobals "BookError" = some (some (.ref B)))
    (x : K.lookup C = some (excClassObj "NoNode" qn C N bs (.ref B :: [.type "ValueError", .type "Exception", .type "BaseException", .type "object"]) true sn sub ab col dd m0 m1 m2 m3 m5 "ValueError.__new__"))
    (sa : PySem.W.findIn K (.ref C) "__setattr__" = some (some (.builtin "object.__setattr__")))
    (ga : PySem.W.findIn K (.ref C) "__getattribute__" = some (some (.builtin "BaseException.__getattribute__")))
    (gg : PySem.W.findIn K (.ref C) "__getattr__" = some none)
    (gc : PySem.W.findIn K (.ref C) "__class__" = some (some (.builtin "object.__class__")))
    (n0 : PySem.W.findIn K (.ref C) "gap" = some none)
    (kC : PySem.W.keepIn K (.ref C) = true)
    (tC : PySem.W.typeIn K (.ref C) = some (.type "type"))
    (iC : PySem.W.findIn K (.ref C) "__init__" = some (some (.ref g)))
    (tg : PySem.W.typeIn K (.ref g) = some (.type "function"))
    (l : K.lookup g = some ⟨oc, od, .func (PySem.W.fnOf "__init__" "NoNode.__init__" (EX.iA_gap ⟨56, 17, 56, 21⟩ ⟨56, 23, 56, 26⟩) (EX.iB_gap ⟨57, 8, 57, 12⟩ ⟨57, 8, 57, 16⟩ ⟨57, 19, 57, 22⟩ ⟨57, 8, 57, 22⟩) EX.iS_gap .none kV dc pm an cd ct), sl⟩)
    (c : PySem.W.codeIn K cd "NoNode.__init__" = true) : Cl K mg "NoNode" ["gap"] := by
  have hno : ∀ f ∈ (["gap"] : List Str), PySem.W.findIn K (.ref C) f = some none := fun f hf => by
    simp only [List.mem_cons, List.not_mem_nil, or_false] at hf
    rcases hf with rfl
    · exact n0

  have T : EX.ExK K B "NoNode" C ["gap"] := ⟨a, b, ⟨_, _, _, _, _, _, _, _, _, _, _, _, _, x⟩, sa, ga, gg, gc, hno, kC, tC⟩
  exact ⟨B, C, g, T, ⟨iC, tg, EX.ini_gap (qn := "NoNode.__init__") ⟨_, _, _, _, _, _, _, _, _, _, _, _, _, _, _, l, c⟩ T.y⟩, PySem.W.mg_of X G a⟩
theorem mk_TooLong {K : PySem.W.Frag} {h : Heap} {mg : Str → Option Value} (X : K.In h) (G : h.Ns mainGlobals mg) {B C N g : Addr} {qn : Str} {bs : List Value} {sn : List Str} {sub : List Value} {ab : Bool} {col : Option Bool} {dd od an : Option Addr} {m0 m1 m2 m3 m5 : Option Value} {oc kV dc pm cd ct : Value} {sl : Array (Option Value)}
    (a : PySem.W.nsIn K mainGlobals "TooLong" = some (some (.ref C)))
    (b : PySem.W.nsIn K mainGlobals "BookError" = some (some (.ref B)))
    (x : K.lookup C = some (excClassObj "TooLong" qn C N bs (.ref B :: [.type "ValueError", .type "Exception", .type "BaseException", .type "object"]) true sn sub ab col dd m0 m1 m2 m3 m5 "ValueError.__new__"))
    (sa : PySem.W.findIn K (.ref C) "__setattr__" = some (some (.builtin "object.__setattr__")))
    (ga : PySem.W.findIn K (.ref C) "__getattribute__" = some (some (.builtin "BaseException.__getattribute__")))
    (gg : PySem.W.findIn K (.ref C) "__getattr__" = some none)
    (gc : PySem.W.findIn K (.ref C) "__class__" = some (some (.builtin "object.__class__")))
    (n0 : PySem.W.findIn K (.ref C) "number" = some none)
    (kC : PySem.W.keepIn K (.ref C) = true)
    (tC : PySem.W.typeIn K (.ref C) = some (.type "type"))
    (iC : PySem.W.findIn K (.ref C) "__init__" = some (some (.ref g)))
    (tg : PySem.W.typeIn K (.ref g) = some (.type "function"))
    (l : K.lookup g = some ⟨oc, od, .func (PySem.W.fnOf "__init__" "TooLong.__init__" (EX.iA_number ⟨60, 17, 60, 21⟩ ⟨60, 23, 60, 29⟩) (EX.iB_number ⟨61, 8, 61, 12⟩ ⟨61, 8, 61, 19⟩ ⟨61, 22, 61, 28⟩ ⟨61, 8, 61, 28⟩) EX.iS_number .none kV dc pm an cd ct), sl⟩)
    (c : PySem.W.codeIn K cd "TooLong.__init__" = true) : Cl K mg "TooLong" ["number"] := by
  have hno : ∀ f ∈ (["number"] : List Str), PySem.W.findIn K (.ref C) f = some none := fun f hf => by
    simp only [List.mem_cons, List.not_mem_nil, or_false] at hf
    rcases hf with rfl
    · exact n0

  have T : EX.ExK K B "TooLong" C ["number"] := ⟨a, b, ⟨_, _, _, _, _, _, _, _, _, _, _, _, _, x⟩, sa, ga, gg, gc, hno, kC, tC⟩
  exact ⟨B, C, g, T, ⟨iC, tg, EX.ini_number (qn := "TooLong.__init__") ⟨_, _, _, _, _, _, _, _, _, _, _, _, _, _, _, l, c⟩ T.y⟩, PySem.W.mg_of X G a⟩
theorem mk_BadBranch {K : PySem.W.Frag} {h : Heap} {mg : Str → Option Value} (X : K.In h) (G : h.Ns mainGlobals mg) {B C N g : Addr} {qn : Str} {bs : List Value} {sn : List Str} {sub : List Value} {ab : Bool} {col : Option Bool} {dd od an : Option Addr} {m0 m1 m2 m3 m5 : Option Value} {oc kV dc pm cd ct : Value} {sl : Array (Option Value)}
    (a : PySem.W.nsIn K mainGlobals "BadBranch" = some (some (.ref C)))
    (b : PySem.W.nsIn K mainGlobals "BookError" = some (some (.ref B)))
    (x : K.lookup C = some (excClassObj "BadBranch" qn C N bs (.ref B :: [.type "ValueError", .type "Exception", .type "BaseException", .type "object"]) true sn sub ab col dd m0 m1 m2 m3 m5 "ValueError.__new__"))
    (sa : PySem.W.findIn K (.ref C) "__setattr__" = some (some (.builtin "object.__setattr__")))
    (ga : PySem.W.findIn K (.ref C) "__getattribute__" = some (some (.builtin "BaseException.__getattribute__")))
    (gg : PySem.W.findIn K (.ref C) "__getattr__" = some none)
    (gc : PySem.W.findIn K (.ref C) "__class__" = some (some (.builtin "object.__class__")))
    (n0 : PySem.W.findIn K (.ref C) "side" = some none)
    (n1 : PySem.W.findIn K (.ref C) "number" = some none)
    (kC : PySem.W.keepIn K (.ref C) = true)
    (tC : PySem.W.typeIn K (.ref C) = some (.type "type"))
    (iC : PySem.W.findIn K (.ref C) "__init__" = some (some (.ref g)))
    (tg : PySem.W.typeIn K (.ref g) = some (.type "function"))
    (l : K.lookup g = some ⟨oc, od, .func (PySem.W.fnOf "__init__" "BadBranch.__init__" (EX.iA_side_number ⟨64, 17, 64, 21⟩ ⟨64, 23, 64, 27⟩ ⟨64, 29, 64, 35⟩) (EX.iB_side_number ⟨65, 8, 65, 12⟩ ⟨65, 8, 65, 17⟩ ⟨65, 20, 65, 24⟩ ⟨65, 8, 65, 24⟩ ⟨66, 8, 66, 12⟩ ⟨66, 8, 66, 19⟩ ⟨66, 22, 66, 28⟩ ⟨66, 8, 66, 28⟩) EX.iS_side_number .none kV dc pm an cd ct), sl⟩)
    (c : PySem.W.codeIn K cd "BadBranch.__init__" = true) : Cl K mg "BadBranch" ["side", "number"] := by
  have hno : ∀ f ∈ (["side", "number"] : List Str), PySem.W.findIn K (.ref C) f = some none := fun f hf => by
    simp only [List.mem_cons, List.not_mem_nil, or_false] at hf
    rcases hf with rfl | rfl
    · exact n0
    · exact n1

  have T : EX.ExK K B "BadBranch" C ["side", "number"] := ⟨a, b, ⟨_, _, _, _, _, _, _, _, _, _, _, _, _, x⟩, sa, ga, gg, gc, hno, kC, tC⟩
  exact ⟨B, C, g, T, ⟨iC, tg, EX.ini_side_number (qn := "BadBranch.__init__") ⟨_, _, _, _, _, _, _, _, _, _, _, _, _, _, _, _, _, _, _, _, l, c⟩ T.y⟩, PySem.W.mg_of X G a⟩
theorem mk_Clash {K : PySem.W.Frag} {h : Heap} {mg : Str → Option Value} (X : K.In h) (G : h.Ns mainGlobals mg) {B C N g : Addr} {qn : Str} {bs : List Value} {sn : List Str} {sub : List Value} {ab : Bool} {col : Option Bool} {dd od an : Option Addr} {m0 m1 m2 m3 m5 : Option Value} {oc kV dc pm cd ct : Value} {sl : Array (Option Value)}
    (a : PySem.W.nsIn K mainGlobals "Clash" = some (some (.ref C)))
    (b : PySem.W.nsIn K mainGlobals "BookError" = some (some (.ref B)))
    (x : K.lookup C = some (excClassObj "Clash" qn C N bs (.ref B :: [.type "ValueError", .type "Exception", .type "BaseException", .type "object"]) true sn sub ab col dd m0 m1 m2 m3 m5 "ValueError.__new__"))
    (sa : PySem.W.findIn K (.ref C) "__setattr__" = some (some (.builtin "object.__setattr__")))
    (ga : PySem.W.findIn K (.ref C) "__getattribute__" = some (some (.builtin "BaseException.__getattribute__")))
    (gg : PySem.W.findIn K (.ref C) "__getattr__" = some none)
    (gc : PySem.W.findIn K (.ref C) "__class__" = some (some (.builtin "object.__class__")))
    (n0 : PySem.W.findIn K (.ref C) "first" = some none)
    (n1 : PySem.W.findIn K (.ref C) "second" = some none)
    (n2 : PySem.W.findIn K (.ref C) "place" = some none)
    (kC : PySem.W.keepIn K (.ref C) = true)
    (tC : PySem.W.typeIn K (.ref C) = some (.type "type"))
    (iC : PySem.W.findIn K (.ref C) "__init__" = some (some (.ref g)))
    (tg : PySem.W.typeIn K (.ref g) = some (.type "function"))
    (l : K.lookup g = some ⟨oc, od, .func (PySem.W.fnOf "__init__" "Clash.__init__" (EX.iA_first_second_place ⟨69, 17, 69, 21⟩ ⟨69, 23, 69, 28⟩ ⟨69, 30, 69, 36⟩ ⟨69, 38, 69, 43⟩) (EX.iB_first_second_place ⟨70, 8, 70, 12⟩ ⟨70, 8, 70, 18⟩ ⟨70, 21, 70, 26⟩ ⟨70, 8, 70, 26⟩ ⟨71, 8, 71, 12⟩ ⟨71, 8, 71, 19⟩ ⟨71, 22, 71, 28⟩ ⟨71, 8, 71, 28⟩ ⟨72, 8, 72, 12⟩ ⟨72, 8, 72, 18⟩ ⟨72, 21, 72, 26⟩ ⟨72, 8, 72, 26⟩) EX.iS_first_second_place .none kV dc pm an cd ct), sl⟩)
    (c : PySem.W.codeIn K cd "Clash.__init__" = true) : Cl K mg "Clash" ["first", "second", "place"] := by
  have hno : ∀ f ∈ (["first", "second", "place"] : List Str), PySem.W.findIn K (.ref C) f = some none := fun f hf => by
    simp only [List.mem_cons, List.not_mem_nil, or_false] at hf
    rcases hf with rfl | rfl | rfl
    · exact n0
    · exact n1
    · exact n2

  have T : EX.ExK K B "Clash" C ["first", "second", "place"] := ⟨a, b, ⟨_, _, _, _, _, _, _, _, _, _, _, _, _, x⟩, sa, ga, gg, gc, hno, kC, tC⟩
  exact ⟨B, C, g, T, ⟨iC, tg, EX.ini_first_second_place (qn := "Clash.__init__") ⟨_, _, _, _, _, _, _, _, _, _, _, _, _, _, _, _, _, _, _, _, _, _, _, _, _, l, c⟩ T.y⟩, PySem.W.mg_of X G a⟩
theorem mk_BadBook {K : PySem.W.Frag} {h : Heap} {mg : Str → Option Value} (X : K.In h) (G : h.Ns mainGlobals mg) {B C N g : Addr} {qn : Str} {bs : List Value} {sn : List Str} {sub : List Value} {ab : Bool} {col : Option Bool} {dd od an : Option Addr} {m0 m1 m2 m3 m5 : Option Value} {oc kV dc pm cd ct : Value} {sl : Array (Option Value)}
    (a : PySem.W.nsIn K mainGlobals "BadBook" = some (some (.ref C)))
    (b : PySem.W.nsIn K mainGlobals "BookError" = some (some (.ref B)))
    (x : K.lookup C = some (excClassObj "BadBook" qn C N bs (.ref B :: [.type "ValueError", .type "Exception", .type "BaseException", .type "object"]) true sn sub ab col dd m0 m1 m2 m3 m5 "ValueError.__new__"))
    (sa : PySem.W.findIn K (.ref C) "__setattr__" = some (some (.builtin "object.__setattr__")))
    (ga : PySem.W.findIn K (.ref C) "__getattribute__" = some (some (.builtin "BaseException.__getattribute__")))
    (gg : PySem.W.findIn K (.ref C) "__getattr__" = some none)
    (gc : PySem.W.findIn K (.ref C) "__class__" = some (some (.builtin "object.__class__")))
    (n0 : PySem.W.findIn K (.ref C) "part" = some none)
    (n1 : PySem.W.findIn K (.ref C) "number" = some none)
    (kC : PySem.W.keepIn K (.ref C) = true)
    (tC : PySem.W.typeIn K (.ref C) = some (.type "type"))
    (iC : PySem.W.findIn K (.ref C) "__init__" = some (some (.ref g)))
    (tg : PySem.W.typeIn K (.ref g) = some (.type "function"))
    (l : K.lookup g = some ⟨oc, od, .func (PySem.W.fnOf "__init__" "BadBook.__init__" (EX.iA_part_number ⟨75, 17, 75, 21⟩ ⟨75, 23, 75, 27⟩ ⟨75, 29, 75, 35⟩) (EX.iB_part_number ⟨76, 8, 76, 12⟩ ⟨76, 8, 76, 17⟩ ⟨76, 20, 76, 24⟩ ⟨76, 8, 76, 24⟩ ⟨77, 8, 77, 12⟩ ⟨77, 8, 77, 19⟩ ⟨77, 22, 77, 28⟩ ⟨77, 8, 77, 28⟩) EX.iS_part_number .none kV dc pm an cd ct), sl⟩)
    (c : PySem.W.codeIn K cd "BadBook.__init__" = true) : Cl K mg "BadBook" ["part", "number"] := by
  have hno : ∀ f ∈ (["part", "number"] : List Str), PySem.W.findIn K (.ref C) f = some none := fun f hf => by
    simp only [List.mem_cons, List.not_mem_nil, or_false] at hf
    rcases hf with rfl | rfl
    · exact n0
    · exact n1

  have T : EX.ExK K B "BadBook" C ["part", "number"] := ⟨a, b, ⟨_, _, _, _, _, _, _, _, _, _, _, _, _, x⟩, sa, ga, gg, gc, hno, kC, tC⟩
  exact ⟨B, C, g, T, ⟨iC, tg, EX.ini_part_number (qn := "BadBook.__init__") ⟨_, _, _, _, _, _, _, _, _, _, _, _, _, _, _, _, _, _, _, _, l, c⟩ T.y⟩, PySem.W.mg_of X G a⟩
theorem mk_NoItem {K : PySem.W.Frag} {h : Heap} {mg : Str → Option Value} (X : K.In h) (G : h.Ns mainGlobals mg) {B C N g : Addr} {qn : Str} {bs : List Value} {sn : List Str} {sub : List Value} {ab : Bool} {col : Option Bool} {dd od an : Option Addr} {m0 m1 m2 m3 m5 : Option Value} {oc kV dc pm cd ct : Value} {sl : Array (Option Value)}
    (a : PySem.W.nsIn K mainGlobals "NoItem" = some (some (.ref C)))
    (b : PySem.W.nsIn K mainGlobals "BookError" = some (some (.ref B)))
    (x : K.lookup C = some (excClassObj "NoItem" qn C N bs (.ref B :: [.type "ValueError", .type "Exception", .type "BaseException", .type "object"]) true sn sub ab col dd m0 m1 m2 m3 m5 "ValueError.__new__"))
    (sa : PySem.W.findIn K (.ref C) "__setattr__" = some (some (.builtin "object.__setattr__")))
    (ga : PySem.W.findIn K (.ref C) "__getattribute__" = some (some (.builtin "BaseException.__getattribute__")))
    (gg : PySem.W.findIn K (.ref C) "__getattr__" = some none)
    (gc : PySem.W.findIn K (.ref C) "__class__" = some (some (.builtin "object.__class__")))
    (n0 : PySem.W.findIn K (.ref C) "key" = some none)
    (kC : PySem.W.keepIn K (.ref C) = true)
    (tC : PySem.W.typeIn K (.ref C) = some (.type "type"))
    (iC : PySem.W.findIn K (.ref C) "__init__" = some (some (.ref g)))
    (tg : PySem.W.typeIn K (.ref g) = some (.type "function"))
    (l : K.lookup g = some ⟨oc, od, .func (PySem.W.fnOf "__init__" "NoItem.__init__" (EX.iA_key ⟨80, 17, 80, 21⟩ ⟨80, 23, 80, 26⟩) (EX.iB_key ⟨81, 8, 81, 12⟩ ⟨81, 8, 81, 16⟩ ⟨81, 19, 81, 22⟩ ⟨81, 8, 81, 22⟩) EX.iS_key .none kV dc pm an cd ct), sl⟩)
    (c : PySem.W.codeIn K cd "NoItem.__init__" = true) : Cl K mg "NoItem" ["key"] := by
  have hno : ∀ f ∈ (["key"] : List Str), PySem.W.findIn K (.ref C) f = some none := fun f hf => by
    simp only [List.mem_cons, List.not_mem_nil, or_false] at hf
    rcases hf with rfl
    · exact n0

  have T : EX.ExK K B "NoItem" C ["key"] := ⟨a, b, ⟨_, _, _, _, _, _, _, _, _, _, _, _, _, x⟩, sa, ga, gg, gc, hno, kC, tC⟩
  exact ⟨B, C, g, T, ⟨iC, tg, EX.ini_key (qn := "NoItem.__init__") ⟨_, _, _, _, _, _, _, _, _, _, _, _, _, _, _, l, c⟩ T.y⟩, PySem.W.mg_of X G a⟩
theorem mk_NoChapter {K : PySem.W.Frag} {h : Heap} {mg : Str → Option Value} (X : K.In h) (G : h.Ns mainGlobals mg) {B C N g : Addr} {qn : Str} {bs : List Value} {sn : List Str} {sub : List Value} {ab : Bool} {col : Option Bool} {dd od an : Option Addr} {m0 m1 m2 m3 m5 : Option Value} {oc kV dc pm cd ct : Value} {sl : Array (Option Value)}
    (a : PySem.W.nsIn K mainGlobals "NoChapter" = some (some (.ref C)))
    (b : PySem.W.nsIn K mainGlobals "BookError" = some (some (.ref B)))
    (x : K.lookup C = some (excClassObj "NoChapter" qn C N bs (.ref B :: [.type "ValueError", .type "Exception", .type "BaseException", .type "object"]) true sn sub ab col dd m0 m1 m2 m3 m5 "ValueError.__new__"))
    (sa : PySem.W.findIn K (.ref C) "__setattr__" = some (some (.builtin "object.__setattr__")))
    (ga : PySem.W.findIn K (.ref C) "__getattribute__" = some (some (.builtin "BaseException.__getattribute__")))
    (gg : PySem.W.findIn K (.ref C) "__getattr__" = some none)
    (gc : PySem.W.findIn K (.ref C) "__class__" = some (some (.builtin "object.__class__")))
    (n0 : PySem.W.findIn K (.ref C) "key" = some none)
    (kC : PySem.W.keepIn K (.ref C) = true)
    (tC : PySem.W.typeIn K (.ref C) = some (.type "type"))
    (iC : PySem.W.findIn K (.ref C) "__init__" = some (some (.ref g)))
    (tg : PySem.W.typeIn K (.ref g) = some (.type "function"))
    (l : K.lookup g = some ⟨oc, od, .func (PySem.W.fnOf "__init__" "NoChapter.__init__" (EX.iA_key ⟨84, 17, 84, 21⟩ ⟨84, 23, 84, 26⟩) (EX.iB_key ⟨85, 8, 85, 12⟩ ⟨85, 8, 85, 16⟩ ⟨85, 19, 85, 22⟩ ⟨85, 8, 85, 22⟩) EX.iS_key .none kV dc pm an cd ct), sl⟩)
    (c : PySem.W.codeIn K cd "NoChapter.__init__" = true) : Cl K mg "NoChapter" ["key"] := by
  have hno : ∀ f ∈ (["key"] : List Str), PySem.W.findIn K (.ref C) f = some none := fun f hf => by
    simp only [List.mem_cons, List.not_mem_nil, or_false] at hf
    rcases hf with rfl
    · exact n0

  have T : EX.ExK K B "NoChapter" C ["key"] := ⟨a, b, ⟨_, _, _, _, _, _, _, _, _, _, _, _, _, x⟩, sa, ga, gg, gc, hno, kC, tC⟩
  exact ⟨B, C, g, T, ⟨iC, tg, EX.ini_key (qn := "NoChapter.__init__") ⟨_, _, _, _, _, _, _, _, _, _, _, _, _, _, _, l, c⟩ T.y⟩, PySem.W.mg_of X G a⟩
theorem mk_NotInSlots {K : PySem.W.Frag} {h : Heap} {mg : Str → Option Value} (X : K.In h) (G : h.Ns mainGlobals mg) {B C N g : Addr} {qn : Str} {bs : List Value} {sn : List Str} {sub : List Value} {ab : Bool} {col : Option Bool} {dd od an : Option Addr} {m0 m1 m2 m3 m5 : Option Value} {oc kV dc pm cd ct : Value} {sl : Array (Option Value)}
    (a : PySem.W.nsIn K mainGlobals "NotInSlots" = some (some (.ref C)))
    (b : PySem.W.nsIn K mainGlobals "BookError" = some (some (.ref B)))
    (x : K.lookup C = some (excClassObj "NotInSlots" qn C N bs (.ref B :: [.type "ValueError", .type "Exception", .type "BaseException", .type "object"]) true sn sub ab col dd m0 m1 m2 m3 m5 "ValueError.__new__"))
    (sa : PySem.W.findIn K (.ref C) "__setattr__" = some (some (.builtin "object.__setattr__")))
    (ga : PySem.W.findIn K (.ref C) "__getattribute__" = some (some (.builtin "BaseException.__getattribute__")))
    (gg : PySem.W.findIn K (.ref C) "__getattr__" = some none)
    (gc : PySem.W.findIn K (.ref C) "__class__" = some (some (.builtin "object.__class__")))
    (n0 : PySem.W.findIn K (.ref C) "key" = some none)
    (kC : PySem.W.keepIn K (.ref C) = true)
    (tC : PySem.W.typeIn K (.ref C) = some (.type "type"))
    (iC : PySem.W.findIn K (.ref C) "__init__" = some (some (.ref g)))
    (tg : PySem.W.typeIn K (.ref g) = some (.type "function"))
    (l : K.lookup g = some ⟨oc, od, .func (PySem.W.fnOf "__init__" "NotInSlots.__init__" (EX.iA_key ⟨88, 17, 88, 21⟩ ⟨88, 23, 88, 26⟩) (EX.iB_key ⟨89, 8, 89, 12⟩ ⟨89, 8, 89, 16⟩ ⟨89, 19, 89, 22⟩ ⟨89, 8, 89, 22⟩) EX.iS_key .none kV dc pm an cd ct), sl⟩)
    (c : PySem.W.codeIn K cd "NotInSlots.__init__" = true) : Cl K mg "NotInSlots" ["key"] := by
  have hno : ∀ f ∈ (["key"] : List Str), PySem.W.findIn K (.ref C) f = some none := fun f hf => by
    simp only [List.mem_cons, List.not_mem_nil, or_false] at hf
    rcases hf with rfl
    · exact n0

  have T : EX.ExK K B "NotInSlots" C ["key"] := ⟨a, b, ⟨_, _, _, _, _, _, _, _, _, _, _, _, _, x⟩, sa, ga, gg, gc, hno, kC, tC⟩
  exact ⟨B, C, g, T, ⟨iC, tg, EX.ini_key (qn := "NotInSlots.__init__") ⟨_, _, _, _, _, _, _, _, _, _, _, _, _, _, _, l, c⟩ T.y⟩, PySem.W.mg_of X G a⟩
theorem mk_NotNeighbors {K : PySem.W.Frag} {h : Heap} {mg : Str → Option Value} (X : K.In h) (G : h.Ns mainGlobals mg) {B C N g : Addr} {qn : Str} {bs : List Value} {sn : List Str} {sub : List Value} {ab : Bool} {col : Option Bool} {dd od an : Option Addr} {m0 m1 m2 m3 m5 : Option Value} {oc kV dc pm cd ct : Value} {sl : Array (Option Value)}
    (a : PySem.W.nsIn K mainGlobals "NotNeighbors" = some (some (.ref C)))
    (b : PySem.W.nsIn K mainGlobals "BookError" = some (some (.ref B)))
    (x : K.lookup C = some (excClassObj "NotNeighbors" qn C N bs (.ref B :: [.type "ValueError", .type "Exception", .type "BaseException", .type "object"]) true sn sub ab col dd m0 m1 m2 m3 m5 "ValueError.__new__"))
    (sa : PySem.W.findIn K (.ref C) "__setattr__" = some (some (.builtin "object.__setattr__")))
    (ga : PySem.W.findIn K (.ref C) "__getattribute__" = some (some (.builtin "BaseException.__getattribute__")))
    (gg : PySem.W.findIn K (.ref C) "__getattr__" = some none)
    (gc : PySem.W.findIn K (.ref C) "__class__" = some (some (.builtin "object.__class__")))
    (kC : PySem.W.keepIn K (.ref C) = true)
    (tC : PySem.W.typeIn K (.ref C) = some (.type "type"))
    (iC : PySem.W.findIn K (.ref C) "__init__" = some (some (.ref g)))
    (tg : PySem.W.typeIn K (.ref g) = some (.type "function"))
    (l : K.lookup g = some ⟨oc, od, .func (PySem.W.fnOf "__init__" "NotNeighbors.__init__" (EX.iA_none ⟨92, 17, 92, 21⟩) (EX.iB_none ⟨93, 8, 93, 12⟩) EX.iS_none .none kV dc pm an cd ct), sl⟩)
    (c : PySem.W.codeIn K cd "NotNeighbors.__init__" = true) : Cl K mg "NotNeighbors" [] := by
  have hno : ∀ f ∈ ([] : List Str), PySem.W.findIn K (.ref C) f = some none := fun f hf => (List.not_mem_nil hf).elim

  have T : EX.ExK K B "NotNeighbors" C [] := ⟨a, b, ⟨_, _, _, _, _, _, _, _, _, _, _, _, _, x⟩, sa, ga, gg, gc, hno, kC, tC⟩
  exact ⟨B, C, g, T, ⟨iC, tg, EX.ini_none (qn := "NotNeighbors.__init__") ⟨_, _, _, _, _, _, _, _, _, _, _, l, c⟩ T.y⟩, PySem.W.mg_of X G a⟩
theorem mk_BadOrder {K : PySem.W.Frag} {h : Heap} {mg : Str → Option Value} (X : K.In h) (G : h.Ns mainGlobals mg) {B C N g : Addr} {qn : Str} {bs : List Value} {sn : List Str} {sub : List Value} {ab : Bool} {col : Option Bool} {dd od an : Option Addr} {m0 m1 m2 m3 m5 : Option Value} {oc kV dc pm cd ct : Value} {sl : Array (Option Value)}
    (a : PySem.W.nsIn K mainGlobals "BadOrder" = some (some (.ref C)))
    (b : PySem.W.nsIn K mainGlobals "BookError" = some (some (.ref B)))
    (x : K.lookup C = some (excClassObj "BadOrder" qn C N bs (.ref B :: [.type "ValueError", .type "Exception", .type "BaseException", .type "object"]) true sn sub ab col dd m0 m1 m2 m3 m5 "ValueError.__new__"))
    (sa : PySem.W.findIn K (.ref C) "__setattr__" = some (some (.builtin "object.__setattr__")))
    (ga : PySem.W.findIn K (.ref C) "__getattribute__" = some (some (.builtin "BaseException.__getattribute__")))
    (gg : PySem.W.findIn K (.ref C) "__getattr__" = some none)
    (gc : PySem.W.findIn K (.ref C) "__class__" = some (some (.builtin "object.__class__")))
    (n0 : PySem.W.findIn K (.ref C) "number" = some none)
    (kC : PySem.W.keepIn K (.ref C) = true)
    (tC : PySem.W.typeIn K (.ref C) = some (.type "type"))
    (iC : PySem.W.findIn K (.ref C) "__init__" = some (some (.ref g)))
    (tg : PySem.W.typeIn K (.ref g) = some (.type "function"))
    (l : K.lookup g = some ⟨oc, od, .func (PySem.W.fnOf "__init__" "BadOrder.__init__" (EX.iA_number ⟨96, 17, 96, 21⟩ ⟨96, 23, 96, 29⟩) (EX.iB_number ⟨97, 8, 97, 12⟩ ⟨97, 8, 97, 19⟩ ⟨97, 22, 97, 28⟩ ⟨97, 8, 97, 28⟩) EX.iS_number .none kV dc pm an cd ct), sl⟩)
    (c : PySem.W.codeIn K cd "BadOrder.__init__" = true) : Cl K mg "BadOrder" ["number"] := by
  have hno : ∀ f ∈ (["number"] : List Str), PySem.W.findIn K (.ref C) f = some none := fun f hf => by
    simp only [List.mem_cons, List.not_mem_nil, or_false] at hf
    rcases hf with rfl
    · exact n0

  have T : EX.ExK K B "BadOrder" C ["number"] := ⟨a, b, ⟨_, _, _, _, _, _, _, _, _, _, _, _, _, x⟩, sa, ga, gg, gc, hno, kC, tC⟩
  exact ⟨B, C, g, T, ⟨iC, tg, EX.ini_number (qn := "BadOrder.__init__") ⟨_, _, _, _, _, _, _, _, _, _, _, _, _, _, _, l, c⟩ T.y⟩, PySem.W.mg_of X G a⟩
theorem mk_BadNames {K : PySem.W.Frag} {h : Heap} {mg : Str → Option Value} (X : K.In h) (G : h.Ns mainGlobals mg) {B C N g : Addr} {qn : Str} {bs : List Value} {sn : List Str} {sub : List Value} {ab : Bool} {col : Option Bool} {dd od an : Option Addr} {m0 m1 m2 m3 m5 : Option Value} {oc kV dc pm cd ct : Value} {sl : Array (Option Value)}
    (a : PySem.W.nsIn K mainGlobals "BadNames" = some (some (.ref C)))
    (b : PySem.W.nsIn K mainGlobals "BookError" = some (some (.ref B)))
    (x : K.lookup C = some (excClassObj "BadNames" qn C N bs (.ref B :: [.type "ValueError", .type "Exception", .type "BaseException", .type "object"]) true sn sub ab col dd m0 m1 m2 m3 m5 "ValueError.__new__"))
    (sa : PySem.W.findIn K (.ref C) "__setattr__" = some (some (.builtin "object.__setattr__")))
    (ga : PySem.W.findIn K (.ref C) "__getattribute__" = some (some (.builtin "BaseException.__getattribute__")))
    (gg : PySem.W.findIn K (.ref C) "__getattr__" = some none)
    (gc : PySem.W.findIn K (.ref C) "__class__" = some (some (.builtin "object.__class__")))
    (n0 : PySem.W.findIn K (.ref C) "number" = some none)
    (kC : PySem.W.keepIn K (.ref C) = true)
    (tC : PySem.W.typeIn K (.ref C) = some (.type "type"))
    (iC : PySem.W.findIn K (.ref C) "__init__" = some (some (.ref g)))
    (tg : PySem.W.typeIn K (.ref g) = some (.type "function"))
    (l : K.lookup g = some ⟨oc, od, .func (PySem.W.fnOf "__init__" "BadNames.__init__" (EX.iA_number ⟨100, 17, 100, 21⟩ ⟨100, 23, 100, 29⟩) (EX.iB_number ⟨101, 8, 101, 12⟩ ⟨101, 8, 101, 19⟩ ⟨101, 22, 101, 28⟩ ⟨101, 8, 101, 28⟩) EX.iS_number .none kV dc pm an cd ct), sl⟩)
    (c : PySem.W.codeIn K cd "BadNames.__init__" = true) : Cl K mg "BadNames" ["number"] := by
  have hno : ∀ f ∈ (["number"] : List Str), PySem.W.findIn K (.ref C) f = some none := fun f hf => by
    simp only [List.mem_cons, List.not_mem_nil, or_false] at hf
    rcases hf with rfl
    · exact n0

  have T : EX.ExK K B "BadNames" C ["number"] := ⟨a, b, ⟨_, _, _, _, _, _, _, _, _, _, _, _, _, x⟩, sa, ga, gg, gc, hno, kC, tC⟩
  exact ⟨B, C, g, T, ⟨iC, tg, EX.ini_number (qn := "BadNames.__init__") ⟨_, _, _, _, _, _, _, _, _, _, _, _, _, _, _, l, c⟩ T.y⟩, PySem.W.mg_of X G a⟩
theorem mk_NoMain {K : PySem.W.Frag} {h : Heap} {mg : Str → Option Value} (X : K.In h) (G : h.Ns mainGlobals mg) {B C N g : Addr} {qn : Str} {bs : List Value} {sn : List Str} {sub : List Value} {ab : Bool} {col : Option Bool} {dd od an : Option Addr} {m0 m1 m2 m3 m5 : Option Value} {oc kV dc pm cd ct : Value} {sl : Array (Option Value)}
    (a : PySem.W.nsIn K mainGlobals "NoMain" = some (some (.ref C)))
    (b : PySem.W.nsIn K mainGlobals "BookError" = some (some (.ref B)))
    (x : K.lookup C = some (excClassObj "NoMain" qn C N bs (.ref B :: [.type "ValueError", .type "Exception", .type "BaseException", .type "object"]) true sn sub ab col dd m0 m1 m2 m3 m5 "ValueError.__new__"))
    (sa : PySem.W.findIn K (.ref C) "__setattr__" = some (some (.builtin "object.__setattr__")))
    (ga : PySem.W.findIn K (.ref C) "__getattribute__" = some (some (.builtin "BaseException.__getattribute__")))
    (gg : PySem.W.findIn K (.ref C) "__getattr__" = some none)
    (gc : PySem.W.findIn K (.ref C) "__class__" = some (some (.builtin "object.__class__")))
    (kC : PySem.W.keepIn K (.ref C) = true)
    (tC : PySem.W.typeIn K (.ref C) = some (.type "type"))
    (iC : PySem.W.findIn K (.ref C) "__init__" = some (some (.ref g)))
    (tg : PySem.W.typeIn K (.ref g) = some (.type "function"))
    (l : K.lookup g = some ⟨oc, od, .func (PySem.W.fnOf "__init__" "NoMain.__init__" (EX.iA_none ⟨104, 17, 104, 21⟩) (EX.iB_none ⟨105, 8, 105, 12⟩) EX.iS_none .none kV dc pm an cd ct), sl⟩)
    (c : PySem.W.codeIn K cd "NoMain.__init__" = true) : Cl K mg "NoMain" [] := by
  have hno : ∀ f ∈ ([] : List Str), PySem.W.findIn K (.ref C) f = some none := fun f hf => (List.not_mem_nil hf).elim

  have T : EX.ExK K B "NoMain" C [] := ⟨a, b, ⟨_, _, _, _, _, _, _, _, _, _, _, _, _, x⟩, sa, ga, gg, gc, hno, kC, tC⟩
  exact ⟨B, C, g, T, ⟨iC, tg, EX.ini_none (qn := "NoMain.__init__") ⟨_, _, _, _, _, _, _, _, _, _, _, l, c⟩ T.y⟩, PySem.W.mg_of X G a⟩
theorem mk_TooMany {K : PySem.W.Frag} {h : Heap} {mg : Str → Option Value} (X : K.In h) (G : h.Ns mainGlobals mg) {B C N g : Addr} {qn : Str} {bs : List Value} {sn : List Str} {sub : List Value} {ab : Bool} {col : Option Bool} {dd od an : Option Addr} {m0 m1 m2 m3 m5 : Option Value} {oc kV dc pm cd ct : Value} {sl : Array (Option Value)}
    (a : PySem.W.nsIn K mainGlobals "TooMany" = some (some (.ref C)))
    (b : PySem.W.nsIn K mainGlobals "BookError" = some (some (.ref B)))
    (x : K.lookup C = some (excClassObj "TooMany" qn C N bs (.ref B :: [.type "ValueError", .type "Exception", .type "BaseException", .type "object"]) true sn sub ab col dd m0 m1 m2 m3 m5 "ValueError.__new__"))
    (sa : PySem.W.findIn K (.ref C) "__setattr__" = some (some (.builtin "object.__setattr__")))
    (ga : PySem.W.findIn K (.ref C) "__getattribute__" = some (some (.builtin "BaseException.__getattribute__")))
    (gg : PySem.W.findIn K (.ref C) "__getattr__" = some none)
    (gc : PySem.W.findIn K (.ref C) "__class__" = some (some (.builtin "object.__class__")))
    (n0 : PySem.W.findIn K (.ref C) "part" = some none)
    (kC : PySem.W.keepIn K (.ref C) = true)
    (tC : PySem.W.typeIn K (.ref C) = some (.type "type"))
    (iC : PySem.W.findIn K (.ref C) "__init__" = some (some (.ref g)))
    (tg : PySem.W.typeIn K (.ref g) = some (.type "function"))
    (l : K.lookup g = some ⟨oc, od, .func (PySem.W.fnOf "__init__" "TooMany.__init__" (EX.iA_part ⟨108, 17, 108, 21⟩ ⟨108, 23, 108, 27⟩) (EX.iB_part ⟨109, 8, 109, 12⟩ ⟨109, 8, 109, 17⟩ ⟨109, 20, 109, 24⟩ ⟨109, 8, 109, 24⟩) EX.iS_part .none kV dc pm an cd ct), sl⟩)
    (c : PySem.W.codeIn K cd "TooMany.__init__" = true) : Cl K mg "TooMany" ["part"] := by
  have hno : ∀ f ∈ (["part"] : List Str), PySem.W.findIn K (.ref C) f = some none := fun f hf => by
    simp only [List.mem_cons, List.not_mem_nil, or_false] at hf
    rcases hf with rfl
    · exact n0

  have T : EX.ExK K B "TooMany" C ["part"] := ⟨a, b, ⟨_, _, _, _, _, _, _, _, _, _, _, _, _, x⟩, sa, ga, gg, gc, hno, kC, tC⟩
  exact ⟨B, C, g, T, ⟨iC, tg, EX.ini_part (qn := "TooMany.__init__") ⟨_, _, _, _, _, _, _, _, _, _, _, _, _, _, _, l, c⟩ T.y⟩, PySem.W.mg_of X G a⟩
theorem mk_Unsound {K : PySem.W.Frag} {h : Heap} {mg : Str → Option Value} (X : K.In h) (G : h.Ns mainGlobals mg) {B C N g : Addr} {qn : Str} {bs : List Value} {sn : List Str} {sub : List Value} {ab : Bool} {col : Option Bool} {dd od an : Option Addr} {m0 m1 m2 m3 m5 : Option Value} {oc kV dc pm cd ct : Value} {sl : Array (Option Value)}
    (a : PySem.W.nsIn K mainGlobals "Unsound" = some (some (.ref C)))
    (b : PySem.W.nsIn K mainGlobals "BookError" = some (some (.ref B)))
    (x : K.lookup C = some (excClassObj "Unsound" qn C N bs (.ref B :: [.type "ValueError", .type "Exception", .type "BaseException", .type "object"]) true sn sub ab col dd m0 m1 m2 m3 m5 "ValueError.__new__"))
    (sa : PySem.W.findIn K (.ref C) "__setattr__" = some (some (.builtin "object.__setattr__")))
    (ga : PySem.W.findIn K (.ref C) "__getattribute__" = some (some (.builtin "BaseException.__getattribute__")))
    (gg : PySem.W.findIn K (.ref C) "__getattr__" = some none)
    (gc : PySem.W.findIn K (.ref C) "__class__" = some (some (.builtin "object.__class__")))
    (n0 : PySem.W.findIn K (.ref C) "word" = some none)
    (n1 : PySem.W.findIn K (.ref C) "path" = some none)
    (kC : PySem.W.keepIn K (.ref C) = true)
    (tC : PySem.W.typeIn K (.ref C) = some (.type "type"))
    (iC : PySem.W.findIn K (.ref C) "__init__" = some (some (.ref g)))
    (tg : PySem.W.typeIn K (.ref g) = some (.type "function"))
    (l : K.lookup g = some ⟨oc, od, .func (PySem.W.fnOf "__init__" "Unsound.__init__" (EX.iA_word_path ⟨112, 17, 112, 21⟩ ⟨112, 23, 112, 27⟩ ⟨112, 29, 112, 33⟩) (EX.iB_word_path ⟨113, 8, 113, 12⟩ ⟨113, 8, 113, 17⟩ ⟨113, 20, 113, 24⟩ ⟨113, 8, 113, 24⟩ ⟨114, 8, 114, 12⟩ ⟨114, 8, 114, 17⟩ ⟨114, 20, 114, 24⟩ ⟨114, 8, 114, 24⟩) EX.iS_word_path .none kV dc pm an cd ct), sl⟩)
    (c : PySem.W.codeIn K cd "Unsound.__init__" = true) : Cl K mg "Unsound" ["word", "path"] := by
  have hno : ∀ f ∈ (["word", "path"] : List Str), PySem.W.findIn K (.ref C) f = some none := fun f hf => by
    simp only [List.mem_cons, List.not_mem_nil, or_false] at hf
    rcases hf with rfl | rfl
    · exact n0
    · exact n1

  have T : EX.ExK K B "Unsound" C ["word", "path"] := ⟨a, b, ⟨_, _, _, _, _, _, _, _, _, _, _, _, _, x⟩, sa, ga, gg, gc, hno, kC, tC⟩
  exact ⟨B, C, g, T, ⟨iC, tg, EX.ini_word_path (qn := "Unsound.__init__") ⟨_, _, _, _, _, _, _, _, _, _, _, _, _, _, _, _, _, _, _, _, l, c⟩ T.y⟩, PySem.W.mg_of X G a⟩
theorem mk_Busy {K : PySem.W.Frag} {h : Heap} {mg : Str → Option Value} (X : K.In h) (G : h.Ns mainGlobals mg) {B C N g : Addr} {qn : Str} {bs : List Value} {sn : List Str} {sub : List Value} {ab : Bool} {col : Option Bool} {dd od an : Option Addr} {m0 m1 m2 m3 m5 : Option Value} {oc kV dc pm cd ct : Value} {sl : Array (Option Value)}
    (a : PySem.W.nsIn K mainGlobals "Busy" = some (some (.ref C)))
    (b : PySem.W.nsIn K mainGlobals "BookError" = some (some (.ref B)))
    (x : K.lookup C = some (excClassObj "Busy" qn C N bs (.ref B :: [.type "ValueError", .type "Exception", .type "BaseException", .type "object"]) true sn sub ab col dd m0 m1 m2 m3 m5 "ValueError.__new__"))
    (sa : PySem.W.findIn K (.ref C) "__setattr__" = some (some (.builtin "object.__setattr__")))
    (ga : PySem.W.findIn K (.ref C) "__getattribute__" = some (some (.builtin "BaseException.__getattribute__")))
    (gg : PySem.W.findIn K (.ref C) "__getattr__" = some none)
    (gc : PySem.W.findIn K (.ref C) "__class__" = some (some (.builtin "object.__class__")))
    (kC : PySem.W.keepIn K (.ref C) = true)
    (tC : PySem.W.typeIn K (.ref C) = some (.type "type"))
    (iC : PySem.W.findIn K (.ref C) "__init__" = some (some (.ref g)))
    (tg : PySem.W.typeIn K (.ref g) = some (.type "function"))
    (l : K.lookup g = some ⟨oc, od, .func (PySem.W.fnOf "__init__" "Busy.__init__" (EX.iA_none ⟨117, 17, 117, 21⟩) (EX.iB_none ⟨118, 8, 118, 12⟩) EX.iS_none .none kV dc pm an cd ct), sl⟩)
    (c : PySem.W.codeIn K cd "Busy.__init__" = true) : Cl K mg "Busy" [] := by
  have hno : ∀ f ∈ ([] : List Str), PySem.W.findIn K (.ref C) f = some none := fun f hf => (List.not_mem_nil hf).elim

  have T : EX.ExK K B "Busy" C [] := ⟨a, b, ⟨_, _, _, _, _, _, _, _, _, _, _, _, _, x⟩, sa, ga, gg, gc, hno, kC, tC⟩
  exact ⟨B, C, g, T, ⟨iC, tg, EX.ini_none (qn := "Busy.__init__") ⟨_, _, _, _, _, _, _, _, _, _, _, l, c⟩ T.y⟩, PySem.W.mg_of X G a⟩
theorem mk_NoMark {K : PySem.W.Frag} {h : Heap} {mg : Str → Option Value} (X : K.In h) (G : h.Ns mainGlobals mg) {B C N g : Addr} {qn : Str} {bs : List Value} {sn : List Str} {sub : List Value} {ab : Bool} {col : Option Bool} {dd od an : Option Addr} {m0 m1 m2 m3 m5 : Option Value} {oc kV dc pm cd ct : Value} {sl : Array (Option Value)}
    (a : PySem.W.nsIn K mainGlobals "NoMark" = some (some (.ref C)))
    (b : PySem.W.nsIn K mainGlobals "BookError" = some (some (.ref B)))
    (x : K.lookup C = some (excClassObj "NoMark" qn C N bs (.ref B :: [.type "ValueError", .type "Exception", .type "BaseException", .type "object"]) true sn sub ab col dd m0 m1 m2 m3 m5 "ValueError.__new__"))
    (sa : PySem.W.findIn K (.ref C) "__setattr__" = some (some (.builtin "object.__setattr__")))
    (ga : PySem.W.findIn K (.ref C) "__getattribute__" = some (some (.builtin "BaseException.__getattribute__")))
    (gg : PySem.W.findIn K (.ref C) "__getattr__" = some none)
    (gc : PySem.W.findIn K (.ref C) "__class__" = some (some (.builtin "object.__class__")))
    (n0 : PySem.W.findIn K (.ref C) "name" = some none)
    (kC : PySem.W.keepIn K (.ref C) = true)
    (tC : PySem.W.typeIn K (.ref C) = some (.type "type"))
    (iC : PySem.W.findIn K (.ref C) "__init__" = some (some (.ref g)))
    (tg : PySem.W.typeIn K (.ref g) = some (.type "function"))
    (l : K.lookup g = some ⟨oc, od, .func (PySem.W.fnOf "__init__" "NoMark.__init__" (EX.iA_name ⟨121, 17, 121, 21⟩ ⟨121, 23, 121, 27⟩) (EX.iB_name ⟨122, 8, 122, 12⟩ ⟨122, 8, 122, 17⟩ ⟨122, 20, 122, 24⟩ ⟨122, 8, 122, 24⟩) EX.iS_name .none kV dc pm an cd ct), sl⟩)
    (c : PySem.W.codeIn K cd "NoMark.__init__" = true) : Cl K mg "NoMark" ["name"] := by
  have hno : ∀ f ∈ (["name"] : List Str), PySem.W.findIn K (.ref C) f = some none := fun f hf => by
    simp only [List.mem_cons, List.not_mem_nil, or_false] at hf
    rcases hf with rfl
    · exact n0

  have T : EX.ExK K B "NoMark" C ["name"] := ⟨a, b, ⟨_, _, _, _, _, _, _, _, _, _, _, _, _, x⟩, sa, ga, gg, gc, hno, kC, tC⟩
  exact ⟨B, C, g, T, ⟨iC, tg, EX.ini_name (qn := "NoMark.__init__") ⟨_, _, _, _, _, _, _, _, _, _, _, _, _, _, _, l, c⟩ T.y⟩, PySem.W.mg_of X G a⟩
theorem mk_BadOctets {K : PySem.W.Frag} {h : Heap} {mg : Str → Option Value} (X : K.In h) (G : h.Ns mainGlobals mg) {B C N g : Addr} {qn : Str} {bs : List Value} {sn : List Str} {sub : List Value} {ab : Bool} {col : Option Bool} {dd od an : Option Addr} {m0 m1 m2 m3 m5 : Option Value} {oc kV dc pm cd ct : Value} {sl : Array (Option Value)}
    (a : PySem.W.nsIn K mainGlobals "BadOctets" = some (some (.ref C)))
    (b : PySem.W.nsIn K mainGlobals "BookError" = some (some (.ref B)))
    (x : K.lookup C = some (excClassObj "BadOctets" qn C N bs (.ref B :: [.type "ValueError", .type "Exception", .type "BaseException", .type "object"]) true sn sub ab col dd m0 m1 m2 m3 m5 "ValueError.__new__"))
    (sa : PySem.W.findIn K (.ref C) "__setattr__" = some (some (.builtin "object.__setattr__")))
    (ga : PySem.W.findIn K (.ref C) "__getattribute__" = some (some (.builtin "BaseException.__getattribute__")))
    (gg : PySem.W.findIn K (.ref C) "__getattr__" = some none)
    (gc : PySem.W.findIn K (.ref C) "__class__" = some (some (.builtin "object.__class__")))
    (n0 : PySem.W.findIn K (.ref C) "index" = some none)
    (kC : PySem.W.keepIn K (.ref C) = true)
    (tC : PySem.W.typeIn K (.ref C) = some (.type "type"))
    (iC : PySem.W.findIn K (.ref C) "__init__" = some (some (.ref g)))
    (tg : PySem.W.typeIn K (.ref g) = some (.type "function"))
    (l : K.lookup g = some ⟨oc, od, .func (PySem.W.fnOf "__init__" "BadOctets.__init__" (EX.iA_index ⟨125, 17, 125, 21⟩ ⟨125, 23, 125, 28⟩) (EX.iB_index ⟨126, 8, 126, 12⟩ ⟨126, 8, 126, 18⟩ ⟨126, 21, 126, 26⟩ ⟨126, 8, 126, 26⟩) EX.iS_index .none kV dc pm an cd ct), sl⟩)
    (c : PySem.W.codeIn K cd "BadOctets.__init__" = true) : Cl K mg "BadOctets" ["index"] := by
  have hno : ∀ f ∈ (["index"] : List Str), PySem.W.findIn K (.ref C) f = some none := fun f hf => by
    simp only [List.mem_cons, List.not_mem_nil, or_false] at hf
    rcases hf with rfl
    · exact n0

  have T : EX.ExK K B "BadOctets" C ["index"] := ⟨a, b, ⟨_, _, _, _, _, _, _, _, _, _, _, _, _, x⟩, sa, ga, gg, gc, hno, kC, tC⟩
  exact ⟨B, C, g, T, ⟨iC, tg, EX.ini_index (qn := "BadOctets.__init__") ⟨_, _, _, _, _, _, _, _, _, _, _, _, _, _, _, l, c⟩ T.y⟩, PySem.W.mg_of X G a⟩
theorem mk_BadEntry {K : PySem.W.Frag} {h : Heap} {mg : Str → Option Value} (X : K.In h) (G : h.Ns mainGlobals mg) {B C N g : Addr} {qn : Str} {bs : List Value} {sn : List Str} {sub : List Value} {ab : Bool} {col : Option Bool} {dd od an : Option Addr} {m0 m1 m2 m3 m5 : Option Value} {oc kV dc pm cd ct : Value} {sl : Array (Option Value)}
    (a : PySem.W.nsIn K mainGlobals "BadEntry" = some (some (.ref C)))
    (b : PySem.W.nsIn K mainGlobals "BookError" = some (some (.ref B)))
    (x : K.lookup C = some (excClassObj "BadEntry" qn C N bs (.ref B :: [.type "ValueError", .type "Exception", .type "BaseException", .type "object"]) true sn sub ab col dd m0 m1 m2 m3 m5 "ValueError.__new__"))
    (sa : PySem.W.findIn K (.ref C) "__setattr__" = some (some (.builtin "object.__setattr__")))
    (ga : PySem.W.findIn K (.ref C) "__getattribute__" = some (some (.builtin "BaseException.__getattribute__")))
    (gg : PySem.W.findIn K (.ref C) "__getattr__" = some none)
    (gc : PySem.W.findIn K (.ref C) "__class__" = some (some (.builtin "object.__class__")))
    (n0 : PySem.W.findIn K (.ref C) "number" = some none)
    (kC : PySem.W.keepIn K (.ref C) = true)
    (tC : PySem.W.typeIn K (.ref C) = some (.type "type"))
    (iC : PySem.W.findIn K (.ref C) "__init__" = some (some (.ref g)))
    (tg : PySem.W.typeIn K (.ref g) = some (.type "function"))
    (l : K.lookup g = some ⟨oc, od, .func (PySem.W.fnOf "__init__" "BadEntry.__init__" (EX.iA_number ⟨129, 17, 129, 21⟩ ⟨129, 23, 129, 29⟩) (EX.iB_number ⟨130, 8, 130, 12⟩ ⟨130, 8, 130, 19⟩ ⟨130, 22, 130, 28⟩ ⟨130, 8, 130, 28⟩) EX.iS_number .none kV dc pm an cd ct), sl⟩)
    (c : PySem.W.codeIn K cd "BadEntry.__init__" = true) : Cl K mg "BadEntry" ["number"] := by
  have hno : ∀ f ∈ (["number"] : List Str), PySem.W.findIn K (.ref C) f = some none := fun f hf => by
    simp only [List.mem_cons, List.not_mem_nil, or_false] at hf
    rcases hf with rfl
    · exact n0

  have T : EX.ExK K B "BadEntry" C ["number"] := ⟨a, b, ⟨_, _, _, _, _, _, _, _, _, _, _, _, _, x⟩, sa, ga, gg, gc, hno, kC, tC⟩
  exact ⟨B, C, g, T, ⟨iC, tg, EX.ini_number (qn := "BadEntry.__init__") ⟨_, _, _, _, _, _, _, _, _, _, _, _, _, _, _, l, c⟩ T.y⟩, PySem.W.mg_of X G a⟩
theorem mk_BadArchive {K : PySem.W.Frag} {h : Heap} {mg : Str → Option Value} (X : K.In h) (G : h.Ns mainGlobals mg) {B C N g : Addr} {qn : Str} {bs : List Value} {sn : List Str} {sub : List Value} {ab : Bool} {col : Option Bool} {dd od an : Option Addr} {m0 m1 m2 m3 m5 : Option Value} {oc kV dc pm cd ct : Value} {sl : Array (Option Value)}
    (a : PySem.W.nsIn K mainGlobals "BadArchive" = some (some (.ref C)))
    (b : PySem.W.nsIn K mainGlobals "BookError" = some (some (.ref B)))
    (x : K.lookup C = some (excClassObj "BadArchive" qn C N bs (.ref B :: [.type "ValueError", .type "Exception", .type "BaseException", .type "object"]) true sn sub ab col dd m0 m1 m2 m3 m5 "ValueError.__new__"))
    (sa : PySem.W.findIn K (.ref C) "__setattr__" = some (some (.builtin "object.__setattr__")))
    (ga : PySem.W.findIn K (.ref C) "__getattribute__" = some (some (.builtin "BaseException.__getattribute__")))
    (gg : PySem.W.findIn K (.ref C) "__getattr__" = some none)
    (gc : PySem.W.findIn K (.ref C) "__class__" = some (some (.builtin "object.__class__")))
    (n0 : PySem.W.findIn K (.ref C) "word" = some none)
    (n1 : PySem.W.findIn K (.ref C) "offset" = some none)
    (kC : PySem.W.keepIn K (.ref C) = true)
    (tC : PySem.W.typeIn K (.ref C) = some (.type "type"))
    (iC : PySem.W.findIn K (.ref C) "__init__" = some (some (.ref g)))
    (tg : PySem.W.typeIn K (.ref g) = some (.type "function"))
    (l : K.lookup g = some ⟨oc, od, .func (PySem.W.fnOf "__init__" "BadArchive.__init__" (EX.iA_word_offset ⟨133, 17, 133, 21⟩ ⟨133, 23, 133, 27⟩ ⟨133, 29, 133, 35⟩) (EX.iB_word_offset ⟨134, 8, 134, 12⟩ ⟨134, 8, 134, 17⟩ ⟨134, 20, 134, 24⟩ ⟨134, 8, 134, 24⟩ ⟨135, 8, 135, 12⟩ ⟨135, 8, 135, 19⟩ ⟨135, 22, 135, 28⟩ ⟨135, 8, 135, 28⟩) EX.iS_word_offset .none kV dc pm an cd ct), sl⟩)
    (c : PySem.W.codeIn K cd "BadArchive.__init__" = true) : Cl K mg "BadArchive" ["word", "offset"] := by
  have hno : ∀ f ∈ (["word", "offset"] : List Str), PySem.W.findIn K (.ref C) f = some none := fun f hf => by
    simp only [List.mem_cons, List.not_mem_nil, or_false] at hf
    rcases hf with rfl | rfl
    · exact n0
    · exact n1

  have T : EX.ExK K B "BadArchive" C ["word", "offset"] := ⟨a, b, ⟨_, _, _, _, _, _, _, _, _, _, _, _, _, x⟩, sa, ga, gg, gc, hno, kC, tC⟩
  exact ⟨B, C, g, T, ⟨iC, tg, EX.ini_word_offset (qn := "BadArchive.__init__") ⟨_, _, _, _, _, _, _, _, _, _, _, _, _, _, _, _, _, _, _, _, l, c⟩ T.y⟩, PySem.W.mg_of X G a⟩
theorem mk_Refused {K : PySem.W.Frag} {h : Heap} {mg : Str → Option Value} (X : K.In h) (G : h.Ns mainGlobals mg) {B C N g : Addr} {qn : Str} {bs : List Value} {sn : List Str} {sub : List Value} {ab : Bool} {col : Option Bool} {dd od an : Option Addr} {m0 m1 m2 m3 m5 : Option Value} {oc kV dc pm cd ct : Value} {sl : Array (Option Value)}
    (a : PySem.W.nsIn K mainGlobals "Refused" = some (some (.ref C)))
    (b : PySem.W.nsIn K mainGlobals "BookError" = some (some (.ref B)))
    (x : K.lookup C = some (excClassObj "Refused" qn C N bs (.ref B :: [.type "ValueError", .type "Exception", .type "BaseException", .type "object"]) true sn sub ab col dd m0 m1 m2 m3 m5 "ValueError.__new__"))
    (sa : PySem.W.findIn K (.ref C) "__setattr__" = some (some (.builtin "object.__setattr__")))
    (ga : PySem.W.findIn K (.ref C) "__getattribute__" = some (some (.builtin "BaseException.__getattribute__")))
    (gg : PySem.W.findIn K (.ref C) "__getattr__" = some none)
    (gc : PySem.W.findIn K (.ref C) "__class__" = some (some (.builtin "object.__class__")))
    (n0 : PySem.W.findIn K (.ref C) "word" = some none)
    (n1 : PySem.W.findIn K (.ref C) "path" = some none)
    (kC : PySem.W.keepIn K (.ref C) = true)
    (tC : PySem.W.typeIn K (.ref C) = some (.type "type"))
    (iC : PySem.W.findIn K (.ref C) "__init__" = some (some (.ref g)))
    (tg : PySem.W.typeIn K (.ref g) = some (.type "function"))
    (l : K.lookup g = some ⟨oc, od, .func (PySem.W.fnOf "__init__" "Refused.__init__" (EX.iA_word_path ⟨138, 17, 138, 21⟩ ⟨138, 23, 138, 27⟩ ⟨138, 29, 138, 33⟩) (EX.iB_word_path ⟨139, 8, 139, 12⟩ ⟨139, 8, 139, 17⟩ ⟨139, 20, 139, 24⟩ ⟨139, 8, 139, 24⟩ ⟨140, 8, 140, 12⟩ ⟨140, 8, 140, 17⟩ ⟨140, 20, 140, 24⟩ ⟨140, 8, 140, 24⟩) EX.iS_word_path .none kV dc pm an cd ct), sl⟩)
    (c : PySem.W.codeIn K cd "Refused.__init__" = true) : Cl K mg "Refused" ["word", "path"] := by
  have hno : ∀ f ∈ (["word", "path"] : List Str), PySem.W.findIn K (.ref C) f = some none := fun f hf => by
    simp only [List.mem_cons, List.not_mem_nil, or_false] at hf
    rcases hf with rfl | rfl
    · exact n0
    · exact n1

  have T : EX.ExK K B "Refused" C ["word", "path"] := ⟨a, b, ⟨_, _, _, _, _, _, _, _, _, _, _, _, _, x⟩, sa, ga, gg, gc, hno, kC, tC⟩
  exact ⟨B, C, g, T, ⟨iC, tg, EX.ini_word_path (qn := "Refused.__init__") ⟨_, _, _, _, _, _, _, _, _, _, _, _, _, _, _, _, _, _, _, _, l, c⟩ T.y⟩, PySem.W.mg_of X G a⟩
theorem mk_Unrecoverable {K : PySem.W.Frag} {h : Heap} {mg : Str → Option Value} (X : K.In h) (G : h.Ns mainGlobals mg) {B C N g : Addr} {qn : Str} {bs : List Value} {sn : List Str} {sub : List Value} {ab : Bool} {col : Option Bool} {dd od an : Option Addr} {m0 m1 m2 m3 m5 : Option Value} {oc kV dc pm cd ct : Value} {sl : Array (Option Value)}
    (a : PySem.W.nsIn K mainGlobals "Unrecoverable" = some (some (.ref C)))
    (b : PySem.W.nsIn K mainGlobals "BookError" = some (some (.ref B)))
    (x : K.lookup C = some (excClassObj "Unrecoverable" qn C N bs (.ref B :: [.type "ValueError", .type "Exception", .type "BaseException", .type "object"]) true sn sub ab col dd m0 m1 m2 m3 m5 "ValueError.__new__"))
    (sa : PySem.W.findIn K (.ref C) "__setattr__" = some (some (.builtin "object.__setattr__")))
    (ga : PySem.W.findIn K (.ref C) "__getattribute__" = some (some (.builtin "BaseException.__getattribute__")))
    (gg : PySem.W.findIn K (.ref C) "__getattr__" = some none)
    (gc : PySem.W.findIn K (.ref C) "__class__" = some (some (.builtin "object.__class__")))
    (n0 : PySem.W.findIn K (.ref C) "word" = some none)
    (kC : PySem.W.keepIn K (.ref C) = true)
    (tC : PySem.W.typeIn K (.ref C) = some (.type "type"))
    (iC : PySem.W.findIn K (.ref C) "__init__" = some (some (.ref g)))
    (tg : PySem.W.typeIn K (.ref g) = some (.type "function"))
    (l : K.lookup g = some ⟨oc, od, .func (PySem.W.fnOf "__init__" "Unrecoverable.__init__" (EX.iA_word ⟨143, 17, 143, 21⟩ ⟨143, 23, 143, 27⟩) (EX.iB_word ⟨144, 8, 144, 12⟩ ⟨144, 8, 144, 17⟩ ⟨144, 20, 144, 24⟩ ⟨144, 8, 144, 24⟩) EX.iS_word .none kV dc pm an cd ct), sl⟩)
    (c : PySem.W.codeIn K cd "Unrecoverable.__init__" = true) : Cl K mg "Unrecoverable" ["word"] := by
  have hno : ∀ f ∈ (["word"] : List Str), PySem.W.findIn K (.ref C) f = some none := fun f hf => by
    simp only [List.mem_cons, List.not_mem_nil, or_false] at hf
    rcases hf with rfl
    · exact n0

  have T : EX.ExK K B "Unrecoverable" C ["word"] := ⟨a, b, ⟨_, _, _, _, _, _, _, _, _, _, _, _, _, x⟩, sa, ga, gg, gc, hno, kC, tC⟩
  exact ⟨B, C, g, T, ⟨iC, tg, EX.ini_word (qn := "Unrecoverable.__init__") ⟨_, _, _, _, _, _, _, _, _, _, _, _, _, _, _, l, c⟩ T.y⟩, PySem.W.mg_of X G a⟩
theorem all_mk {l : PySem.W.OpenLaw} {w : World} {K : PySem.W.Frag} {h : Heap} {mg : Str → Option Value} {fa : Addr} {f1 f2 f3 f4 f5 f6 f7 f8 f9 f10 : Addr} {od1 an1 : Option Addr} {sl1 : Array (Option Value)} {oc1 kV1 dc1 pm1 cd1 ct1 : Value} {od2 an2 : Option Addr} {sl2 : Array (Option Value)} {oc2 kV2 dc2 pm2 cd2 ct2 : Value} {od3 an3 : Option Addr} {sl3 : Array (Option Value)} {oc3 kV3 dc3 pm3 cd3 ct3 : Value} {od4 an4 : Option Addr} {sl4 : Array (Option Value)} {oc4 kV4 dc4 pm4 cd4 ct4 : Value} {od5 an5 : Option Addr} {sl5 : Array (Option Value)} {oc5 kV5 dc5 pm5 cd5 ct5 : Value} {od6 an6 : Option Addr} {sl6 : Array (Option Value)} {oc6 kV6 dc6 pm6 cd6 ct6 : Value} {od7 an7 : Option Addr} {sl7 : Array (Option Value)} {oc7 kV7 dc7 pm7 cd7 ct7 : Value} {od8 an8 : Option Addr} {sl8 : Array (Option Value)} {oc8 kV8 dc8 pm8 cd8 ct8 : Value} {od9 an9 : Option Addr} {sl9 : Array (Option Value)} {oc9 kV9 dc9 pm9 cd9 ct9 : Value} {od10 an10 : Option Addr} {sl10 : Array (Option Value)} {oc10 kV10 dc10 pm10 cd10 ct10 : Value} (X : K.In h) (G : h.Ns mainGlobals mg) (hfa : mg "law" = some (.ref fa)) (bk : Bk K mg)
    (z_BadChapter : Cl K mg "BadChapter" ["index"])
    (z_BadToken : Cl K mg "BadToken" ["index"])
    (z_BadKind : Cl K mg "BadKind" ["kind"])
    (z_BadStyle : Cl K mg "BadStyle" ["word"])
    (z_BadLink : Cl K mg "BadLink" ["link"])
    (z_BadNumber : Cl K mg "BadNumber" ["name"])
    (z_BadSpot : Cl K mg "BadSpot" ["number"])
    (z_NoSpot : Cl K mg "NoSpot" ["depth"])
    (z_BadText : Cl K mg "BadText" ["row", "column"])
    (z_BadPatch : Cl K mg "BadPatch" ["part", "number"])
    (z_Misfit : Cl K mg "Misfit" ["index"])
    (z_Conflict : Cl K mg "Conflict" ["place"])
    (z_NoNode : Cl K mg "NoNode" ["gap"])
    (z_TooLong : Cl K mg "TooLong" ["number"])
    (z_BadBranch : Cl K mg "BadBranch" ["side", "number"])
    (z_Clash : Cl K mg "Clash" ["first", "second", "place"])
    (z_BadBook : Cl K mg "BadBook" ["part", "number"])
    (z_NoItem : Cl K mg "NoItem" ["key"])
    (z_NoChapter : Cl K mg "NoChapter" ["key"])
    (z_NotInSlots : Cl K mg "NotInSlots" ["key"])
    (z_NotNeighbors : Cl K mg "NotNeighbors" [])
    (z_BadOrder : Cl K mg "BadOrder" ["number"])
    (z_BadNames : Cl K mg "BadNames" ["number"])
    (z_NoMain : Cl K mg "NoMain" [])
    (z_TooMany : Cl K mg "TooMany" ["part"])
    (z_Unsound : Cl K mg "Unsound" ["word", "path"])
    (z_Busy : Cl K mg "Busy" [])
    (z_NoMark : Cl K mg "NoMark" ["name"])
    (z_BadOctets : Cl K mg "BadOctets" ["index"])
    (z_BadEntry : Cl K mg "BadEntry" ["number"])
    (z_BadArchive : Cl K mg "BadArchive" ["word", "offset"])
    (z_Refused : Cl K mg "Refused" ["word", "path"])
    (z_Unrecoverable : Cl K mg "Unrecoverable" ["word"])
    (a1 : PySem.W.nsIn K mainGlobals "_law_mixed" = some (some (.ref f1)))
    (l1 : K.lookup f1 = some ⟨oc1, od1, .func (PySem.W.fnOf "_law_mixed" "_law_mixed" (defArgs (top 37)) (defBody (top 37)) (defScope (top 37)) .none kV1 dc1 pm1 an1 cd1 ct1), sl1⟩)
    (c1 : PySem.W.codeIn K cd1 "_law_mixed" = true)
    (k1 : PySem.W.keepIn K (.ref f1) = true)
    (a2 : PySem.W.nsIn K mainGlobals "_law_next" = some (some (.ref f2)))
    (l2 : K.lookup f2 = some ⟨oc2, od2, .func (PySem.W.fnOf "_law_next" "_law_next" (defArgs (top 38)) (defBody (top 38)) (defScope (top 38)) .none kV2 dc2 pm2 an2 cd2 ct2), sl2⟩)
    (c2 : PySem.W.codeIn K cd2 "_law_next" = true)
    (k2 : PySem.W.keepIn K (.ref f2) = true)
    (a3 : PySem.W.nsIn K mainGlobals "_law_made" = some (some (.ref f3)))
    (l3 : K.lookup f3 = some ⟨oc3, od3, .func (PySem.W.fnOf "_law_made" "_law_made" (defArgs (top 39)) (defBody (top 39)) (defScope (top 39)) .none kV3 dc3 pm3 an3 cd3 ct3), sl3⟩)
    (c3 : PySem.W.codeIn K cd3 "_law_made" = true)
    (k3 : PySem.W.keepIn K (.ref f3) = true)
    (a4 : PySem.W.nsIn K mainGlobals "_law_kinds" = some (some (.ref f4)))
    (l4 : K.lookup f4 = some ⟨oc4, od4, .func (PySem.W.fnOf "_law_kinds" "_law_kinds" (defArgs (top 40)) (defBody (top 40)) (defScope (top 40)) .none kV4 dc4 pm4 an4 cd4 ct4), sl4⟩)
    (c4 : PySem.W.codeIn K cd4 "_law_kinds" = true)
    (k4 : PySem.W.keepIn K (.ref f4) = true)
    (a5 : PySem.W.nsIn K mainGlobals "_law_families_right" = some (some (.ref f5)))
    (l5 : K.lookup f5 = some ⟨oc5, od5, .func (PySem.W.fnOf "_law_families_right" "_law_families_right" (defArgs (top 41)) (defBody (top 41)) (defScope (top 41)) .none kV5 dc5 pm5 an5 cd5 ct5), sl5⟩)
    (c5 : PySem.W.codeIn K cd5 "_law_families_right" = true)
    (k5 : PySem.W.keepIn K (.ref f5) = true)
    (a6 : PySem.W.nsIn K mainGlobals "_law_fields" = some (some (.ref f6)))
    (l6 : K.lookup f6 = some ⟨oc6, od6, .func (PySem.W.fnOf "_law_fields" "_law_fields" (defArgs (top 42)) (defBody (top 42)) (defScope (top 42)) .none kV6 dc6 pm6 an6 cd6 ct6), sl6⟩)
    (c6 : PySem.W.codeIn K cd6 "_law_fields" = true)
    (k6 : PySem.W.keepIn K (.ref f6) = true)
    (a7 : PySem.W.nsIn K mainGlobals "_law_due" = some (some (.ref f7)))
    (l7 : K.lookup f7 = some ⟨oc7, od7, .func (PySem.W.fnOf "_law_due" "_law_due" (defArgs (top 43)) (defBody (top 43)) (defScope (top 43)) .none kV7 dc7 pm7 an7 cd7 ct7), sl7⟩)
    (c7 : PySem.W.codeIn K cd7 "_law_due" = true)
    (k7 : PySem.W.keepIn K (.ref f7) = true)
    (a8 : PySem.W.nsIn K mainGlobals "_law_named" = some (some (.ref f8)))
    (l8 : K.lookup f8 = some ⟨oc8, od8, .func (PySem.W.fnOf "_law_named" "_law_named" (defArgs (top 44)) (defBody (top 44)) (defScope (top 44)) .none kV8 dc8 pm8 an8 cd8 ct8), sl8⟩)
    (c8 : PySem.W.codeIn K cd8 "_law_named" = true)
    (k8 : PySem.W.keepIn K (.ref f8) = true)
    (a9 : PySem.W.nsIn K mainGlobals "_law_begin" = some (some (.ref f9)))
    (l9 : K.lookup f9 = some ⟨oc9, od9, .func (PySem.W.fnOf "_law_begin" "_law_begin" (defArgs (top 36)) (defBody (top 36)) (defScope (top 36)) .none kV9 dc9 pm9 an9 cd9 ct9), sl9⟩)
    (c9 : PySem.W.codeIn K cd9 "_law_begin" = true)
    (k9 : PySem.W.keepIn K (.ref f9) = true)
    (a10 : PySem.W.nsIn K mainGlobals "law" = some (some (.ref f10)))
    (l10 : K.lookup f10 = some ⟨oc10, od10, .func (PySem.W.fnOf "law" "law" (defArgs (top 45)) (defBody (top 45)) (defScope (top 45)) .none kV10 dc10 pm10 an10 cd10 ct10), sl10⟩)
    (c10 : PySem.W.codeIn K cd10 "law" = true)
    (k10 : PySem.W.keepIn K (.ref f10) = true)
    (b_isinstance : PySem.W.nsIn K mainGlobals "isinstance" = some none)
    (b_len : PySem.W.nsIn K mainGlobals "len" = some none)
    (b_int : PySem.W.nsIn K mainGlobals "int" = some none)
    (b_range : PySem.W.nsIn K mainGlobals "range" = some none)
    (b_min : PySem.W.nsIn K mainGlobals "min" = some none)
    (b_repr : PySem.W.nsIn K mainGlobals "repr" = some none)
    (b_enumerate : PySem.W.nsIn K mainGlobals "enumerate" = some none)
    (b_ValueError : PySem.W.nsIn K mainGlobals "ValueError" = some none)
    (b_LookupError : PySem.W.nsIn K mainGlobals "LookupError" = some none)
    (b_RuntimeError : PySem.W.nsIn K mainGlobals "RuntimeError" = some none) :
    ∃ fd : FuncData, (∀ (s : Shared) (v : Value), BindsTo s fd ⟨[v], []⟩ [("script", v)]) ∧ ∀ base : Heap, K.In base → base.Ns mainGlobals mg → FnG l.prog w K mg base 4 fa fd ["script"] (spLaw K) := by
  have e := hfa.symm.trans (PySem.W.mg_of X G a10)
  cases e
  have T : Txt K mg := ⟨PySem.W.mg_none_of X G b_isinstance, PySem.W.mg_none_of X G b_len, PySem.W.mg_none_of X G b_int, PySem.W.mg_none_of X G b_range, PySem.W.mg_none_of X G b_min, PySem.W.mg_none_of X G b_repr, PySem.W.mg_none_of X G b_enumerate, PySem.W.mg_none_of X G b_ValueError, PySem.W.mg_none_of X G b_LookupError, PySem.W.mg_none_of X G b_RuntimeError⟩
  have Z : Ec K mg := ⟨z_BadChapter, z_BadToken, z_BadKind, z_BadStyle, z_BadLink, z_BadNumber, z_BadSpot, z_NoSpot, z_BadText, z_BadPatch, z_Misfit, z_Conflict, z_NoNode, z_TooLong, z_BadBranch, z_Clash, z_BadBook, z_NoItem, z_NoChapter, z_NotInSlots, z_NotNeighbors, z_BadOrder, z_BadNames, z_NoMain, z_TooMany, z_Unsound, z_Busy, z_NoMark, z_BadOctets, z_BadEntry, z_BadArchive, z_Refused, z_Unrecoverable⟩
  have U1 := fun_mk (st := top 37) l1 c1 k1
  have bb1 := U1.binds (ps := ["cell", "k"]) fun _ _ _ _ _ _ us hl => match us, hl with | [_, _], _ => rfl
  have kb1 : ∀ (s : Shared) (us : List Value), us.length = 2 → BindsTo s (PySem.W.fnOf "_law_mixed" "_law_mixed" (defArgs (top 37)) (defBody (top 37)) (defScope (top 37)) .none kV1 dc1 pm1 an1 cd1 ct1) ⟨[], (["cell", "k"] : List Str).zip us⟩ ((["cell", "k"] : List Str).zip us) := fun s us hl => match us, hl with | [_, _], _ => .of_eq rfl
  have U2 := fun_mk (st := top 38) l2 c2 k2
  have bb2 := U2.binds (ps := ["draw", "bound"]) fun _ _ _ _ _ _ us hl => match us, hl with | [_, _], _ => rfl
  have kb2 : ∀ (s : Shared) (us : List Value), us.length = 2 → BindsTo s (PySem.W.fnOf "_law_next" "_law_next" (defArgs (top 38)) (defBody (top 38)) (defScope (top 38)) .none kV2 dc2 pm2 an2 cd2 ct2) ⟨[], (["draw", "bound"] : List Str).zip us⟩ ((["draw", "bound"] : List Str).zip us) := fun s us hl => match us, hl with | [_, _], _ => .of_eq rfl
  have U3 := fun_mk (st := top 39) l3 c3 k3
  have bb3 := U3.binds (ps := ["what", "more", "rest"]) fun _ _ _ _ _ _ us hl => match us, hl with | [_, _, _], _ => rfl
  have kb3 : ∀ (s : Shared) (us : List Value), us.length = 3 → BindsTo s (PySem.W.fnOf "_law_made" "_law_made" (defArgs (top 39)) (defBody (top 39)) (defScope (top 39)) .none kV3 dc3 pm3 an3 cd3 ct3) ⟨[], (["what", "more", "rest"] : List Str).zip us⟩ ((["what", "more", "rest"] : List Str).zip us) := fun s us hl => match us, hl with | [_, _, _], _ => .of_eq rfl
  have U4 := fun_mk (st := top 40) l4 c4 k4
  have bb4 := U4.binds (ps := ["e"]) fun _ _ _ _ _ _ us hl => match us, hl with | [_], _ => rfl
  have kb4 : ∀ (s : Shared) (us : List Value), us.length = 1 → BindsTo s (PySem.W.fnOf "_law_kinds" "_law_kinds" (defArgs (top 40)) (defBody (top 40)) (defScope (top 40)) .none kV4 dc4 pm4 an4 cd4 ct4) ⟨[], (["e"] : List Str).zip us⟩ ((["e"] : List Str).zip us) := fun s us hl => match us, hl with | [_], _ => .of_eq rfl
  have U5 := fun_mk (st := top 41) l5 c5 k5
  have bb5 := U5.binds (ps := ["errs"]) fun _ _ _ _ _ _ us hl => match us, hl with | [_], _ => rfl
  have kb5 : ∀ (s : Shared) (us : List Value), us.length = 1 → BindsTo s (PySem.W.fnOf "_law_families_right" "_law_families_right" (defArgs (top 41)) (defBody (top 41)) (defScope (top 41)) .none kV5 dc5 pm5 an5 cd5 ct5) ⟨[], (["errs"] : List Str).zip us⟩ ((["errs"] : List Str).zip us) := fun s us hl => match us, hl with | [_], _ => .of_eq rfl
  have U6 := fun_mk (st := top 42) l6 c6 k6
  have bb6 := U6.binds (ps := ["errs"]) fun _ _ _ _ _ _ us hl => match us, hl with | [_], _ => rfl
  have kb6 : ∀ (s : Shared) (us : List Value), us.length = 1 → BindsTo s (PySem.W.fnOf "_law_fields" "_law_fields" (defArgs (top 42)) (defBody (top 42)) (defScope (top 42)) .none kV6 dc6 pm6 an6 cd6 ct6) ⟨[], (["errs"] : List Str).zip us⟩ ((["errs"] : List Str).zip us) := fun s us hl => match us, hl with | [_], _ => .of_eq rfl
  have U7 := fun_mk (st := top 43) l7 c7 k7
  have bb7 := U7.binds (ps := ["what", "more", "rest"]) fun _ _ _ _ _ _ us hl => match us, hl with | [_, _, _], _ => rfl
  have kb7 : ∀ (s : Shared) (us : List Value), us.length = 3 → BindsTo s (PySem.W.fnOf "_law_due" "_law_due" (defArgs (top 43)) (defBody (top 43)) (defScope (top 43)) .none kV7 dc7 pm7 an7 cd7 ct7) ⟨[], (["what", "more", "rest"] : List Str).zip us⟩ ((["what", "more", "rest"] : List Str).zip us) := fun s us hl => match us, hl with | [_, _, _], _ => .of_eq rfl
  have U8 := fun_mk (st := top 44) l8 c8 k8
  have bb8 := U8.binds (ps := ["what", "more", "rest"]) fun _ _ _ _ _ _ us hl => match us, hl with | [_, _, _], _ => rfl
  have kb8 : ∀ (s : Shared) (us : List Value), us.length = 3 → BindsTo s (PySem.W.fnOf "_law_named" "_law_named" (defArgs (top 44)) (defBody (top 44)) (defScope (top 44)) .none kV8 dc8 pm8 an8 cd8 ct8) ⟨[], (["what", "more", "rest"] : List Str).zip us⟩ ((["what", "more", "rest"] : List Str).zip us) := fun s us hl => match us, hl with | [_, _, _], _ => .of_eq rfl
  have U9 := fun_mk (st := top 36) l9 c9 k9
  have bb9 := U9.binds (ps := ["script"]) fun _ _ _ _ _ _ us hl => match us, hl with | [_], _ => rfl
  have U10 := fun_mk (st := top 45) l10 c10 k10
  have bb10 := U10.binds (ps := ["script"]) fun _ _ _ _ _ _ us hl => match us, hl with | [_], _ => rfl
  refine ⟨_, fun s v => .of_eq (fd := PySem.W.fnOf "law" "law" (defArgs (top 45)) (defBody (top 45)) (defScope (top 45)) .none kV10 dc10 pm10 an10 cd10 ct10) rfl, fun base hb1 hb2 => ?_⟩
  have D__law_mixed : Dn l.prog w K mg base 1 "_law_mixed" ["cell", "k"] F__law_mixed := dn_mk U1 (PySem.W.mg_of X G a1) bb1 kb1 fun dr => ok__law_mixed T Z bk  U1 dr
  have D__law_next : Dn l.prog w K mg base 2 "_law_next" ["draw", "bound"] F__law_next := dn_mk U2 (PySem.W.mg_of X G a2) bb2 kb2 fun dr => ok__law_next T Z bk D__law_mixed U2 dr
  have D__law_made : Dn l.prog w K mg base 1 "_law_made" ["what", "more", "rest"] F__law_made := dn_mk U3 (PySem.W.mg_of X G a3) bb3 kb3 fun dr => ok__law_made T Z bk  U3 dr
  have D__law_kinds : Dn l.prog w K mg base 1 "_law_kinds" ["e"] F__law_kinds := dn_mk U4 (PySem.W.mg_of X G a4) bb4 kb4 fun dr => ok__law_kinds T Z bk  U4 dr
  have D__law_families_right : Dn l.prog w K mg base 2 "_law_families_right" ["errs"] F__law_families_right := dn_mk U5 (PySem.W.mg_of X G a5) bb5 kb5 fun dr => ok__law_families_right T Z bk D__law_kinds U5 dr
  have D__law_fields : Dn l.prog w K mg base 1 "_law_fields" ["errs"] F__law_fields := dn_mk U6 (PySem.W.mg_of X G a6) bb6 kb6 fun dr => ok__law_fields T Z bk  U6 dr
  have D__law_due : Dn l.prog w K mg base 1 "_law_due" ["what", "more", "rest"] F__law_due := dn_mk U7 (PySem.W.mg_of X G a7) bb7 kb7 fun dr => ok__law_due T Z bk  U7 dr
  have D__law_named : Dn l.prog w K mg base 1 "_law_named" ["what", "more", "rest"] F__law_named := dn_mk U8 (PySem.W.mg_of X G a8) bb8 kb8 fun dr => ok__law_named T Z bk  U8 dr
  exact ok_law T U9 (PySem.W.mg_of X G a9) bb9 D__law_next D__law_families_right D__law_named D__law_made D__law_fields D__law_due U10
theorem walk {l : PySem.W.OpenLaw} {q : Program} {loose : List Str} {XP : (Str → Option Value) → Heap → Prop} {YP : World → Heap → Prop} {d : DefRec} {K : Params → PySem.W.Frag} (hn : l.most = some 63) (hdf : d.params.defaults = []) (hq : PyProof.Rows.importsNone q = true)
    (hY : ∀ (w : World) (h : Heap), YP w h → (K w.params).In h)
    (F : ∀ (w : World) (mg : Str → Option Value) (fa : Addr) (h : Heap), (K w.params).In h → h.Ns mainGlobals mg → mg d.name = some (.ref fa) →
      ∃ fd : FuncData, (∀ (s : Shared) (u : Value), BindsTo s fd ⟨[u], []⟩ [("script", u)]) ∧ ∀ base : Heap, (K w.params).In base → base.Ns mainGlobals mg → FnG l.prog w (K w.params) mg base 4 fa fd ["script"] (spLaw (K w.params))) :
    PySem.W.WalkO q loose XP YP l.row.toRowW d [] (fun f vs => PySem.call f vs) :=
  walkG1 (n := 63) (k := 4) (x := "script") (sp := fun w => spLaw (K w.params)) hn (by decide) hdf hq ⟨rfl, by decide, by decide⟩ hY F (fun _ _ a ns hl _ hS ho => ⟨a, ns, rfl, hS, hl, ho, fun _ => rfl⟩)
end K01
open PySem PySem.W PyProof.Rows
set_option maxRecDepth 100000 in
set_option maxHeartbeats 0 in
theorem PySem.Challenge.cw_bookpack_k01_error_classes_holds : PySem.Challenge.rw_bookpack_k01_error_classes.Holds := by
  w_on; o_law; k_headL; (case hw => w_witness2)
  k_fill
  refine K01.walk (l := PySem.Challenge.rw_bookpack_k01_error_classes) rfl rfl (by first | rfl | decide +kernel) (fun w h Y => PySem.W.kIn_of Y) ?F
  case F =>
    intro w mg fa h KX G hmg
    refine' K01.all_mk KX G hmg (K01.bk_mk KX G ?bk_a ?bk_x ?bk_t) (K01.mk_BadChapter KX G ?BadChapter_a ?BadChapter_b ?BadChapter_x ?BadChapter_sa ?BadChapter_ga ?BadChapter_gg ?BadChapter_gc ?BadChapter_n0 ?BadChapter_kC ?BadChapter_tC ?BadChapter_iC ?BadChapter_tg ?BadChapter_l ?BadChapter_c) (K01.mk_BadToken KX G ?BadToken_a ?BadToken_b ?BadToken_x ?BadToken_sa ?BadToken_ga ?BadToken_gg ?BadToken_gc ?BadToken_n0 ?BadToken_kC ?BadToken_tC ?BadToken_iC ?BadToken_tg ?BadToken_l ?BadToken_c) (K01.mk_BadKind KX G ?BadKind_a ?BadKind_b ?BadKind_x ?BadKind_sa ?BadKind_ga ?BadKind_gg ?BadKind_gc ?BadKind_n0 ?BadKind_kC ?BadKind_tC ?BadKind_iC ?BadKind_tg ?BadKind_l ?BadKind_c) (K01.mk_BadStyle KX G ?BadStyle_a ?BadStyle_b ?BadStyle_x ?BadStyle_sa ?BadStyle_ga ?BadStyle_gg ?BadStyle_gc ?BadStyle_n0 ?BadStyle_kC ?BadStyle_tC ?BadStyle_iC ?BadStyle_tg ?BadStyle_l ?BadStyle_c) (K01.mk_BadLink KX G ?BadLink_a ?BadLink_b ?BadLink_x ?BadLink_sa ?BadLink_ga ?BadLink_gg ?BadLink_gc ?BadLink_n0 ?BadLink_kC ?BadLink_tC ?BadLink_iC ?BadLink_tg ?BadLink_l ?BadLink_c) (K01.mk_BadNumber KX G ?BadNumber_a ?BadNumber_b ?BadNumber_x ?BadNumber_sa ?BadNumber_ga ?BadNumber_gg ?BadNumber_gc ?BadNumber_n0 ?BadNumber_kC ?BadNumber_tC ?BadNumber_iC ?BadNumber_tg ?BadNumber_l ?BadNumber_c) (K01.mk_BadSpot KX G ?BadSpot_a ?BadSpot_b ?BadSpot_x ?BadSpot_sa ?BadSpot_ga ?BadSpot_gg ?BadSpot_gc ?BadSpot_n0 ?BadSpot_kC ?BadSpot_tC ?BadSpot_iC ?BadSpot_tg ?BadSpot_l ?BadSpot_c) (K01.mk_NoSpot KX G ?NoSpot_a ?NoSpot_b ?NoSpot_x ?NoSpot_sa ?NoSpot_ga ?NoSpot_gg ?NoSpot_gc ?NoSpot_n0 ?NoSpot_kC ?NoSpot_tC ?NoSpot_iC ?NoSpot_tg ?NoSpot_l ?NoSpot_c) (K01.mk_BadText KX G ?BadText_a ?BadText_b ?BadText_x ?BadText_sa ?BadText_ga ?BadText_gg ?BadText_gc ?BadText_n0 ?BadText_n1 ?BadText_kC ?BadText_tC ?BadText_iC ?BadText_tg ?BadText_l ?BadText_c) (K01.mk_BadPatch KX G ?BadPatch_a ?BadPatch_b ?BadPatch_x ?BadPatch_sa ?BadPatch_ga ?BadPatch_gg ?BadPatch_gc ?BadPatch_n0 ?BadPatch_n1 ?BadPatch_kC ?BadPatch_tC ?BadPatch_iC ?BadPatch_tg ?BadPatch_l ?BadPatch_c) (K01.mk_Misfit KX G ?Misfit_a ?Misfit_b ?Misfit_x ?Misfit_sa ?Misfit_ga ?Misfit_gg ?Misfit_gc ?Misfit_n0 ?Misfit_kC ?Misfit_tC ?Misfit_iC ?Misfit_tg ?Misfit_l ?Misfit_c) (K01.mk_Conflict KX G ?Conflict_a ?Conflict_b ?Conflict_x ?Conflict_sa ?Conflict_ga ?Conflict_gg ?Conflict_gc ?Conflict_n0 ?Conflict_kC ?Conflict_tC ?Conflict_iC ?Conflict_tg ?Conflict_l ?Conflict_c) (K01.mk_NoNode KX G ?NoNode_a ?NoNode_b ?NoNode_x ?NoNode_sa ?NoNode_ga ?NoNode_gg ?NoNode_gc ?NoNode_n0 ?NoNode_kC ?NoNode_tC ?NoNode_iC ?NoNode_tg ?NoNode_l ?NoNode_c) (K01.mk_TooLong KX G ?TooLong_a ?TooLong_b ?TooLong_x ?TooLong_sa ?TooLong_ga ?TooLong_gg ?TooLong_gc ?TooLong_n0 ?TooLong_kC ?TooLong_tC ?TooLong_iC ?TooLong_tg ?TooLong_l ?TooLong_c) (K01.mk_BadBranch KX G ?BadBranch_a ?BadBranch_b ?BadBranch_x ?BadBranch_sa ?BadBranch_ga ?BadBranch_gg ?BadBranch_gc ?BadBranch_n0 ?BadBranch_n1 ?BadBranch_kC ?BadBranch_tC ?BadBranch_iC ?BadBranch_tg ?BadBranch_l ?BadBranch_c) (K01.mk_Clash KX G ?Clash_a ?Clash_b ?Clash_x ?Clash_sa ?Clash_ga ?Clash_gg ?Clash_gc ?Clash_n0 ?Clash_n1 ?Clash_n2 ?Clash_kC ?Clash_tC ?Clash_iC ?Clash_tg ?Clash_l ?Clash_c) (K01.mk_BadBook KX G ?BadBook_a ?BadBook_b ?BadBook_x ?BadBook_sa ?BadBook_ga ?BadBook_gg ?BadBook_gc ?BadBook_n0 ?BadBook_n1 ?BadBook_kC ?BadBook_tC ?BadBook_iC ?BadBook_tg ?BadBook_l ?BadBook_c) (K01.mk_NoItem KX G ?NoItem_a ?NoItem_b ?NoItem_x ?NoItem_sa ?NoItem_ga ?NoItem_gg ?NoItem_gc ?NoItem_n0 ?NoItem_kC ?NoItem_tC ?NoItem_iC ?NoItem_tg ?NoItem_l ?NoItem_c) (K01.mk_NoChapter KX G ?NoChapter_a ?NoChapter_b ?NoChapter_x ?NoChapter_sa ?NoChapter_ga ?NoChapter_gg ?NoChapter_gc ?NoChapter_n0 ?NoChapter_kC ?NoChapter_tC ?NoChapter_iC ?NoChapter_tg ?NoChapter_l ?NoChapter_c) (K01.mk_NotInSlots KX G ?NotInSlots_a ?NotInSlots_b ?NotInSlots_x ?NotInSlots_sa ?NotInSlots_ga ?NotInSlots_gg ?NotInSlots_gc ?NotInSlots_n0 ?NotInSlots_kC ?NotInSlots_tC ?NotInSlots_iC ?NotInSlots_tg ?NotInSlots_l ?NotInSlots_c) (K01.mk_NotNeighbors KX G ?NotNeighbors_a ?NotNeighbors_b ?NotNeighbors_x ?NotNeighbors_sa ?NotNeighbors_ga ?NotNeighbors_gg ?NotNeighbors_gc ?NotNeighbors_kC ?NotNeighbors_tC ?NotNeighbors_iC ?NotNeighbors_tg ?NotNeighbors_l ?NotNeighbors_c) (K01.mk_BadOrder KX G ?BadOrder_a ?BadOrder_b ?BadOrder_x ?BadOrder_sa ?BadOrder_ga ?BadOrder_gg ?BadOrder_gc ?BadOrder_n0 ?BadOrder_kC ?BadOrder_tC ?BadOrder_iC ?BadOrder_tg ?BadOrder_l ?BadOrder_c) (K01.mk_BadNames KX G ?BadNames_a ?BadNames_b ?BadNames_x ?BadNames_sa ?BadNames_ga ?BadNames_gg ?BadNames_gc ?BadNames_n0 ?BadNames_kC ?BadNames_tC ?BadNames_iC ?BadNames_tg ?BadNames_l ?BadNames_c) (K01.mk_NoMain KX G ?NoMain_a ?NoMain_b ?NoMain_x ?NoMain_sa ?NoMain_ga ?NoMain_gg ?NoMain_gc ?NoMain_kC ?NoMain_tC ?NoMain_iC ?NoMain_tg ?NoMain_l ?NoMain_c) (K01.mk_TooMany KX G ?TooMany_a ?TooMany_b ?TooMany_x ?TooMany_sa ?TooMany_ga ?TooMany_gg ?TooMany_gc ?TooMany_n0 ?TooMany_kC ?TooMany_tC ?TooMany_iC ?TooMany_tg ?TooMany_l ?TooMany_c) (K01.mk_Unsound KX G ?Unsound_a ?Unsound_b ?Unsound_x ?Unsound_sa ?Unsound_ga ?Unsound_gg ?Unsound_gc ?Unsound_n0 ?Unsound_n1 ?Unsound_kC ?Unsound_tC ?Unsound_iC ?Unsound_tg ?Unsound_l ?Unsound_c) (K01.mk_Busy KX G ?Busy_a ?Busy_b ?Busy_x ?Busy_sa ?Busy_ga ?Busy_gg ?Busy_gc ?Busy_kC ?Busy_tC ?Busy_iC ?Busy_tg ?Busy_l ?Busy_c) (K01.mk_NoMark KX G ?NoMark_a ?NoMark_b ?NoMark_x ?NoMark_sa ?NoMark_ga ?NoMark_gg ?NoMark_gc ?NoMark_n0 ?NoMark_kC ?NoMark_tC ?NoMark_iC ?NoMark_tg ?NoMark_l ?NoMark_c) (K01.mk_BadOctets KX G ?BadOctets_a ?BadOctets_b ?BadOctets_x ?BadOctets_sa ?BadOctets_ga ?BadOctets_gg ?BadOctets_gc ?BadOctets_n0 ?BadOctets_kC ?BadOctets_tC ?BadOctets_iC ?BadOctets_tg ?BadOctets_l ?BadOctets_c) (K01.mk_BadEntry KX G ?BadEntry_a ?BadEntry_b ?BadEntry_x ?BadEntry_sa ?BadEntry_ga ?BadEntry_gg ?BadEntry_gc ?BadEntry_n0 ?BadEntry_kC ?BadEntry_tC ?BadEntry_iC ?BadEntry_tg ?BadEntry_l ?BadEntry_c) (K01.mk_BadArchive KX G ?BadArchive_a ?BadArchive_b ?BadArchive_x ?BadArchive_sa ?BadArchive_ga ?BadArchive_gg ?BadArchive_gc ?BadArchive_n0 ?BadArchive_n1 ?BadArchive_kC ?BadArchive_tC ?BadArchive_iC ?BadArchive_tg ?BadArchive_l ?BadArchive_c) (K01.mk_Refused KX G ?Refused_a ?Refused_b ?Refused_x ?Refused_sa ?Refused_ga ?Refused_gg ?Refused_gc ?Refused_n0 ?Refused_n1 ?Refused_kC ?Refused_tC ?Refused_iC ?Refused_tg ?Refused_l ?Refused_c) (K01.mk_Unrecoverable KX G ?Unrecoverable_a ?Unrecoverable_b ?Unrecoverable_x ?Unrecoverable_sa ?Unrecoverable_ga ?Unrecoverable_gg ?Unrecoverable_gc ?Unrecoverable_n0 ?Unrecoverable_kC ?Unrecoverable_tC ?Unrecoverable_iC ?Unrecoverable_tg ?Unrecoverable_l ?Unrecoverable_c) ?a1 ?l1 ?c1 ?k1 ?a2 ?l2 ?c2 ?k2 ?a3 ?l3 ?c3 ?k3 ?a4 ?l4 ?c4 ?k4 ?a5 ?l5 ?c5 ?k5 ?a6 ?l6 ?c6 ?k6 ?a7 ?l7 ?c7 ?k7 ?a8 ?l8 ?c8 ?k8 ?a9 ?l9 ?c9 ?k9 ?a10 ?l10 ?c10 ?k10 ?b_isinstance ?b_len ?b_int ?b_range ?b_min ?b_repr ?b_enumerate ?b_ValueError ?b_LookupError ?b_RuntimeError
    (case bk_a => k_is); (case bk_x => k_is); (case bk_t => k_is); (case BadChapter_a => k_is); (case BadChapter_b => k_is); (case BadChapter_x => k_is)
    (case BadChapter_sa => k_is); (case BadChapter_ga => k_is); (case BadChapter_gg => k_is); (case BadChapter_gc => k_is); (case BadChapter_n0 => k_is); (case BadChapter_kC => k_is)
    (case BadChapter_tC => k_is); (case BadChapter_iC => k_is); (case BadChapter_tg => k_is); (case BadChapter_l => k_is); (case BadChapter_c => k_is); (case BadToken_a => k_is)
    (case BadToken_b => k_is); (case BadToken_x => k_is); (case BadToken_sa => k_is); (case BadToken_ga => k_is); (case BadToken_gg => k_is); (case BadToken_gc => k_is)
    (case BadToken_n0 => k_is); (case BadToken_kC => k_is); (case BadToken_tC => k_is); (case BadToken_iC => k_is); (case BadToken_tg => k_is); (case BadToken_l => k_is)
    (case BadToken_c => k_is); (case BadKind_a => k_is); (case BadKind_b => k_is); (case BadKind_x => k_is); (case BadKind_sa => k_is); (case BadKind_ga => k_is)
    (case BadKind_gg => k_is); (case BadKind_gc => k_is); (case BadKind_n0 => k_is); (case BadKind_kC => k_is); (case BadKind_tC => k_is); (case BadKind_iC => k_is)
    (case BadKind_tg => k_is); (case BadKind_l => k_is); (case BadKind_c => k_is); (case BadStyle_a => k_is); (case BadStyle_b => k_is); (case BadStyle_x => k_is)
    (case BadStyle_sa => k_is); (case BadStyle_ga => k_is); (case BadStyle_gg => k_is); (case BadStyle_gc => k_is); (case BadStyle_n0 => k_is); (case BadStyle_kC => k_is)
    (case BadStyle_tC => k_is); (case BadStyle_iC => k_is); (case BadStyle_tg => k_is); (case BadStyle_l => k_is); (case BadStyle_c => k_is); (case BadLink_a => k_is)
    (case BadLink_b => k_is); (case BadLink_x => k_is); (case BadLink_sa => k_is); (case BadLink_ga => k_is); (case BadLink_gg => k_is); (case BadLink_gc => k_is)
    (case BadLink_n0 => k_is); (case BadLink_kC => k_is); (case BadLink_tC => k_is); (case BadLink_iC => k_is); (case BadLink_tg => k_is); (case BadLink_l => k_is)
    (case BadLink_c => k_is); (case BadNumber_a => k_is); (case BadNumber_b => k_is); (case BadNumber_x => k_is); (case BadNumber_sa => k_is); (case BadNumber_ga => k_is)
    (case BadNumber_gg => k_is); (case BadNumber_gc => k_is); (case BadNumber_n0 => k_is); (case BadNumber_kC => k_is); (case BadNumber_tC => k_is); (case BadNumber_iC => k_is)
    (case BadNumber_tg => k_is); (case BadNumber_l => k_is); (case BadNumber_c => k_is); (case BadSpot_a => k_is); (case BadSpot_b => k_is); (case BadSpot_x => k_is)
    (case BadSpot_sa => k_is); (case BadSpot_ga => k_is); (case BadSpot_gg => k_is); (case BadSpot_gc => k_is); (case BadSpot_n0 => k_is); (case BadSpot_kC => k_is)
    (case BadSpot_tC => k_is); (case BadSpot_iC => k_is); (case BadSpot_tg => k_is); (case BadSpot_l => k_is); (case BadSpot_c => k_is); (case NoSpot_a => k_is)
    (case NoSpot_b => k_is); (case NoSpot_x => k_is); (case NoSpot_sa => k_is); (case NoSpot_ga => k_is); (case NoSpot_gg => k_is); (case NoSpot_gc => k_is)
    (case NoSpot_n0 => k_is); (case NoSpot_kC => k_is); (case NoSpot_tC => k_is); (case NoSpot_iC => k_is); (case NoSpot_tg => k_is); (case NoSpot_l => k_is)
    (case NoSpot_c => k_is); (case BadText_a => k_is); (case BadText_b => k_is); (case BadText_x => k_is); (case BadText_sa => k_is); (case BadText_ga => k_is)
    (case BadText_gg => k_is); (case BadText_gc => k_is); (case BadText_n0 => k_is); (case BadText_n1 => k_is); (case BadText_kC => k_is); (case BadText_tC => k_is)
    (case BadText_iC => k_is); (case BadText_tg => k_is); (case BadText_l => k_is); (case BadText_c => k_is); (case BadPatch_a => k_is); (case BadPatch_b => k_is)
    (case BadPatch_x => k_is); (case BadPatch_sa => k_is); (case BadPatch_ga => k_is); (case BadPatch_gg => k_is); (case BadPatch_gc => k_is); (case BadPatch_n0 => k_is)
    (case BadPatch_n1 => k_is); (case BadPatch_kC => k_is); (case BadPatch_tC => k_is); (case BadPatch_iC => k_is); (case BadPatch_tg => k_is); (case BadPatch_l => k_is)
    (case BadPatch_c => k_is); (case Misfit_a => k_is); (case Misfit_b => k_is); (case Misfit_x => k_is); (case Misfit_sa => k_is); (case Misfit_ga => k_is)
    (case Misfit_gg => k_is); (case Misfit_gc => k_is); (case Misfit_n0 => k_is); (case Misfit_kC => k_is); (case Misfit_tC => k_is); (case Misfit_iC => k_is)
    (case Misfit_tg => k_is); (case Misfit_l => k_is); (case Misfit_c => k_is); (case Conflict_a => k_is); (case Conflict_b => k_is); (case Conflict_x => k_is)
    (case Conflict_sa => k_is); (case Conflict_ga => k_is); (case Conflict_gg => k_is); (case Conflict_gc => k_is); (case Conflict_n0 => k_is); (case Conflict_kC => k_is)
    (case Conflict_tC => k_is); (case Conflict_iC => k_is); (case Conflict_tg => k_is); (case Conflict_l => k_is); (case Conflict_c => k_is); (case NoNode_a => k_is)
    (case NoNode_b => k_is); (case NoNode_x => k_is); (case NoNode_sa => k_is); (case NoNode_ga => k_is); (case NoNode_gg => k_is); (case NoNode_gc => k_is)
    (case NoNode_n0 => k_is); (case NoNode_kC => k_is); (case NoNode_tC => k_is); (case NoNode_iC => k_is); (case NoNode_tg => k_is); (case NoNode_l => k_is)
    (case NoNode_c => k_is); (case TooLong_a => k_is); (case TooLong_b => k_is); (case TooLong_x => k_is); (case TooLong_sa => k_is); (case TooLong_ga => k_is)
    (case TooLong_gg => k_is); (case TooLong_gc => k_is); (case TooLong_n0 => k_is); (case TooLong_kC => k_is); (case TooLong_tC => k_is); (case TooLong_iC => k_is)
    (case TooLong_tg => k_is); (case TooLong_l => k_is); (case TooLong_c => k_is); (case BadBranch_a => k_is); (case BadBranch_b => k_is); (case BadBranch_x => k_is)
    (case BadBranch_sa => k_is); (case BadBranch_ga => k_is); (case BadBranch_gg => k_is); (case BadBranch_gc => k_is); (case BadBranch_n0 => k_is); (case BadBranch_n1 => k_is)
    (case BadBranch_kC => k_is); (case BadBranch_tC => k_is); (case BadBranch_iC => k_is); (case BadBranch_tg => k_is); (case BadBranch_l => k_is); (case BadBranch_c => k_is)
    (case Clash_a => k_is); (case Clash_b => k_is); (case Clash_x => k_is); (case Clash_sa => k_is); (case Clash_ga => k_is); (case Clash_gg => k_is)
    (case Clash_gc => k_is); (case Clash_n0 => k_is); (case Clash_n1 => k_is); (case Clash_n2 => k_is); (case Clash_kC => k_is); (case Clash_tC => k_is)
    (case Clash_iC => k_is); (case Clash_tg => k_is); (case Clash_l => k_is); (case Clash_c => k_is); (case BadBook_a => k_is); (case BadBook_b => k_is)
    (case BadBook_x => k_is); (case BadBook_sa => k_is); (case BadBook_ga => k_is); (case BadBook_gg => k_is); (case BadBook_gc => k_is); (case BadBook_n0 => k_is)
    (case BadBook_n1 => k_is); (case BadBook_kC => k_is); (case BadBook_tC => k_is); (case BadBook_iC => k_is); (case BadBook_tg => k_is); (case BadBook_l => k_is)
    (case BadBook_c => k_is); (case NoItem_a => k_is); (case NoItem_b => k_is); (case NoItem_x => k_is); (case NoItem_sa => k_is); (case NoItem_ga => k_is)
    (case NoItem_gg => k_is); (case NoItem_gc => k_is); (case NoItem_n0 => k_is); (case NoItem_kC => k_is); (case NoItem_tC => k_is); (case NoItem_iC => k_is)
    (case NoItem_tg => k_is); (case NoItem_l => k_is); (case NoItem_c => k_is); (case NoChapter_a => k_is); (case NoChapter_b => k_is); (case NoChapter_x => k_is)
    (case NoChapter_sa => k_is); (case NoChapter_ga => k_is); (case NoChapter_gg => k_is); (case NoChapter_gc => k_is); (case NoChapter_n0 => k_is); (case NoChapter_kC => k_is)
    (case NoChapter_tC => k_is); (case NoChapter_iC => k_is); (case NoChapter_tg => k_is); (case NoChapter_l => k_is); (case NoChapter_c => k_is); (case NotInSlots_a => k_is)
    (case NotInSlots_b => k_is); (case NotInSlots_x => k_is); (case NotInSlots_sa => k_is); (case NotInSlots_ga => k_is); (case NotInSlots_gg => k_is); (case NotInSlots_gc => k_is)
    (case NotInSlots_n0 => k_is); (case NotInSlots_kC => k_is); (case NotInSlots_tC => k_is); (case NotInSlots_iC => k_is); (case NotInSlots_tg => k_is); (case NotInSlots_l => k_is)
    (case NotInSlots_c => k_is); (case NotNeighbors_a => k_is); (case NotNeighbors_b => k_is); (case NotNeighbors_x => k_is); (case NotNeighbors_sa => k_is); (case NotNeighbors_ga => k_is)
    (case NotNeighbors_gg => k_is); (case NotNeighbors_gc => k_is); (case NotNeighbors_kC => k_is); (case NotNeighbors_tC => k_is); (case NotNeighbors_iC => k_is); (case NotNeighbors_tg => k_is)
    (case NotNeighbors_l => k_is); (case NotNeighbors_c => k_is); (case BadOrder_a => k_is); (case BadOrder_b => k_is); (case BadOrder_x => k_is); (case BadOrder_sa => k_is)
    (case BadOrder_ga => k_is); (case BadOrder_gg => k_is); (case BadOrder_gc => k_is); (case BadOrder_n0 => k_is); (case BadOrder_kC => k_is); (case BadOrder_tC => k_is)
    (case BadOrder_iC => k_is); (case BadOrder_tg => k_is); (case BadOrder_l => k_is); (case BadOrder_c => k_is); (case BadNames_a => k_is); (case BadNames_b => k_is)
    (case BadNames_x => k_is); (case BadNames_sa => k_is); (case BadNames_ga => k_is); (case BadNames_gg => k_is); (case BadNames_gc => k_is); (case BadNames_n0 => k_is)
    (case BadNames_kC => k_is); (case BadNames_tC => k_is); (case BadNames_iC => k_is); (case BadNames_tg => k_is); (case BadNames_l => k_is); (case BadNames_c => k_is)
    (case NoMain_a => k_is); (case NoMain_b => k_is); (case NoMain_x => k_is); (case NoMain_sa => k_is); (case NoMain_ga => k_is); (case NoMain_gg => k_is)
    (case NoMain_gc => k_is); (case NoMain_kC => k_is); (case NoMain_tC => k_is); (case NoMain_iC => k_is); (case NoMain_tg => k_is); (case NoMain_l => k_is)
    (case NoMain_c => k_is); (case TooMany_a => k_is); (case TooMany_b => k_is); (case TooMany_x => k_is); (case TooMany_sa => k_is); (case TooMany_ga => k_is)
    (case TooMany_gg => k_is); (case TooMany_gc => k_is); (case TooMany_n0 => k_is); (case TooMany_kC => k_is); (case TooMany_tC => k_is); (case TooMany_iC => k_is)
    (case TooMany_tg => k_is); (case TooMany_l => k_is); (case TooMany_c => k_is); (case Unsound_a => k_is); (case Unsound_b => k_is); (case Unsound_x => k_is)
    (case Unsound_sa => k_is); (case Unsound_ga => k_is); (case Unsound_gg => k_is); (case Unsound_gc => k_is); (case Unsound_n0 => k_is); (case Unsound_n1 => k_is)
    (case Unsound_kC => k_is); (case Unsound_tC => k_is); (case Unsound_iC => k_is); (case Unsound_tg => k_is); (case Unsound_l => k_is); (case Unsound_c => k_is)
    (case Busy_a => k_is); (case Busy_b => k_is); (case Busy_x => k_is); (case Busy_sa => k_is); (case Busy_ga => k_is); (case Busy_gg => k_is)
    (case Busy_gc => k_is); (case Busy_kC => k_is); (case Busy_tC => k_is); (case Busy_iC => k_is); (case Busy_tg => k_is); (case Busy_l => k_is)
    (case Busy_c => k_is); (case NoMark_a => k_is); (case NoMark_b => k_is); (case NoMark_x => k_is); (case NoMark_sa => k_is); (case NoMark_ga => k_is)
    (case NoMark_gg => k_is); (case NoMark_gc => k_is); (case NoMark_n0 => k_is); (case NoMark_kC => k_is); (case NoMark_tC => k_is); (case NoMark_iC => k_is)
    (case NoMark_tg => k_is); (case NoMark_l => k_is); (case NoMark_c => k_is); (case BadOctets_a => k_is); (case BadOctets_b => k_is); (case BadOctets_x => k_is)
    (case BadOctets_sa => k_is); (case BadOctets_ga => k_is); (case BadOctets_gg => k_is); (case BadOctets_gc => k_is); (case BadOctets_n0 => k_is); (case BadOctets_kC => k_is)
    (case BadOctets_tC => k_is); (case BadOctets_iC => k_is); (case BadOctets_tg => k_is); (case BadOctets_l => k_is); (case BadOctets_c => k_is); (case BadEntry_a => k_is)
    (case BadEntry_b => k_is); (case BadEntry_x => k_is); (case BadEntry_sa => k_is); (case BadEntry_ga => k_is); (case BadEntry_gg => k_is); (case BadEntry_gc => k_is)
    (case BadEntry_n0 => k_is); (case BadEntry_kC => k_is); (case BadEntry_tC => k_is); (case BadEntry_iC => k_is); (case BadEntry_tg => k_is); (case BadEntry_l => k_is)
    (case BadEntry_c => k_is); (case BadArchive_a => k_is); (case BadArchive_b => k_is); (case BadArchive_x => k_is); (case BadArchive_sa => k_is); (case BadArchive_ga => k_is)
    (case BadArchive_gg => k_is); (case BadArchive_gc => k_is); (case BadArchive_n0 => k_is); (case BadArchive_n1 => k_is); (case BadArchive_kC => k_is); (case BadArchive_tC => k_is)
    (case BadArchive_iC => k_is); (case BadArchive_tg => k_is); (case BadArchive_l => k_is); (case BadArchive_c => k_is); (case Refused_a => k_is); (case Refused_b => k_is)
    (case Refused_x => k_is); (case Refused_sa => k_is); (case Refused_ga => k_is); (case Refused_gg => k_is); (case Refused_gc => k_is); (case Refused_n0 => k_is)
    (case Refused_n1 => k_is); (case Refused_kC => k_is); (case Refused_tC => k_is); (case Refused_iC => k_is); (case Refused_tg => k_is); (case Refused_l => k_is)
    (case Refused_c => k_is); (case Unrecoverable_a => k_is); (case Unrecoverable_b => k_is); (case Unrecoverable_x => k_is); (case Unrecoverable_sa => k_is); (case Unrecoverable_ga => k_is)
    (case Unrecoverable_gg => k_is); (case Unrecoverable_gc => k_is); (case Unrecoverable_n0 => k_is); (case Unrecoverable_kC => k_is); (case Unrecoverable_tC => k_is); (case Unrecoverable_iC => k_is)
    (case Unrecoverable_tg => k_is); (case Unrecoverable_l => k_is); (case Unrecoverable_c => k_is); (case a1 => k_is); (case l1 => k_is); (case c1 => k_is)
    (case k1 => k_is); (case a2 => k_is); (case l2 => k_is); (case c2 => k_is); (case k2 => k_is); (case a3 => k_is)
    (case l3 => k_is); (case c3 => k_is); (case k3 => k_is); (case a4 => k_is); (case l4 => k_is); (case c4 => k_is)
    (case k4 => k_is); (case a5 => k_is); (case l5 => k_is); (case c5 => k_is); (case k5 => k_is); (case a6 => k_is)
    (case l6 => k_is); (case c6 => k_is); (case k6 => k_is); (case a7 => k_is); (case l7 => k_is); (case c7 => k_is)
    (case k7 => k_is); (case a8 => k_is); (case l8 => k_is); (case c8 => k_is); (case k8 => k_is); (case a9 => k_is)
    (case l9 => k_is); (case c9 => k_is); (case k9 => k_is); (case a10 => k_is); (case l10 => k_is); (case c10 => k_is)
    (case k10 => k_is); (case b_isinstance => k_is); (case b_len => k_is); (case b_int => k_is); (case b_range => k_is); (case b_min => k_is)
    (case b_repr => k_is); (case b_enumerate => k_is); (case b_ValueError => k_is); (case b_LookupError => k_is); (case b_RuntimeError => k_is)
