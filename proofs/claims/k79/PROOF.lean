import PyProof.Rows.All
import Wide.All
import OpenK.AllK
import Wide.FinOn
import KE.OsRunLaw
import HandS.Base
import HandS.Call
import HandS.Comp
import HandS.Deep
import HandS.Dict
import HandS.DictComp
import HandS.Ends
import HandS.Exc
import HandS.ExcField
import HandS.ExcInit
import HandS.ExcOwn
import HandS.ExcSuper
import HandS.IsInst
import HandS.Iter
import HandS.Lambda
import HandS.List
import HandS.RaiseMore
import HandS.Replace
import HandS.RevRange
import HandS.Set
import HandS.SetFor
import HandS.SortInts
import HandS.Style
import HandS.Text
import HandS.TupAny
import HandS.TupMul
import HandS.TupSets
import HandS.Wide
import HandS.Words
import HandS.Zip
import HandS.Zip0
import KE.GoesZip
import KE.KDflt
import KE.KExcIs
import KE.KIsAll
import KE.KNest
import PyProof.ListCopy
import PyProof.ReprRoads
import PyProof.StrOps2
import PySem.Challenge.RW_bookpack_k79_entries_in_entries_saved
set_option Elab.async false
set_option linter.all false
set_option maxRecDepth 100000
set_option maxHeartbeats 4000000
namespace EX
open PySem PySem.W PySem.HandSPX
/-- an error's class, by its name at the top; B: the class that all are under -/
structure ExK (K : Frag) (B : Addr) (nm : Str) (C : Addr) (fs : List Str) : Prop where
  ns : nsIn K mainGlobals nm = some (some (.ref C))
  nb : nsIn K mainGlobals "BookError" = some (some (.ref B))
  cls : ∃ q N bs sn sub ab col dd k0 k1 k2 k3 k5, K.lookup C = some (excClassObj nm q C N bs (.ref B :: [.type "ValueError", .type "Exception", .type "BaseException", .type "object"]) true sn sub ab col dd k0 k1 k2 k3 k5 "ValueError.__new__")
  sa : findIn K (.ref C) "__setattr__" = some (some (.builtin "object.__setattr__"))
  ga : findIn K (.ref C) "__getattribute__" = some (some (.builtin "BaseException.__getattribute__"))
  gg : findIn K (.ref C) "__getattr__" = some none
  gc : findIn K (.ref C) "__class__" = some (some (.builtin "object.__class__"))
  noF : ∀ f ∈ fs, findIn K (.ref C) f = some none
  kC : keepIn K (.ref C) = true
  tyC : typeIn K (.ref C) = some (.type "type")
end EX
/-! Data as plain values, and readings by what is wanted of them. -/
namespace DI
open PySem L2

inductive D where
  | non | bl (b : Bool) | int (i : Int) | str (x : Str) | lst (xs : List D) | tup (xs : List D) | drw | dic0 | dct (ks : List Key) (ds : List D) | exc (nm : Str) (fs : List Str) (ds : List D)
instance : Inhabited D := ⟨.non⟩

/-- sys.modules is tracked or written out, and no list -/
def One (K : PySem.W.Frag) (G : Hp) : Prop := ∃ o : Obj, (∀ its n, o.data ≠ .seq its n) ∧ (G sysModules = some (.frz o (.ext fun _ => True)) ∨ K.lookup sysModules = some o)
theorem One.mono {K : PySem.W.Frag} {G G' : Hp} (e : Same G G') : One K G → One K G' := fun ⟨o, h, q⟩ => ⟨o, h, q.imp (fun z => e _ _ z) id⟩
mutual
inductive Rp (K : PySem.W.Frag) (dr : Option Addr) (G : Hp) : V → D → Prop
  | non : Rp K dr G .non .non
  | bl (b : Bool) : Rp K dr G (.bl b) (.bl b)
  | int (i : Int) : Rp K dr G (.int i) (.int i)
  | str (x : Str) : Rp K dr G (.str x) (.str x)
  | lst {a : Addr} {xs : List V} {ds : List D} : G a = some (.lst xs) → RpA K dr G xs ds → Rp K dr G (.ref a) (.lst ds)
  | tup {a : Addr} {xs : List V} {ds : List D} : SqT K G a xs → RpA K dr G xs ds → Rp K dr G (.ref a) (.tup ds)
  | drw {a : Addr} : dr = some a → One K G → Rp K dr G (.ref a) .drw
  | dic0 {a : Addr} : G a = some (.dK []) → One K G → Rp K dr G (.ref a) .dic0
  | dct {a : Addr} {o : Obj} {kvs : List (Key × V)} {ks : List Key} {ds : List D} : G a = some (.frz o (.dK kvs)) → kvs.map (·.1) = ks → RpA K dr G (kvs.map (·.2)) ds → Rp K dr G (.ref a) (.dct ks ds)
  | exc {e C B : Addr} {o : Obj} {nm : Str} {fs : List Str} {xs : List V} {ds : List D} : EX.ExK K B nm C fs → o.cls = .ref C → (∃ vs, o.data = .fields vs) → G e = some (.frz o (.ext fun _ => True)) →
      (fs ≠ [] → ∃ d, o.dict = some d ∧ G d = some (.xd (fs.zip xs))) → (fs = [] → o.dict = none) → xs.length = fs.length → RpA K dr G xs ds → Rp K dr G (.ref e) (.exc nm fs ds)
inductive RpA (K : PySem.W.Frag) (dr : Option Addr) (G : Hp) : List V → List D → Prop
  | nil : RpA K dr G [] []
  | cons {v : V} {vs : List V} {d : D} {ds : List D} : Rp K dr G v d → RpA K dr G vs ds → RpA K dr G (v :: vs) (d :: ds)
end

theorem Same.tup {K : PySem.W.Frag} {H H' : Hp} {a : Addr} {xs : List V} (e : Same H H') (h : SqT K H a xs) : SqT K H' a xs := by
  rcases h with (h | ⟨o, h⟩) | h
  · exact .inl (.inl (e _ _ h))
  · exact .inl (.inr ⟨o, e _ _ h⟩)
  · exact .inr h

section
variable {K : PySem.W.Frag} {dr : Option Addr} {G G' : Hp}
mutual
theorem Rp.mono (e : Same G G') {v : V} {d : D} : Rp K dr G v d → Rp K dr G' v d
  | .non => .non
  | .bl b => .bl b
  | .int i => .int i
  | .str x => .str x
  | .lst h hs => .lst (e _ _ h) (RpA.mono e hs)
  | .tup h hs => .tup (Same.tup e h) (RpA.mono e hs)
  | .drw h o => .drw h (o.mono e)
  | .dic0 h o => .dic0 (e _ _ h) (o.mono e)
  | .dct h q hs => .dct (e _ _ h) q (RpA.mono e hs)
  | .exc T hc hv he hd hn hl hs => .exc T hc hv (e _ _ he) (fun ne => match hd ne with | ⟨d, h1, h2⟩ => ⟨d, h1, e _ _ h2⟩) hn hl (RpA.mono e hs)
theorem RpA.mono (e : Same G G') {vs : List V} {ds : List D} : RpA K dr G vs ds → RpA K dr G' vs ds
  | .nil => .nil
  | .cons h hs => .cons (Rp.mono e h) (RpA.mono e hs)
end
theorem RpA.length : ∀ {vs : List V} {ds : List D}, RpA K dr G vs ds → vs.length = ds.length
  | _, _, .nil => rfl
  | _, _, .cons _ t => by rw [List.length_cons, List.length_cons, RpA.length t]
theorem RpA.append : ∀ {vs ws : List V} {ds es : List D}, RpA K dr G vs ds → RpA K dr G ws es → RpA K dr G (vs ++ ws) (ds ++ es)
  | _, _, _, _, .nil, s => s
  | _, _, _, _, .cons r t, s => .cons r (RpA.append t s)
theorem RpA.get : ∀ {vs : List V} {ds : List D} {i : Nat} {d : D}, RpA K dr G vs ds → ds[i]? = some d → ∃ v, vs[i]? = some v ∧ Rp K dr G v d
  | _, _, _, _, .nil, e => by simp at e
  | _, _, 0, _, .cons r _, e => by simp at e; subst e; exact ⟨_, rfl, r⟩
  | _, _, i + 1, d, .cons _ t, e => by
    obtain ⟨u, h1, h2⟩ := RpA.get (i := i) (d := d) t (by simpa using e)
    exact ⟨u, by simpa using h1, h2⟩
theorem RpA.take : ∀ {vs : List V} {ds : List D} (n : Nat), RpA K dr G vs ds → RpA K dr G (vs.take n) (ds.take n)
  | _, _, 0, _ => by simp; exact .nil
  | _, _, _ + 1, .nil => .nil
  | _, _, n + 1, .cons r t => .cons r (RpA.take n t)
theorem RpA.drop : ∀ {vs : List V} {ds : List D} (n : Nat), RpA K dr G vs ds → RpA K dr G (vs.drop n) (ds.drop n)
  | _, _, 0, r => r
  | _, _, _ + 1, .nil => .nil
  | _, _, n + 1, .cons _ t => RpA.drop n t
theorem RpA.dropLast {vs : List V} {ds : List D} (h : RpA K dr G vs ds) : RpA K dr G vs.dropLast ds.dropLast := by
  rw [List.dropLast_eq_take, List.dropLast_eq_take, h.length]
  exact h.take _
theorem RpA.set {v : V} {d : D} (r : Rp K dr G v d) : ∀ {vs : List V} {ds : List D} (i : Nat), RpA K dr G vs ds → RpA K dr G (vs.set i v) (ds.set i d)
  | _, _, _, .nil => .nil
  | _, _, 0, .cons _ t => .cons r t
  | _, _, i + 1, .cons q t => .cons q (RpA.set r i t)
theorem RpA.reverse : ∀ {vs : List V} {ds : List D}, RpA K dr G vs ds → RpA K dr G vs.reverse ds.reverse
  | _, _, .nil => .nil
  | _, _, .cons r t => by
    rw [List.reverse_cons, List.reverse_cons]
    exact (RpA.reverse t).append (.cons r .nil)
theorem RpA.ints : ∀ (xs : List Int), RpA K dr G (xs.map V.int) (xs.map D.int)
  | [] => .nil
  | x :: xs => .cons (.int x) (RpA.ints xs)
end

/-! ### the draws -/
structure DrwOk (ns : List Int) (at_ left used : Int) (n : Nat) : Prop where
  ne : 0 < ns.length
  le : ns.length ≤ 64
  a0 : 0 ≤ at_
  an : at_ ≤ n
  u0 : 0 ≤ used
  un : used ≤ n
def drwK (L : Addr) (at_ left used : Int) : List (Key × V) := [(Sum.inr "cells", .ref L), (Sum.inr "at", .int at_), (Sum.inr "left", .int left), (Sum.inr "used", .int used)]
structure DrwAt (G H : Hp) (a : Addr) (n : Nat) : Prop where
  free : G a = none
  ex : ∃ (L : Addr) (ns : List Int) (at_ left used : Int), H a = some (.dK (drwK L at_ left used)) ∧ G L = some (.lst (ns.map V.int)) ∧ DrwOk ns at_ left used n
def Drw (G H : Hp) (dr : Option Addr) (n : Nat) : Prop := ∀ a, dr = some a → DrwAt G H a n

/-! ### the state -/
inductive Sl where
  | emp | val (d : D) | own (ds : List D) | bor (ds : List D) | dic (ks : List Key) (ds : List D)
structure S where
  env : List Sl
  n : Nat
structure Sub (G H : Hp) : Prop where
  go : ∀ a o, G a = some o → H a = some o
  nt : ∀ a ps, G a ≠ some (.tbl ps)
instance {G H : Hp} : CoeFun (Sub G H) (fun _ => ∀ a o, G a = some o → H a = some o) := ⟨Sub.go⟩
instance {G H : Hp} : Coe (Sub G H) (Same G H) := ⟨Sub.go⟩
def NT (o : HO) : Prop := ∀ ps, o ≠ .tbl ps
def NC (o : HO) : Prop := ∀ c q, o ≠ LamX.CodeO c q
/-- no table of code objects, and none of those -/
def Soft (H : Hp) (p : Addr) : Prop := ∀ o, H p = some o → NT o ∧ NC o
theorem nt_lst {xs : List V} : NT (.lst xs) := fun ps z => by cases z
theorem nt_dK {xs : List (Key × V)} : NT (.dK xs) := fun ps z => by cases z
theorem nc_lst {xs : List V} : NC (.lst xs) := fun c q z => by
  unfold LamX.CodeO at z
  cases z
theorem nc_dK {xs : List (Key × V)} : NC (.dK xs) := fun c q z => by
  unfold LamX.CodeO at z
  cases z
theorem Soft.none {H : Hp} {p : Addr} (h : H p = none) : Soft H p := fun o e => by rw [h] at e; cases e
theorem Soft.lst {H : Hp} {p : Addr} {xs : List V} (h : H p = some (.lst xs)) : Soft H p := fun o e => by rw [h] at e; cases e; exact ⟨nt_lst, nc_lst⟩
theorem Soft.dK {H : Hp} {p : Addr} {xs : List (Key × V)} (h : H p = some (.dK xs)) : Soft H p := fun o e => by rw [h] at e; cases e; exact ⟨nt_dK, nc_dK⟩
/-- the name of the code objects that a table may hold -/
class Nm where
  nm : Addr → Str
variable [Nm]
/-- all but the draws' dict stands; tables of code objects stay such -/
structure Bse (dr : Option Addr) (H H' : Hp) : Prop where
  keep : ∀ a o, dr ≠ some a → H a = some o → NT o → H' a = some o
  tbl : ∀ a ps, H a = some (.tbl ps) → ∃ ps', H' a = some (.tbl ps')
  tab : ∀ P, LamX.TabS H P (Nm.nm P) → LamX.TabS H' P (Nm.nm P)
theorem Bse.refl {dr : Option Addr} {H : Hp} : Bse dr H H := ⟨fun _ _ _ h _ => h, fun _ ps h => ⟨ps, h⟩, fun _ h => h⟩
theorem Bse.trans {dr : Option Addr} {H H1 H2 : Hp} (a : Bse dr H H1) (b : Bse dr H1 H2) : Bse dr H H2 :=
  ⟨fun x o hd h n => b.keep x o hd (a.keep x o hd h n) n, fun x ps h => by obtain ⟨ps1, h1⟩ := a.tbl x ps h; exact b.tbl x ps1 h1, fun P h => b.tab P (a.tab P h)⟩
theorem Bse.there {dr : Option Addr} {H H' : Hp} (B : Bse dr H H') {a : Addr} {o : HO} (hd : dr ≠ some a) (h : H a = some o) : ∃ o', H' a = some o' := by
  by_cases t : ∃ ps, o = .tbl ps
  · obtain ⟨ps, rfl⟩ := t
    obtain ⟨ps', h'⟩ := B.tbl a ps h
    exact ⟨_, h'⟩
  · exact ⟨o, B.keep a o hd h fun ps z => t ⟨ps, z⟩⟩
theorem Bse.free {dr : Option Addr} {H H' : Hp} (B : Bse dr H H') {p : Addr} (hd : dr ≠ some p) (hp : H' p = none) : H p = none := by
  cases e : H p with
  | none => rfl
  | some o =>
    obtain ⟨o', h'⟩ := B.there hd e
    rw [hp] at h'
    cases h'
theorem Bse.upd {dr : Option Addr} {H0 H H' : Hp} {p : Addr} (B : Bse dr H0 H) (k : ∀ a, a ≠ p → H' a = H a) (sf : Soft H p) (h0 : H0 p = none ∨ dr = some p) : Bse dr H0 H' := by
  have nb : ∀ b ps, H b = some (.tbl ps) → b ≠ p := fun b ps h z => by
    subst z
    exact (sf _ h).1 ps rfl
  refine ⟨fun a o hd h n => ?_, fun a ps h => ?_, fun P h => ?_⟩
  · have ne : a ≠ p := fun z => by
      subst z
      rcases h0 with h0 | h0
      · rw [h0] at h; cases h
      · exact hd h0
    rw [k a ne]
    exact B.keep a o hd h n
  · obtain ⟨ps', h'⟩ := B.tbl a ps h
    exact ⟨ps', by rw [k a (nb a ps' h')]; exact h'⟩
  · obtain ⟨ps, h1, h2, h3⟩ := B.tab P h
    refine ⟨ps, by rw [k P (nb P ps h1)]; exact h1, h2, fun pos cv hc => ?_⟩
    obtain ⟨c, e1, e2⟩ := h3 pos cv hc
    exact ⟨c, e1, by rw [k c (fun z => by subst z; exact (sf _ e2).2 c _ rfl)]; exact e2⟩
/-- what is new was free -/
def New (H0 G0 G : Hp) : Prop := ∀ a, G0 a = none → H0 a ≠ none → G a = none

def SlR (K : PySem.W.Frag) (dr : Option Addr) (H0 H G : Hp) (v : Option (Option V)) : Sl → Prop
  | .emp => True
  | .val d => ∃ u, v = some (some u) ∧ Rp K dr G u d
  | .own ds => ∃ p xs, v = some (some (.ref p)) ∧ H p = some (.lst xs) ∧ G p = none ∧ dr ≠ some p ∧ H0 p = none ∧ RpA K dr G xs ds
  | .bor ds => ∃ p xs, v = some (some (.ref p)) ∧ H p = some (.lst xs) ∧ H0 p ≠ none ∧ RpA K dr G xs ds
  | .dic ks ds => ∃ p kvs, v = some (some (.ref p)) ∧ H p = some (.dK kvs) ∧ G p = none ∧ dr ≠ some p ∧ H0 p = none ∧ kvs.map (·.1) = ks ∧ RpA K dr G (kvs.map (·.2)) ds
structure Rs (K : PySem.W.Frag) (dr : Option Addr) (H0 G0 : Hp) (σ : St) (H G : Hp) (s : S) : Prop where
  sub : Sub G H
  base : Bse dr H0 H
  new : New H0 G0 G
  len : s.env.length = σ.length
  slot : ∀ (i : Nat) (x : Sl), s.env[i]? = some x → SlR K dr H0 H G σ[i]? x
  inj : ∀ (i j : Nat) (p : Addr) (ds es : List D), i ≠ j → s.env[i]? = some (.own ds) → s.env[j]? = some (.own es) → σ[i]? = some (some (.ref p)) → σ[j]? ≠ some (some (.ref p))
  injD : ∀ (i j : Nat) (p : Addr) (ks ls : List Key) (ds es : List D), i ≠ j → s.env[i]? = some (.dic ks ds) → s.env[j]? = some (.dic ls es) → σ[i]? = some (some (.ref p)) → σ[j]? ≠ some (some (.ref p))
  drw : Drw G H dr s.n
section
variable {K : PySem.W.Frag} {dr : Option Addr} {H0 G0 : Hp} {σ : St} {H G H' G' : Hp} {s : S}
theorem Drw.ne (h : Drw G H dr n) {p : Addr} (hp : H p = none) : dr ≠ some p := fun e => by
  obtain ⟨L, ns, a, l, u, e1, _⟩ := (h p e).ex
  rw [hp] at e1
  cases e1
theorem Sub.none (h : Sub G H) {p : Addr} (hp : H p = none) : G p = none := by
  cases e : G p with
  | none => rfl
  | some o =>
    rw [h p o e] at hp
    cases hp
theorem Same.upd {p : Addr} {o : HO} (h : H p = none) : Same H (upd H p o) := fun a u e => by
  rw [upd_ne (ne_of_none e h)]
  exact e
/-- a new object of both heaps -/
theorem nt_upd {G : Hp} {p : Addr} {o : HO} (h : ∀ a ps, G a ≠ some (.tbl ps)) (hn : NT o) : ∀ a ps, L2.upd G p o a ≠ some (.tbl ps) := fun a ps z => by
  by_cases e : a = p
  · subst e
    rw [upd_same] at z
    cases z
    exact hn ps rfl
  · rw [upd_ne e] at z
    exact h a ps z
theorem Rs.alloc {p : Addr} {o : HO} (R : Rs K dr H0 G0 σ H G s) (hp : H p = none) (hn : NT o := by first | exact nt_lst | exact nt_dK | (intro ps z; cases z) | (intro ps z; exact nomatch z)) : Rs K dr H0 G0 σ (upd H p o) (upd G p o) s := by
  have gp : G p = none := R.sub.none hp
  have dn : dr ≠ some p := R.drw.ne hp
  have kG : Same G (upd G p o) := Same.upd gp
  refine ⟨⟨fun a u e => ?_, nt_upd R.sub.nt hn⟩, ?_, fun a h1 h2 => ?_, R.len, fun i x hx => ?_, R.inj, R.injD, fun a ha => ?_⟩
  · by_cases h : a = p
    · subst h
      rw [upd_same] at e ⊢
      exact e
    · rw [upd_ne h] at e ⊢
      exact R.sub a u e
  · exact R.base.upd (fun a h => upd_ne h) (Soft.none hp) (.inl (R.base.free dn hp))
  · by_cases h : a = p
    · subst h
      exact absurd (R.base.free dn hp) h2
    · rw [upd_ne h]
      exact R.new a h1 h2
  · have q := R.slot i x hx
    cases x with
    | emp => trivial
    | val d =>
      obtain ⟨u, e, r⟩ := q
      exact ⟨u, e, r.mono kG⟩
    | own ds =>
      obtain ⟨q1, xs, e, h1, h2, h3, h4, r⟩ := q
      have ne : q1 ≠ p := ne_of_none h1 hp
      exact ⟨q1, xs, e, by rw [upd_ne ne]; exact h1, by rw [upd_ne ne]; exact h2, h3, h4, r.mono kG⟩
    | bor ds =>
      obtain ⟨q1, xs, e, h1, h2, r⟩ := q
      exact ⟨q1, xs, e, by rw [upd_ne (ne_of_none h1 hp)]; exact h1, h2, r.mono kG⟩
    | dic ks ds =>
      obtain ⟨q1, xs, e, h1, h2, h3, h4, h5, r⟩ := q
      have ne : q1 ≠ p := ne_of_none h1 hp
      exact ⟨q1, xs, e, by rw [upd_ne ne]; exact h1, by rw [upd_ne ne]; exact h2, h3, h4, h5, r.mono kG⟩
  · obtain ⟨f, L, ns, x, l, u, e1, e2, k⟩ := R.drw a ha
    have ne : a ≠ p := fun z => dn (by rw [ha, z])
    exact ⟨by rw [upd_ne ne]; exact f, L, ns, x, l, u, by rw [upd_ne ne]; exact e1, kG L _ e2, k⟩
end
section
variable {K : PySem.W.Frag} {dr : Option Addr} {G : Hp} {p : Addr} {ps : Array Value}
theorem off_tbl {a : Addr} {o : HO} (h : L2.upd G p (.tbl ps) a = some o) (hn : NT o) : G a = some o := by
  by_cases e : a = p
  · subst e
    rw [upd_same] at h
    cases h
    exact absurd rfl (hn ps)
  · rwa [upd_ne e] at h
theorem One.off (o : One K (L2.upd G p (.tbl ps))) : One K G := by
  obtain ⟨ob, h, q⟩ := o
  exact ⟨ob, h, q.imp (fun z => off_tbl z fun _ z => nomatch z) id⟩
theorem SqT.off {a : Addr} {xs : List V} (h : SqT K (L2.upd G p (.tbl ps)) a xs) : SqT K G a xs := by
  rcases h with (h | ⟨o, h⟩) | h
  · exact .inl (.inl (off_tbl h fun _ z => nomatch z))
  · exact .inl (.inr ⟨o, off_tbl h fun _ z => nomatch z⟩)
  · exact .inr h
mutual
theorem Rp.off {v : V} {d : D} : Rp K dr (L2.upd G p (.tbl ps)) v d → Rp K dr G v d
  | .non => .non
  | .bl b => .bl b
  | .int i => .int i
  | .str x => .str x
  | .lst h hs => .lst (off_tbl h fun _ z => nomatch z) (RpA.off hs)
  | .tup h hs => .tup (SqT.off h) (RpA.off hs)
  | .drw h o => .drw h o.off
  | .dic0 h o => .dic0 (off_tbl h fun _ z => nomatch z) o.off
  | .dct h e hs => .dct (off_tbl h fun _ z => nomatch z) e (RpA.off hs)
  | .exc T hc hv h1 h2 h3 hl hs => .exc T hc hv (off_tbl h1 fun _ z => nomatch z) (fun ne => by
      obtain ⟨d, e1, e2⟩ := h2 ne
      exact ⟨d, e1, off_tbl e2 fun _ z => nomatch z⟩) h3 hl (RpA.off hs)
theorem RpA.off {vs : List V} {ds : List D} : RpA K dr (L2.upd G p (.tbl ps)) vs ds → RpA K dr G vs ds
  | .nil => .nil
  | .cons r t => .cons (Rp.off r) (RpA.off t)
end
end
section
variable {K : PySem.W.Frag} {dr : Option Addr} {H0 G0 : Hp} {σ : St} {H G H' G' : Hp} {s : S}
/-- a new object of the heap alone -/
theorem Rs.allocH {p : Addr} {o : HO} (R : Rs K dr H0 G0 σ H G s) (hp : H p = none) : Rs K dr H0 G0 σ (L2.upd H p o) G s := by
  have dn : dr ≠ some p := R.drw.ne hp
  refine ⟨⟨fun a u e => ?_, R.sub.nt⟩, R.base.upd (fun a h => upd_ne h) (Soft.none hp) (.inl (R.base.free dn hp)), R.new, R.len, fun i x hx => ?_, R.inj, R.injD, fun a ha => ?_⟩
  · rw [upd_ne (ne_of_none (R.sub a u e) hp)]
    exact R.sub a u e
  · have q := R.slot i x hx
    cases x with
    | emp => trivial
    | val d => exact q
    | own ds =>
      obtain ⟨q1, xs, e, h1, h2⟩ := q
      exact ⟨q1, xs, e, by rw [upd_ne (ne_of_none h1 hp)]; exact h1, h2⟩
    | bor ds =>
      obtain ⟨q1, xs, e, h1, h2⟩ := q
      exact ⟨q1, xs, e, by rw [upd_ne (ne_of_none h1 hp)]; exact h1, h2⟩
    | dic ks ds =>
      obtain ⟨q1, xs, e, h1, h2⟩ := q
      exact ⟨q1, xs, e, by rw [upd_ne (ne_of_none h1 hp)]; exact h1, h2⟩
  · obtain ⟨f, L, ns, x, l, u, e1, e2, k⟩ := R.drw a ha
    exact ⟨f, L, ns, x, l, u, by rw [upd_ne (ne_of_none e1 hp)]; exact e1, e2, k⟩
/-- a new object, whatever it is -/
theorem Rs.fresh {p : Addr} {o : HO} (R : Rs K dr H0 G0 σ H G s) (hp : H p = none) : ∃ G', Same G G' ∧ Rs K dr H0 G0 σ (L2.upd H p o) G' s ∧ (∀ a, a ≠ p → G' a = G a) ∧ ∀ v d, Rp K dr (L2.upd G p o) v d → Rp K dr G' v d := by
  by_cases t : ∃ ps, o = .tbl ps
  · obtain ⟨ps, rfl⟩ := t
    exact ⟨G, Same.refl G, R.allocH hp, fun _ _ => rfl, fun v d r => r.off⟩
  · exact ⟨_, Same.upd (R.sub.none hp), R.alloc hp (fun ps z => t ⟨ps, z⟩), fun a h => upd_ne h, fun v d r => r⟩
end
section
variable {K : PySem.W.Frag} {dr : Option Addr} {H0 G0 : Hp} {σ : St} {H G H' G' : Hp} {s : S}
/-- a slot stored -/
theorem Rs.set {i : Nat} {v : V} {d : D} (R : Rs K dr H0 G0 σ H G s) (hi : i < σ.length) (r : Rp K dr G v d) : Rs K dr H0 G0 (σ.set i (some v)) H G { s with env := s.env.set i (.val d) } := by
  refine ⟨R.sub, R.base, R.new, by simp [R.len], fun j x hx => ?_, fun j k p ds es hjk e1 e2 e3 => ?_, fun j k p ks ls ds es hjk e1 e2 e3 => ?_, R.drw⟩
  · by_cases h : i = j
    · subst h
      rw [List.getElem?_set_self (by rw [R.len]; exact hi)] at hx
      cases hx
      exact ⟨v, by rw [List.getElem?_set_self hi], r⟩
    · rw [List.getElem?_set_ne h] at hx ⊢
      exact R.slot j x hx
  · have nj : i ≠ j := fun z => by
      subst z
      rw [List.getElem?_set_self (by rw [R.len]; exact hi)] at e1
      cases e1
    have nk : i ≠ k := fun z => by
      subst z
      rw [List.getElem?_set_self (by rw [R.len]; exact hi)] at e2
      cases e2
    rw [List.getElem?_set_ne nj] at e1 e3
    rw [List.getElem?_set_ne nk] at e2 ⊢
    exact R.inj j k p ds es hjk e1 e2 e3
  · have nj : i ≠ j := fun z => by
      subst z
      rw [List.getElem?_set_self (by rw [R.len]; exact hi)] at e1
      cases e1
    have nk : i ≠ k := fun z => by
      subst z
      rw [List.getElem?_set_self (by rw [R.len]; exact hi)] at e2
      cases e2
    rw [List.getElem?_set_ne nj] at e1 e3
    rw [List.getElem?_set_ne nk] at e2 ⊢
    exact R.injD j k p ks ls ds es hjk e1 e2 e3
/-- a new list comes to be a slot's own: ahead of its tracking in G -/
theorem Rs.setOwn {i : Nat} {p : Addr} {xs : List V} {ds : List D} (R : Rs K dr H0 G0 σ H G s) (hi : i < σ.length) (hp : H p = none) (r : RpA K dr G xs ds) :
    Rs K dr H0 G0 (σ.set i (some (.ref p))) (L2.upd H p (.lst xs)) G { s with env := s.env.set i (.own ds) } := by
  have gp : G p = none := R.sub.none hp
  have dn : dr ≠ some p := R.drw.ne hp
  have h0p : H0 p = none := R.base.free dn hp
  have fr : ∀ j es, i ≠ j → s.env[j]? = some (.own es) → σ[j]? ≠ some (some (.ref p)) := fun j es hj e z => by
    obtain ⟨q, ys, e1, h1, _⟩ := R.slot j _ e
    rw [z] at e1
    cases e1
    rw [hp] at h1
    cases h1
  refine ⟨⟨fun a u e => ?_, R.sub.nt⟩, ?_, R.new, by simp [R.len], fun j x hx => ?_, fun j k q es fs hjk e1 e2 e3 => ?_, fun j k q ks ls es fs hjk e1 e2 e3 => ?_, fun a ha => ?_⟩
  · rw [upd_ne (ne_of_none (R.sub a u e) hp)]
    exact R.sub a u e
  · exact R.base.upd (fun a h => upd_ne h) (Soft.none hp) (.inl (R.base.free dn hp))
  · by_cases h : i = j
    · subst h
      rw [List.getElem?_set_self (by rw [R.len]; exact hi)] at hx
      cases hx
      exact ⟨p, xs, by rw [List.getElem?_set_self hi], upd_same, gp, dn, h0p, r⟩
    · rw [List.getElem?_set_ne h] at hx ⊢
      have q := R.slot j x hx
      cases x with
      | emp => trivial
      | val d => exact q
      | own es =>
        obtain ⟨q1, ys, e, h1, h2, h3, h4, r⟩ := q
        exact ⟨q1, ys, e, by rw [upd_ne (ne_of_none h1 hp)]; exact h1, h2, h3, h4, r⟩
      | bor es =>
        obtain ⟨q1, ys, e, h1, h2, r⟩ := q
        exact ⟨q1, ys, e, by rw [upd_ne (ne_of_none h1 hp)]; exact h1, h2, r⟩
      | dic ks es =>
        obtain ⟨q1, ys, e, h1, h2, h3, h4, h5, r⟩ := q
        exact ⟨q1, ys, e, by rw [upd_ne (ne_of_none h1 hp)]; exact h1, h2, h3, h4, h5, r⟩
  · by_cases h : i = j
    · subst h
      rw [List.getElem?_set_self hi] at e3
      cases e3
      rw [List.getElem?_set_ne hjk] at e2 ⊢
      exact fr k _ hjk e2
    · rw [List.getElem?_set_ne h] at e1 e3
      by_cases h' : i = k
      · subst h'
        rw [List.getElem?_set_self hi]
        intro z
        cases z
        exact fr j _ h e1 e3
      · rw [List.getElem?_set_ne h'] at e2 ⊢
        exact R.inj j k q es fs hjk e1 e2 e3
  · have nj : i ≠ j := fun z => by
      subst z
      rw [List.getElem?_set_self (by rw [R.len]; exact hi)] at e1
      cases e1
    have nk : i ≠ k := fun z => by
      subst z
      rw [List.getElem?_set_self (by rw [R.len]; exact hi)] at e2
      cases e2
    rw [List.getElem?_set_ne nj] at e1 e3
    rw [List.getElem?_set_ne nk] at e2 ⊢
    exact R.injD j k q ks ls es fs hjk e1 e2 e3
  · obtain ⟨f, L, ns, x, l, u, e1, e2, k⟩ := R.drw a ha
    exact ⟨f, L, ns, x, l, u, by rw [upd_ne (ne_of_none e1 hp)]; exact e1, e2, k⟩
/-- a slot's own list is written -/
theorem Rs.write {i : Nat} {p : Addr} {ys : List V} {ds es : List D} (R : Rs K dr H0 G0 σ H G s) (hx : s.env[i]? = some (.own ds)) (hv : σ[i]? = some (some (.ref p))) (r : RpA K dr G ys es) :
    Rs K dr H0 G0 σ (L2.upd H p (.lst ys)) G { s with env := s.env.set i (.own es) } := by
  obtain ⟨p', xs, e1, h1, h2, h3, h4, r0⟩ := R.slot i _ hx
  rw [hv] at e1
  cases e1
  have hi : i < σ.length := by
    have := (List.getElem?_eq_some_iff.mp hx).1
    rw [R.len] at this
    exact this
  have hie : i < s.env.length := by rw [R.len]; exact hi
  refine ⟨⟨fun a u e => ?_, R.sub.nt⟩, ?_, R.new, by simp [R.len], fun j x hx' => ?_, fun j k q es' fs hjk e1 e2 e3 => ?_, fun j k q ks ls es' fs hjk e1 e2 e3 => ?_, fun a ha => ?_⟩
  · have ne : a ≠ p := fun z => by
      subst z
      rw [h2] at e
      cases e
    rw [upd_ne ne]
    exact R.sub a u e
  · exact R.base.upd (fun a h => upd_ne h) (Soft.lst h1) (.inl h4)
  · by_cases h : i = j
    · subst h
      rw [List.getElem?_set_self hie] at hx'
      cases hx'
      exact ⟨p, ys, hv, upd_same, h2, h3, h4, r⟩
    · rw [List.getElem?_set_ne h] at hx'
      have q := R.slot j x hx'
      cases x with
      | emp => trivial
      | val d => exact q
      | own fs =>
        obtain ⟨q1, zs, e, g1, g2, g3, g4, r'⟩ := q
        have ne : q1 ≠ p := fun z => by
          subst z
          exact R.inj i j q1 ds fs h hx hx' hv e
        exact ⟨q1, zs, e, by rw [upd_ne ne]; exact g1, g2, g3, g4, r'⟩
      | bor fs =>
        obtain ⟨q1, zs, e, g1, g2, r'⟩ := q
        have ne : q1 ≠ p := fun z => g2 (by rw [z]; exact h4)
        exact ⟨q1, zs, e, by rw [upd_ne ne]; exact g1, g2, r'⟩
      | dic ks fs =>
        obtain ⟨q1, zs, e, g1, g2, g3, g4, g5, r'⟩ := q
        have ne : q1 ≠ p := fun z => by
          rw [z, h1] at g1
          cases g1
        exact ⟨q1, zs, e, by rw [upd_ne ne]; exact g1, g2, g3, g4, g5, r'⟩
  · have back : ∀ {k : Nat} {fs : List D}, (s.env.set i (.own es))[k]? = some (.own fs) → ∃ gs, s.env[k]? = some (.own gs) := fun {k fs} e => by
      by_cases h : i = k
      · subst h
        exact ⟨ds, hx⟩
      · rw [List.getElem?_set_ne h] at e
        exact ⟨fs, e⟩
    obtain ⟨g1, e1'⟩ := back e1
    obtain ⟨g2, e2'⟩ := back e2
    exact R.inj j k q g1 g2 hjk e1' e2' e3
  · have nj : i ≠ j := fun z => by
      subst z
      rw [List.getElem?_set_self hie] at e1
      cases e1
    have nk : i ≠ k := fun z => by
      subst z
      rw [List.getElem?_set_self hie] at e2
      cases e2
    rw [List.getElem?_set_ne nj] at e1
    rw [List.getElem?_set_ne nk] at e2
    exact R.injD j k q ks ls es' fs hjk e1 e2 e3
  · obtain ⟨f, L, ns, x, l, u, e1, e2, k⟩ := R.drw a ha
    have ne : a ≠ p := fun z => h3 (by rw [ha, z])
    exact ⟨f, L, ns, x, l, u, by rw [upd_ne ne]; exact e1, e2, k⟩
/-- a slot's own list becomes plain data -/
theorem Rs.freeze {i : Nat} {ds : List D} (R : Rs K dr H0 G0 σ H G s) (hx : s.env[i]? = some (.own ds)) :
    ∃ (p : Addr) (xs : List V), σ[i]? = some (some (.ref p)) ∧ H p = some (.lst xs) ∧ G p = none ∧ RpA K dr G xs ds ∧ Rs K dr H0 G0 σ H (L2.upd G p (.lst xs)) { s with env := s.env.set i (.val (.lst ds)) } := by
  obtain ⟨p, xs, e1, h1, h2, h3, h4, r⟩ := R.slot i _ hx
  have kG : Same G (L2.upd G p (.lst xs)) := Same.upd h2
  have hi : i < s.env.length := (List.getElem?_eq_some_iff.mp hx).1
  refine ⟨p, xs, e1, h1, h2, r, ⟨fun a u e => ?_, nt_upd R.sub.nt nt_lst⟩, R.base, fun a z1 z2 => ?_, by simp [R.len], fun j x hx' => ?_, fun j k q es fs hjk e1' e2 e3 => ?_, fun j k q ks ls es fs hjk e1' e2 e3 => ?_, fun a ha => ?_⟩
  · by_cases h : a = p
    · subst h
      rw [upd_same] at e
      cases e
      exact h1
    · rw [upd_ne h] at e
      exact R.sub a u e
  · have ne : a ≠ p := fun z => z2 (by rw [z]; exact h4)
    rw [upd_ne ne]
    exact R.new a z1 z2
  · by_cases h : i = j
    · subst h
      rw [List.getElem?_set_self hi] at hx'
      cases hx'
      exact ⟨.ref p, e1, .lst upd_same (r.mono kG)⟩
    · rw [List.getElem?_set_ne h] at hx'
      have q := R.slot j x hx'
      cases x with
      | emp => trivial
      | val d =>
        obtain ⟨u, e, r'⟩ := q
        exact ⟨u, e, r'.mono kG⟩
      | own fs =>
        obtain ⟨q1, zs, e, g1, g2, g3, g4, r'⟩ := q
        have ne : q1 ≠ p := fun z => by
          subst z
          exact R.inj i j q1 ds fs h hx hx' e1 e
        exact ⟨q1, zs, e, g1, by rw [upd_ne ne]; exact g2, g3, g4, r'.mono kG⟩
      | bor fs =>
        obtain ⟨q1, zs, e, g1, g2, r'⟩ := q
        exact ⟨q1, zs, e, g1, g2, r'.mono kG⟩
      | dic ks fs =>
        obtain ⟨q1, zs, e, g1, g2, g3, g4, g5, r'⟩ := q
        have ne : q1 ≠ p := fun z => by
          rw [z, h1] at g1
          cases g1
        exact ⟨q1, zs, e, g1, by rw [upd_ne ne]; exact g2, g3, g4, g5, r'.mono kG⟩
  · have back : ∀ {k : Nat} {fs : List D}, (s.env.set i (.val (.lst ds)))[k]? = some (.own fs) → s.env[k]? = some (.own fs) := fun {k fs} e => by
      by_cases h : i = k
      · subst h
        rw [List.getElem?_set_self hi] at e
        cases e
      · rw [List.getElem?_set_ne h] at e
        exact e
    exact R.inj j k q es fs hjk (back e1') (back e2) e3
  · have nj : i ≠ j := fun z => by
      subst z
      rw [List.getElem?_set_self hi] at e1'
      cases e1'
    have nk : i ≠ k := fun z => by
      subst z
      rw [List.getElem?_set_self hi] at e2
      cases e2
    rw [List.getElem?_set_ne nj] at e1'
    rw [List.getElem?_set_ne nk] at e2
    exact R.injD j k q ks ls es fs hjk e1' e2 e3
  · obtain ⟨f, L, ns, x, l, u, z1, z2, k⟩ := R.drw a ha
    have ne : a ≠ p := fun z => h3 (by rw [ha, z])
    exact ⟨by rw [upd_ne ne]; exact f, L, ns, x, l, u, z1, kG L _ z2, k⟩
end

section
variable {K : PySem.W.Frag} {dr : Option Addr} {H0 G0 : Hp} {σ : St} {H G H' G' : Hp} {s : S}
/-- an object of a slot's own is replaced in both heaps, the slot is no dict any more -/
theorem Rs.freezeD {i : Nat} {ks : List Key} {ds : List D} (R : Rs K dr H0 G0 σ H G s) (hx : s.env[i]? = some (.dic ks ds)) :
    ∃ (p : Addr) (kvs : List (Key × V)), σ[i]? = some (some (.ref p)) ∧ H p = some (.dK kvs) ∧ G p = none ∧ kvs.map (·.1) = ks ∧ RpA K dr G (kvs.map (·.2)) ds ∧
      ∀ od, Rs K dr H0 G0 σ (L2.upd H p (.frz od (.dK kvs))) (L2.upd G p (.frz od (.dK kvs))) { s with env := s.env.set i (.val (.dct ks ds)) } := by
  obtain ⟨p, kvs, e1, h1, h2, h3, h4, h5, r⟩ := R.slot i _ hx
  have hi : i < s.env.length := (List.getElem?_eq_some_iff.mp hx).1
  refine ⟨p, kvs, e1, h1, h2, h5, r, fun od => ?_⟩
  have kG : Same G (L2.upd G p (.frz od (.dK kvs))) := Same.upd h2
  refine ⟨⟨fun a u e => ?_, nt_upd R.sub.nt (fun ps z => nomatch z)⟩, ?_, fun a z1 z2 => ?_, by simp [R.len], fun j x hx' => ?_, fun j k q es fs hjk e1' e2 e3 => ?_, fun j k q ks' ls es fs hjk e1' e2 e3 => ?_, fun a ha => ?_⟩
  · by_cases h : a = p
    · subst h
      rw [upd_same] at e ⊢
      exact e
    · rw [upd_ne h] at e ⊢
      exact R.sub a u e
  · exact R.base.upd (fun a h => upd_ne h) (Soft.dK h1) (.inl h4)
  · have ne : a ≠ p := fun z => z2 (by rw [z]; exact h4)
    rw [upd_ne ne]
    exact R.new a z1 z2
  · by_cases h : i = j
    · subst h
      rw [List.getElem?_set_self hi] at hx'
      cases hx'
      exact ⟨.ref p, e1, .dct upd_same h5 (r.mono kG)⟩
    · rw [List.getElem?_set_ne h] at hx'
      have q := R.slot j x hx'
      cases x with
      | emp => trivial
      | val d =>
        obtain ⟨u, e, r'⟩ := q
        exact ⟨u, e, r'.mono kG⟩
      | own fs =>
        obtain ⟨q1, zs, e, g1, g2, g3, g4, r'⟩ := q
        have ne : q1 ≠ p := fun z => by
          rw [z, h1] at g1
          cases g1
        exact ⟨q1, zs, e, by rw [upd_ne ne]; exact g1, by rw [upd_ne ne]; exact g2, g3, g4, r'.mono kG⟩
      | bor fs =>
        obtain ⟨q1, zs, e, g1, g2, r'⟩ := q
        have ne : q1 ≠ p := fun z => by
          rw [z, h1] at g1
          cases g1
        exact ⟨q1, zs, e, by rw [upd_ne ne]; exact g1, g2, r'.mono kG⟩
      | dic ks' fs =>
        obtain ⟨q1, zs, e, g1, g2, g3, g4, g5, r'⟩ := q
        have ne : q1 ≠ p := fun z => by
          subst z
          exact R.injD i j q1 ks ks' ds fs h hx hx' e1 e
        exact ⟨q1, zs, e, by rw [upd_ne ne]; exact g1, by rw [upd_ne ne]; exact g2, g3, g4, g5, r'.mono kG⟩
  · have nj : i ≠ j := fun z => by
      subst z
      rw [List.getElem?_set_self hi] at e1'
      cases e1'
    have nk : i ≠ k := fun z => by
      subst z
      rw [List.getElem?_set_self hi] at e2
      cases e2
    rw [List.getElem?_set_ne nj] at e1'
    rw [List.getElem?_set_ne nk] at e2
    exact R.inj j k q es fs hjk e1' e2 e3
  · have nj : i ≠ j := fun z => by
      subst z
      rw [List.getElem?_set_self hi] at e1'
      cases e1'
    have nk : i ≠ k := fun z => by
      subst z
      rw [List.getElem?_set_self hi] at e2
      cases e2
    rw [List.getElem?_set_ne nj] at e1'
    rw [List.getElem?_set_ne nk] at e2
    exact R.injD j k q ks' ls es fs hjk e1' e2 e3
  · obtain ⟨f, L, ns, x, l, u, z1, z2, z3⟩ := R.drw a ha
    have ne : a ≠ p := fun z => h3 (by rw [ha, z])
    exact ⟨by rw [upd_ne ne]; exact f, L, ns, x, l, u, by rw [upd_ne ne]; exact z1, kG L _ z2, z3⟩
/-- a slot's own dict is written -/
theorem Rs.writeD {i : Nat} {p : Addr} {kvs : List (Key × V)} {ks ls : List Key} {ds es : List D} (R : Rs K dr H0 G0 σ H G s) (hx : s.env[i]? = some (.dic ks ds)) (hv : σ[i]? = some (some (.ref p))) (he : kvs.map (·.1) = ls) (r : RpA K dr G (kvs.map (·.2)) es) :
    Rs K dr H0 G0 σ (L2.upd H p (.dK kvs)) G { s with env := s.env.set i (.dic ls es) } := by
  obtain ⟨p', kvs0, e1, h1, h2, h3, h4, h5, r0⟩ := R.slot i _ hx
  rw [hv] at e1
  cases e1
  have hie : i < s.env.length := (List.getElem?_eq_some_iff.mp hx).1
  refine ⟨⟨fun a u e => ?_, R.sub.nt⟩, ?_, R.new, by simp [R.len], fun j x hx' => ?_, fun j k q es' fs hjk e1 e2 e3 => ?_, fun j k q ks' ls' es' fs hjk e1 e2 e3 => ?_, fun a ha => ?_⟩
  · have ne : a ≠ p := fun z => by
      subst z
      rw [h2] at e
      cases e
    rw [upd_ne ne]
    exact R.sub a u e
  · exact R.base.upd (fun a h => upd_ne h) (Soft.dK h1) (.inl h4)
  · by_cases h : i = j
    · subst h
      rw [List.getElem?_set_self hie] at hx'
      cases hx'
      exact ⟨p, kvs, hv, upd_same, h2, h3, h4, he, r⟩
    · rw [List.getElem?_set_ne h] at hx'
      have q := R.slot j x hx'
      cases x with
      | emp => trivial
      | val d => exact q
      | own fs =>
        obtain ⟨q1, zs, e, g1, g2, g3, g4, r'⟩ := q
        have ne : q1 ≠ p := fun z => by
          rw [z, h1] at g1
          cases g1
        exact ⟨q1, zs, e, by rw [upd_ne ne]; exact g1, g2, g3, g4, r'⟩
      | bor fs =>
        obtain ⟨q1, zs, e, g1, g2, r'⟩ := q
        have ne : q1 ≠ p := fun z => by
          rw [z, h1] at g1
          cases g1
        exact ⟨q1, zs, e, by rw [upd_ne ne]; exact g1, g2, r'⟩
      | dic ks' fs =>
        obtain ⟨q1, zs, e, g1, g2, g3, g4, g5, r'⟩ := q
        have ne : q1 ≠ p := fun z => by
          subst z
          exact R.injD i j q1 ks ks' ds fs h hx hx' hv e
        exact ⟨q1, zs, e, by rw [upd_ne ne]; exact g1, g2, g3, g4, g5, r'⟩
  · have nj : i ≠ j := fun z => by
      subst z
      rw [List.getElem?_set_self hie] at e1
      cases e1
    have nk : i ≠ k := fun z => by
      subst z
      rw [List.getElem?_set_self hie] at e2
      cases e2
    rw [List.getElem?_set_ne nj] at e1
    rw [List.getElem?_set_ne nk] at e2
    exact R.inj j k q es' fs hjk e1 e2 e3
  · have back : ∀ {k : Nat} {ms : List Key} {fs : List D}, (s.env.set i (.dic ls es))[k]? = some (.dic ms fs) → ∃ ms gs, s.env[k]? = some (.dic ms gs) := fun {k ms fs} e => by
      by_cases h : i = k
      · subst h
        exact ⟨ks, ds, hx⟩
      · rw [List.getElem?_set_ne h] at e
        exact ⟨ms, fs, e⟩
    obtain ⟨m1, g1, e1'⟩ := back e1
    obtain ⟨m2, g2, e2'⟩ := back e2
    exact R.injD j k q m1 m2 g1 g2 hjk e1' e2' e3
  · obtain ⟨f, L, ns, x, l, u, e1, e2, k⟩ := R.drw a ha
    have ne : a ≠ p := fun z => h3 (by rw [ha, z])
    exact ⟨f, L, ns, x, l, u, by rw [upd_ne ne]; exact e1, e2, k⟩
/-- a new dict comes to be a slot's own -/
theorem Rs.setDic {i : Nat} {p : Addr} {kvs : List (Key × V)} {ks : List Key} {ds : List D} (R : Rs K dr H0 G0 σ H G s) (hi : i < σ.length) (hp : H p = none) (he : kvs.map (·.1) = ks) (r : RpA K dr G (kvs.map (·.2)) ds) :
    Rs K dr H0 G0 (σ.set i (some (.ref p))) (L2.upd H p (.dK kvs)) G { s with env := s.env.set i (.dic ks ds) } := by
  have gp : G p = none := R.sub.none hp
  have dn : dr ≠ some p := R.drw.ne hp
  have hie : i < s.env.length := by rw [R.len]; exact hi
  have h0p : H0 p = none := R.base.free dn hp
  have fr : ∀ j ms es, i ≠ j → s.env[j]? = some (.dic ms es) → σ[j]? ≠ some (some (.ref p)) := fun j ms es hj e z => by
    obtain ⟨q, ys, e1, h1, _⟩ := R.slot j _ e
    rw [z] at e1
    cases e1
    rw [hp] at h1
    cases h1
  refine ⟨⟨fun a u e => ?_, R.sub.nt⟩, ?_, R.new, by simp [R.len], fun j x hx => ?_, fun j k q es fs hjk e1 e2 e3 => ?_, fun j k q ms ls es fs hjk e1 e2 e3 => ?_, fun a ha => ?_⟩
  · rw [upd_ne (ne_of_none (R.sub a u e) hp)]
    exact R.sub a u e
  · exact R.base.upd (fun a h => upd_ne h) (Soft.none hp) (.inl (R.base.free dn hp))
  · by_cases h : i = j
    · subst h
      rw [List.getElem?_set_self hie] at hx
      cases hx
      exact ⟨p, kvs, by rw [List.getElem?_set_self hi], upd_same, gp, dn, h0p, he, r⟩
    · rw [List.getElem?_set_ne h] at hx ⊢
      have q := R.slot j x hx
      cases x with
      | emp => trivial
      | val d => exact q
      | own es =>
        obtain ⟨q1, ys, e, h1, h2, h3, h4, r⟩ := q
        exact ⟨q1, ys, e, by rw [upd_ne (ne_of_none h1 hp)]; exact h1, h2, h3, h4, r⟩
      | bor es =>
        obtain ⟨q1, ys, e, h1, h2, r⟩ := q
        exact ⟨q1, ys, e, by rw [upd_ne (ne_of_none h1 hp)]; exact h1, h2, r⟩
      | dic ms es =>
        obtain ⟨q1, ys, e, h1, h2, h3, h4, h5, r⟩ := q
        exact ⟨q1, ys, e, by rw [upd_ne (ne_of_none h1 hp)]; exact h1, h2, h3, h4, h5, r⟩
  · have nj : i ≠ j := fun z => by
      subst z
      rw [List.getElem?_set_self hie] at e1
      cases e1
    have nk : i ≠ k := fun z => by
      subst z
      rw [List.getElem?_set_self hie] at e2
      cases e2
    rw [List.getElem?_set_ne nj] at e1 e3
    rw [List.getElem?_set_ne nk] at e2 ⊢
    exact R.inj j k q es fs hjk e1 e2 e3
  · by_cases h : i = j
    · subst h
      rw [List.getElem?_set_self hi] at e3
      cases e3
      rw [List.getElem?_set_ne hjk] at e2 ⊢
      exact fr k _ _ hjk e2
    · rw [List.getElem?_set_ne h] at e1 e3
      by_cases h' : i = k
      · subst h'
        rw [List.getElem?_set_self hi]
        intro z
        cases z
        exact fr j _ _ h e1 e3
      · rw [List.getElem?_set_ne h'] at e2 ⊢
        exact R.injD j k q ms ls es fs hjk e1 e2 e3
  · obtain ⟨f, L, ns, x, l, u, e1, e2, k⟩ := R.drw a ha
    exact ⟨f, L, ns, x, l, u, by rw [upd_ne (ne_of_none e1 hp)]; exact e1, e2, k⟩
end

/-! ### readings by data -/
structure W where
  f : S → (D → S → Prop) → Prop
  mono : ∀ s P P', (∀ d s', P d s' → P' d s') → f s P → f s P'
structure WT where
  f : S → (Bool → S → Prop) → Prop
  mono : ∀ s P P', (∀ d s', P d s' → P' d s') → f s P → f s P'
structure WA where
  f : S → (List D → S → Prop) → Prop
  mono : ∀ s P P', (∀ d s', P d s' → P' d s') → f s P → f s P'
/-- where a proof stands: K, the draws, the heaps at the entry -/
structure Pl where
  K : PySem.W.Frag
  dr : Option Addr
  H0 : Hp
  G0 : Hp
abbrev Pl.Rs (p : Pl) (σ : St) (H G : Hp) (s : S) : Prop := DI.Rs p.K p.dr p.H0 p.G0 σ H G s
abbrev Pl.Rp (p : Pl) (G : Hp) (v : V) (d : D) : Prop := DI.Rp p.K p.dr G v d
abbrev Pl.RpA (p : Pl) (G : Hp) (v : List V) (d : List D) : Prop := DI.RpA p.K p.dr G v d
def lift (p : Pl) (w : W) : TE := fun σ H Q => ∃ G s, p.Rs σ H G s ∧ w.f s fun d s' => ∀ v H' G', Same G G' → p.Rs σ H' G' s' → p.Rp G' v d → Q v H'
def liftT (p : Pl) (w : WT) : TT := fun σ H Q => ∃ G s, p.Rs σ H G s ∧ w.f s fun b s' => ∀ H' G', Same G G' → p.Rs σ H' G' s' → Q b H'
theorem PE.imp {X : Cx} {e : Expr} {t t' : TE} (h : PE X e t) (i : ∀ σ H Q, t' σ H Q → t σ H Q) : PE X e t' := ⟨fun pins s σ H Q I q => h.run pins s σ H Q I (i σ H Q q)⟩
theorem PT.imp {X : Cx} {e : Expr} {t t' : TT} (h : PT X e t) (i : ∀ σ H Q, t' σ H Q → t σ H Q) : PT X e t' := ⟨fun pins s σ H Q I q => h.run pins s σ H Q I (i σ H Q q)⟩
theorem PA.imp {X : Cx} {e : List Expr} {t t' : TA} (h : PA X e t) (i : ∀ σ H Q, t' σ H Q → t σ H Q) : PA X e t' := ⟨fun pos pins s σ H Q I q => h.run pos pins s σ H Q I (i σ H Q q)⟩
theorem PS.imp {X : Cx} {e : Stmt} {t t' : TS} (h : PS X e t) (i : ∀ D σ H, t' D σ H → t D σ H) : PS X e t' := ⟨fun pins s σ H Q I q => h.run pins s σ H Q I (i Q σ H q)⟩
theorem PSs.imp {X : Cx} {e : List Stmt} {t t' : TS} (h : PSs X e t) (i : ∀ D σ H, t' D σ H → t D σ H) : PSs X e t' := ⟨fun pins s σ H Q I q => h.run pins s σ H Q I (i Q σ H q)⟩
end DI
/-! Expressions by data. -/
namespace DI
open PySem L2
variable [Nm]
def get {α : Type} (o : Option α) (P : α → Prop) : Prop := match o with
  | some d => P d
  | none => False
theorem get_some {α : Type} {P : α → Prop} {d : α} : get (some d) P = P d := rfl
theorem get_mono {α : Type} {o : Option α} {P P' : α → Prop} (h : ∀ d, P d → P' d) (q : get o P) : get o P' := by
  cases o with
  | none => exact q
  | some d => exact h d q
theorem get_of {α : Type} {o : Option α} {P : α → Prop} (q : get o P) : ∃ d, o = some d ∧ P d := by
  cases o with
  | none => exact q.elim
  | some d => exact ⟨d, rfl, q⟩

/-- what a slot holds, to be read -/
def vget (env : List Sl) (i : Nat) : Option D := match env[i]? with
  | some (.val d) => some d
  | some (.own ds) => some (.lst ds)
  | some (.bor ds) => some (.lst ds)
  | _ => none
/-- a value read without being kept -/
def RpB (p : Pl) (H G : Hp) (v : V) : D → Prop
  | .lst ds => ∃ a xs, v = .ref a ∧ H a = some (.lst xs) ∧ p.RpA G xs ds
  | d => p.Rp G v d
section
variable {p : Pl} {σ : St} {H G H' G' : Hp} {s : S} {v : V} {d : D}
theorem RpB.of (hs : Same G H) (r : p.Rp G v d) : RpB p H G v d := by
  cases r with
  | lst h a => exact ⟨_, _, rfl, hs _ _ h, a⟩
  | non => exact .non
  | bl b => exact .bl b
  | int i => exact .int i
  | str x => exact .str x
  | tup h a => exact .tup h a
  | drw h o => exact .drw h o
  | dic0 h o => exact .dic0 h o
  | dct h q a => exact .dct h q a
  | exc a b c d e f g h => exact .exc a b c d e f g h
theorem vget_rb {i : Nat} (R : p.Rs σ H G s) (h : vget s.env i = some d) : ∃ v, σ[i]? = some (some v) ∧ RpB p H G v d := by
  unfold vget at h
  cases e : s.env[i]? with
  | none =>
    rw [e] at h
    cases h
  | some x =>
    have q := R.slot i x e
    rw [e] at h
    cases x with
    | emp => cases h
    | dic ks ds => cases h
    | val d' =>
      cases h
      obtain ⟨u, e1, r⟩ := q
      exact ⟨u, e1, .of R.sub r⟩
    | own ds =>
      cases h
      obtain ⟨a, xs, e1, h1, _, _, _, r⟩ := q
      exact ⟨_, e1, a, xs, rfl, h1, r⟩
    | bor ds =>
      cases h
      obtain ⟨a, xs, e1, h1, _, r⟩ := q
      exact ⟨_, e1, a, xs, rfl, h1, r⟩
end

/-- a mutable thing is given away for good: it is locked -/
def tFrz (t : TE) : TE := fun σ H Q => t σ H fun v H1 => Q v H1 ∨ ∃ a u, v = .ref a ∧ H1 a = some u ∧ Mut (some u) ∧ ∀ od, Q v (L2.upd H1 a (.frz od u))
theorem pe_frz {X : Cx} {e : Expr} {t : TE} (h : PE X e t) : PE X e (tFrz t) := ⟨fun pins s σ H Q I k => thn (h.run pins s σ H _ I k) fun v s1 ⟨x, H1, I1, r1, q1⟩ => by
  rcases q1 with q | ⟨a, u, rfl, ha, mu, q⟩
  · exact ⟨x, H1, I1, r1, q⟩
  · obtain ⟨od, I2⟩ := I1.lock ha mu
    exact ⟨_, _, I2, r1, q od⟩⟩
/-! ### constants and names -/
def wC (d : D) : W := ⟨fun s P => P d s, fun _ _ _ h q => h _ _ q⟩
def wVar (i : Nat) : W := ⟨fun s P => match s.env[i]? with
  | some (.val d) => P d s
  | some (.own ds) => P (.lst ds) { s with env := s.env.set i (.val (.lst ds)) }
  | some (.dic ks ds) => P (.dct ks ds) { s with env := s.env.set i (.val (.dct ks ds)) }
  | _ => False, fun s P P' h q => by
    cases e : s.env[i]? with
    | none => simp only [e] at q
    | some x => cases x <;> simp only [e] at q ⊢ <;> exact h _ _ q⟩
/-- a value that stands for itself: any G bears it -/
def Cst (p : Pl) (v : V) (d : D) : Prop := ∀ G, p.Rp G v d
section
variable {X : Cx} {p : Pl} {e a b : Expr} {es : List Expr} {pos : Pos} {w wa wb : W} {t : TE}
theorem pd_c {v : V} {d : D} (h : PE X e (tC v)) (r : Cst p v d) : PE X e (lift p (wC d)) :=
  PE.imp h fun σ H Q ⟨G, s, R, k⟩ => k v H G (Same.refl G) R (r G)
theorem pd_int {i j} : PE X (.Constant (.int i) j pos) (lift p (wC (.int i))) := pd_c pe_int fun _ => .int i
theorem pd_bl {i j} : PE X (.Constant (.bool i) j pos) (lift p (wC (.bl i))) := pd_c pe_bl fun _ => .bl i
theorem pd_non {j} : PE X (.Constant .none j pos) (lift p (wC .non)) := pd_c pe_non fun _ => .non
theorem pd_str {x j} : PE X (.Constant (.str x) j pos) (lift p (wC (.str x))) := pd_c pe_str fun _ => .str x
theorem pd_glob {x : Str} {v : V} {u : Value} {d : D} (hg : Gl X x) (hm : X.mg x = some u) (r : RelV v u) (c : Cst p v d) (hd : (x == ("__debug__" : Str)) = false := by decide) : PE X (.Name x pos) (lift p (wC d)) := pd_c (pe_glob hg hm r hd) c
theorem pd_var (i : Nat) (h : PE X e (tVar i)) : PE X e (lift p (wVar i)) := PE.imp (pe_frz h) fun σ H Q ⟨G, s, R, k⟩ => by
  have k' : (match s.env[i]? with
    | some (.val d) => (fun d s' => ∀ v H' G', Same G G' → p.Rs σ H' G' s' → p.Rp G' v d → Q v H') d s
    | some (.own ds) => (fun d s' => ∀ v H' G', Same G G' → p.Rs σ H' G' s' → p.Rp G' v d → Q v H') (.lst ds) { s with env := s.env.set i (.val (.lst ds)) }
    | some (.dic ks ds) => (fun d s' => ∀ v H' G', Same G G' → p.Rs σ H' G' s' → p.Rp G' v d → Q v H') (.dct ks ds) { s with env := s.env.set i (.val (.dct ks ds)) }
    | _ => False) := k
  cases e : s.env[i]? with
  | none =>
    rw [e] at k'
    exact k'.elim
  | some x =>
    rw [e] at k'
    cases x with
    | emp => exact k'.elim
    | bor ds => exact k'.elim
    | val d =>
      obtain ⟨u, e1, r⟩ := R.slot i _ e
      exact ⟨u, e1, .inl (k' u H G (Same.refl G) R r)⟩
    | own ds =>
      obtain ⟨q, xs, e1, h1, h2, r, R'⟩ := R.freeze e
      have kG : Same G (L2.upd G q (.lst xs)) := Same.upd h2
      exact ⟨_, e1, .inl (k' _ H _ kG R' (.lst upd_same (r.mono kG)))⟩
    | dic ks ds =>
      obtain ⟨q, kvs, e1, h1, h2, h5, r, R'⟩ := R.freezeD e
      refine ⟨_, e1, .inr ⟨q, _, rfl, h1, True.intro, fun od => ?_⟩⟩
      have kG : Same G (L2.upd G q (.frz od (.dK kvs))) := Same.upd h2
      exact k' _ _ _ kG (R' od) (.dct upd_same h5 (r.mono kG))

/-! ### operators -/
/-- an operation by values does what g says on data -/
def OpD (p : Pl) (r : R2) (c : D → D → Prop) (g : D → D → Option D) : Prop :=
  ∀ (G H : Hp) (x y : V) (d1 d2 d : D) (Q : VK), Sub G H → RpB p H G x d1 → RpB p H G y d2 → c d1 d2 → g d1 d2 = some d → (∀ v, p.Rp G v d → Q v H) → (∀ a o, H a = none → p.Rp (upd G a o) (.ref a) d → Q (.ref a) (upd H a o)) → r x y H Q
theorem OpD.or {r r' : R2} {c c' : D → D → Prop} {g g' : D → D → Option D} {c2 : D → D → Prop} {g2 : D → D → Option D} (h : OpD p r c g) (h' : OpD p r' c' g')
    (i : ∀ d1 d2 d, c2 d1 d2 → g2 d1 d2 = some d → (c d1 d2 ∧ g d1 d2 = some d) ∨ (c' d1 d2 ∧ g' d1 d2 = some d)) : OpD p (fun x y H Q => r x y H Q ∨ r' x y H Q) c2 g2 := by
  intro G H x y d1 d2 d Q hs r1 r2 hc hg k1 k2
  rcases i d1 d2 d hc hg with ⟨a, b⟩ | ⟨a, b⟩
  · exact .inl (h G H x y d1 d2 d Q hs r1 r2 a b k1 k2)
  · exact .inr (h' G H x y d1 d2 d Q hs r1 r2 a b k1 k2)
def wBin (c : D → D → Prop) (g : D → D → Option D) (wa wb : W) : W := ⟨fun s P => wa.f s fun d1 s1 => wb.f s1 fun d2 s2 => c d1 d2 ∧ get (g d1 d2) fun d => P d s2,
  fun s P P' h q => wa.mono _ _ _ (fun d1 s1 q1 => wb.mono _ _ _ (fun d2 s2 ⟨q2, q3⟩ => ⟨q2, get_mono (fun d => h d s2) q3⟩) q1) q⟩
/-- the first operand a name -/
def wBinV (c : D → D → Prop) (g : D → D → Option D) (i : Nat) (wb : W) : W := ⟨fun s P => get (vget s.env i) fun _ => wb.f s fun d2 s2 => get (vget s2.env i) fun d1 => c d1 d2 ∧ get (g d1 d2) fun d => P d s2,
  fun s P P' h q => get_mono (fun _ q => wb.mono _ _ _ (fun d2 s2 q1 => get_mono (fun d1 ⟨q2, q3⟩ => ⟨q2, get_mono (fun d => h d s2) q3⟩) q1) q) q⟩
/-- the second operand a name -/
def wBinR (c : D → D → Prop) (g : D → D → Option D) (wa : W) (i : Nat) : W := ⟨fun s P => wa.f s fun d1 s1 => get (vget s1.env i) fun d2 => c d1 d2 ∧ get (g d1 d2) fun d => P d s1,
  fun s P P' h q => wa.mono _ _ _ (fun d2 s2 q1 => get_mono (fun d1 ⟨q2, q3⟩ => ⟨q2, get_mono (fun d => h d s2) q3⟩) q1) q⟩
theorem op_lift {r : R2} {c : D → D → Prop} {g : D → D → Option D} (hd : OpD p r c g) (σ : St) (H : Hp) (Q : VK) (h : lift p (wBin c g wa wb) σ H Q) : tOp r (lift p wa) (lift p wb) σ H Q := by
  obtain ⟨G, s, R, k⟩ := h
  refine ⟨G, s, R, wa.mono _ _ _ (fun d1 s1 k1 x H1 G1 e1 R1 r1 => ⟨G1, s1, R1, wb.mono _ _ _ (fun d2 s2 k2 y H2 G2 e2 R2 r2 => ?_) k1⟩) k⟩
  obtain ⟨kc, kg⟩ := k2
  obtain ⟨d, eg, kd⟩ := get_of kg
  exact hd G2 H2 x y d1 d2 d Q R2.sub (.of R2.sub (r1.mono e2)) (.of R2.sub r2) kc eg (fun v rv => kd v H2 G2 (e1.trans e2) R2 rv) fun a o ha ra => by
      obtain ⟨Gn, en, Rn, _, rn⟩ := R2.fresh ha
      exact kd _ _ _ ((e1.trans e2).trans en) Rn (rn _ _ ra)
theorem opV_lift {r : R2} {c : D → D → Prop} {g : D → D → Option D} {i : Nat} (hd : OpD p r c g) (σ : St) (H : Hp) (Q : VK) (h : lift p (wBinV c g i wb) σ H Q) : tOp r (tVar i) (lift p wb) σ H Q := by
  obtain ⟨G, s, R, k⟩ := h
  obtain ⟨d0, e0, k⟩ := get_of k
  obtain ⟨x, hx, _⟩ := vget_rb R e0
  refine ⟨x, hx, G, s, R, wb.mono _ _ _ (fun d2 s2 k2 y H2 G2 e2 R2 r2 => ?_) k⟩
  obtain ⟨d1, ed, k3⟩ := get_of k2
  obtain ⟨x', ex, rx⟩ := vget_rb R2 ed
  rw [hx] at ex
  cases ex
  obtain ⟨kc, kg⟩ := k3
  obtain ⟨d, eg, kd⟩ := get_of kg
  exact hd G2 H2 x y d1 d2 d Q R2.sub rx (.of R2.sub r2) kc eg (fun v rv => kd v H2 G2 e2 R2 rv) fun a o ha ra => by
      obtain ⟨Gn, en, Rn, _, rn⟩ := R2.fresh ha
      exact kd _ _ _ (e2.trans en) Rn (rn _ _ ra)
/-! the rules -/
theorem rb_int {i : Int} {x : V} {G H : Hp} (r : RpB p H G x (.int i)) : x = .int i := by
  have r' : p.Rp G x (.int i) := r
  cases r'
  rfl
theorem rb_bl {i : Bool} {x : V} {G H : Hp} (r : RpB p H G x (.bl i)) : x = .bl i := by
  have r' : p.Rp G x (.bl i) := r
  cases r'
  rfl
theorem rb_str {i : Str} {x : V} {G H : Hp} (r : RpB p H G x (.str i)) : x = .str i := by
  have r' : p.Rp G x (.str i) := r
  cases r'
  rfl
theorem rb_tup {ds : List D} {x : V} {G H : Hp} (hs : Sub G H) (r : RpB p H G x (.tup ds)) : ∃ a xs, x = .ref a ∧ SqT p.K G a xs ∧ SqT p.K H a xs ∧ p.RpA G xs ds := by
  have r' : p.Rp G x (.tup ds) := r
  cases r' with
  | tup h k => exact ⟨_, _, rfl, h, Same.tup hs.go h, k⟩
theorem rb_non {x : V} {G H : Hp} (r : RpB p H G x .non) : x = .non := by
  have r' : p.Rp G x .non := r
  cases r'
  rfl
/-- two ints -/
def gI (f : Int → Int → D) : D → D → Option D
  | .int i, .int j => some (f i j)
  | _, _ => none
theorem gI_of {f : Int → Int → D} {a b d : D} (h : gI f a b = some d) : ∃ i j, a = .int i ∧ b = .int j ∧ d = f i j := by
  cases a <;> cases b <;> simp only [gI] at h <;> cases h
  exact ⟨_, _, rfl, rfl, rfl⟩
def cT : D → D → Prop := fun _ _ => True
def cI (C : Int → Int → Prop) : D → D → Prop
  | .int i, .int j => C i j
  | _, _ => False
theorem od_I {C : Int → Int → Prop} {f : Int → Int → Int} : OpD p (rI C fun i j => .int (f i j)) (cI C) (gI fun i j => .int (f i j)) := by
  intro G H x y d1 d2 d Q hs r1 r2 hc hg k1 k2
  obtain ⟨i, j, rfl, rfl, rfl⟩ := gI_of hg
  cases rb_int r1
  cases rb_int r2
  exact ⟨i, j, rfl, rfl, hc, k1 _ (.int _)⟩
theorem od_I0 {f : Int → Int → Int} : OpD p (rI0 fun i j => .int (f i j)) cT (gI fun i j => .int (f i j)) := by
  intro G H x y d1 d2 d Q hs r1 r2 hc hg k1 k2
  obtain ⟨i, j, rfl, rfl, rfl⟩ := gI_of hg
  cases rb_int r1
  cases rb_int r2
  exact ⟨i, j, rfl, rfl, k1 _ (.int _)⟩
/-- + -/
def gAdd : D → D → Option D
  | .int i, .int j => some (.int (i + j))
  | .str x, .str y => some (.str (x ++ y))
  | .tup x, .tup y => some (.tup (x ++ y))
  | .lst x, .lst y => some (.lst (x ++ y))
  | _, _ => none
def cAdd : D → D → Prop
  | .str x, .str y => x.length + y.length ≤ sizeLine
  | .tup x, .tup y => x.length + y.length ≤ sizeLine
  | .lst x, .lst y => x.length + y.length ≤ sizeLine
  | _, _ => True
def rAddA (K : PySem.W.Frag) : R2 := fun x y H Q => rI0 (fun i j => .int (i + j)) x y H Q ∨ ((∃ i j, x = .str i ∧ y = .str j ∧ i.length + j.length ≤ sizeLine ∧ Q (.str (i ++ j)) H) ∨ (rCatA K x y H Q ∨ rCat x y H Q))
theorem op_addA : OpR X (binaryOp .Add) (rAddA X.K) := op_add.or (op_add_str.or (op_catA.or op_cat))
theorem od_add (hK : p.K = X.K) : OpD p (rAddA X.K) cAdd gAdd := by
  intro G H x y d1 d2 d Q hs r1 r2 hc hg k1 k2
  cases d1 <;> cases d2 <;> simp only [gAdd] at hg <;> cases hg
  · cases rb_int r1
    cases rb_int r2
    exact .inl ⟨_, _, rfl, rfl, k1 _ (.int _)⟩
  · cases rb_str r1
    cases rb_str r2
    exact .inr (.inl ⟨_, _, rfl, rfl, hc, k1 _ (.str _)⟩)
  · obtain ⟨a, xs, rfl, e1, h1⟩ := r1
    obtain ⟨b, ys, rfl, e2, h2⟩ := r2
    exact .inr (.inr (.inr ⟨a, b, xs, ys, rfl, rfl, e1, e2, by rw [h1.length, h2.length]; exact hc, fun l hl => k2 l _ hl (.lst upd_same ((h1.append h2).mono (Same.upd (hs.none hl))))⟩))
  · obtain ⟨a, xs, rfl, t1, e1, h1⟩ := rb_tup hs r1
    obtain ⟨b, ys, rfl, t2, e2, h2⟩ := rb_tup hs r2
    rw [hK] at e1 e2
    have l1 := h1.length
    have l2 := h2.length
    refine .inr (.inr (.inl ⟨a, b, xs, ys, rfl, rfl, e1, e2, by rw [l1, l2]; exact hc, fun z => ?_, fun z z2 => ?_, fun z1 z2 l hl => k2 l _ hl (.tup (.inl (.inl upd_same)) ((h1.append h2).mono (Same.upd (hs.none hl))))⟩))
    · subst z
      cases h1
      exact k1 _ (.tup t2 h2)
    · subst z2
      cases h2
      exact k1 _ (.tup t1 (by rw [List.append_nil]; exact h1))
abbrev gSub : D → D → Option D := gI fun i j => .int (i - j)
abbrev gMod : D → D → Option D := gI fun i j => .int (i % j)
abbrev gDiv : D → D → Option D := gI fun i j => .int (i / j)
abbrev cMod : D → D → Prop := cI fun _ j => 0 < j
abbrev cDiv : D → D → Prop := cI CDiv
section
variable (ha : PE X a (lift p wa)) (hb : PE X b (lift p wb))
include ha hb
theorem pd_add (hK : p.K = X.K := by rfl) : PE X (.BinOp a .Add b pos) (lift p (wBin cAdd gAdd wa wb)) := PE.imp (pe_op op_addA ha hb) (op_lift (od_add hK))
theorem pd_sub : PE X (.BinOp a .Sub b pos) (lift p (wBin cT gSub wa wb)) := PE.imp (pe_op op_sub ha hb) (op_lift od_I0)
theorem pd_mod : PE X (.BinOp a .Mod b pos) (lift p (wBin cMod gMod wa wb)) := PE.imp (pe_op op_mod ha hb) (op_lift od_I)
theorem pd_div : PE X (.BinOp a .FloorDiv b pos) (lift p (wBin cDiv gDiv wa wb)) := PE.imp (pe_op op_fdiv ha hb) (op_lift od_I)
end
theorem pd_neg (ha : PE X a (lift p wa)) : PE X (.UnaryOp .USub a pos) (lift p ⟨fun s P => wa.f s fun d s1 => get (match d with | .int i => some i | _ => none) fun i => P (.int (-i)) s1, fun s P P' h q => wa.mono _ _ _ (fun d s1 q => get_mono (fun i => h _ s1) q) q⟩) :=
  PE.imp (pe_un un_neg ha) fun σ H Q ⟨G, s, R, k⟩ => ⟨G, s, R, wa.mono _ _ _ (fun d s1 k1 x H1 G1 e1 R1 r1 => by
    obtain ⟨i, e, k2⟩ := get_of k1
    cases d <;> cases e
    cases r1
    exact ⟨i, rfl, k2 _ H1 G1 e1 R1 (.int _)⟩) k⟩

/-! ### equality of data -/
mutual
def toPy : D → PyData
  | .non => .none
  | .bl b => .bool b
  | .int i => .int i
  | .str x => .str x
  | .lst xs => .list (toPyA xs)
  | .tup xs => .tuple (toPyA xs)
  | .drw => .none
  | .dic0 => .dict []
  | .dct _ _ => .none
  | .exc _ _ _ => .none
def toPyA : List D → List PyData
  | [] => []
  | x :: xs => toPy x :: toPyA xs
end
mutual
def plain : D → Bool
  | .drw => false
  | .dic0 => false
  | .dct _ _ => false
  | .exc _ _ _ => false
  | .lst xs => plainA xs
  | .tup xs => plainA xs
  | _ => true
def plainA : List D → Bool
  | [] => true
  | x :: xs => plain x && plainA xs
end
def shp (d : D) : Prop := plain d = true ∧ SeqAt.shaped (toPy d) = true
mutual
theorem Rp.dp {K : PySem.W.Frag} {dr : Option Addr} {G : Hp} : ∀ {v : V} {d : D}, Rp K dr G v d → plain d = true → Dp K G v (toPy d)
  | _, _, .non, _ => by simp only [toPy]; exact .non
  | _, _, .bl b, _ => by simp only [toPy]; exact .bl b
  | _, _, .int i, _ => by simp only [toPy]; exact .int i
  | _, _, .str x, _ => by simp only [toPy]; exact .str x
  | _, _, .lst h hs, q => by
    simp only [toPy]
    exact .lst (SqL.of h) (RpA.dp hs (by simpa only [plain] using q))
  | _, _, .tup h hs, q => by
    simp only [toPy]
    exact .tup h (RpA.dp hs (by simpa only [plain] using q))
  | _, _, .drw h _, q => by simp [plain] at q
  | _, _, .dic0 h _, q => by simp [plain] at q
  | _, _, .dct _ _ _, q => by simp [plain] at q
  | _, _, .exc _ _ _ _ _ _ _ _, q => by simp [plain] at q
theorem RpA.dp {K : PySem.W.Frag} {dr : Option Addr} {G : Hp} : ∀ {vs : List V} {ds : List D}, RpA K dr G vs ds → plainA ds = true → DpAll K G vs (toPyA ds)
  | _, _, .nil, _ => by simp only [toPyA]; exact .nil
  | _, _, .cons r t, q => by
    simp only [plainA, Bool.and_eq_true] at q
    simp only [toPyA]
    exact .cons (Rp.dp r q.1) (RpA.dp t q.2)
end
theorem rb_dp {H G : Hp} {v : V} {d : D} (hs : Sub G H) (r : RpB p H G v d) (q : plain d = true) : Dp p.K H v (toPy d) := by
  cases d with
  | lst ds =>
    obtain ⟨a, xs, rfl, h, k⟩ := r
    simp only [toPy]
    exact .lst (SqL.of h) (RpA.dp (k.mono hs.go) (by simpa only [plain] using q))
  | _ => exact Rp.dp (Rp.mono hs.go r) q
def scalD : D → D → Bool
  | .non, .non => true | .non, .int _ => true | .int _, .non => true | .non, .bl _ => true | .bl _, .non => true | .non, .str _ => true | .str _, .non => true
  | .int _, .int _ => true | .bl _, .bl _ => true | .str _, .str _ => true
  | .int _, .str _ => true | .str _, .int _ => true | .bl _, .str _ => true | .str _, .bl _ => true
  | _, _ => false
def eqD (a b : D) : Bool := PyData.eqv (toPy a) (toPy b)
def cEq (a b : D) : Prop := scalD a b = true ∨ (shp a ∧ shp b)
def gEq (a b : D) : Option D := some (.bl (eqD a b))
def gNe (a b : D) : Option D := some (.bl (!eqD a b))
def rEqA (K : PySem.W.Frag) : R2 := fun x y H Q => rEq x y H Q ∨ rEqD K x y H Q
def rNeA (K : PySem.W.Frag) : R2 := fun x y H Q => rNe x y H Q ∨ rNeD K x y H Q
theorem op_eqA (hu : X.A.units + 64 < cLine) : OpR X (compareOp .Eq) (rEqA X.K) := op_eq.or (op_eqD hu)
theorem op_neA (hu : X.A.units + 64 < cLine) : OpR X (compareOp .NotEq) (rNeA X.K) := op_ne.or (op_neD hu)
theorem scal_of {H G : Hp} {x y : V} {d1 d2 : D} (r1 : RpB p H G x d1) (r2 : RpB p H G y d2) (h : scalD d1 d2 = true) : scal x y = true ∧ decide (x = y) = eqD d1 d2 := by
  cases d1 <;> cases d2 <;> simp only [scalD, Bool.false_eq_true] at h <;>
    first
    | (cases rb_non r1; cases rb_non r2; exact ⟨rfl, by simp [eqD, toPy, PyData.eqv]⟩)
    | (cases rb_non r1; cases rb_int r2; exact ⟨rfl, by simp [eqD, toPy, PyData.eqv]⟩)
    | (cases rb_non r1; cases rb_bl r2; exact ⟨rfl, by simp [eqD, toPy, PyData.eqv]⟩)
    | (cases rb_non r1; cases rb_str r2; exact ⟨rfl, by simp [eqD, toPy, PyData.eqv]⟩)
    | (cases rb_int r1; cases rb_non r2; exact ⟨rfl, by simp [eqD, toPy, PyData.eqv]⟩)
    | (cases rb_bl r1; cases rb_non r2; exact ⟨rfl, by simp [eqD, toPy, PyData.eqv]⟩)
    | (cases rb_str r1; cases rb_non r2; exact ⟨rfl, by simp [eqD, toPy, PyData.eqv]⟩)
    | (cases rb_int r1; cases rb_int r2; exact ⟨rfl, by rw [dec_int]; simp [eqD, toPy, PyData.eqv]⟩)
    | (cases rb_bl r1; cases rb_bl r2; exact ⟨rfl, by rw [dec_bl]; simp [eqD, toPy, PyData.eqv]⟩)
    | (cases rb_str r1; cases rb_str r2; exact ⟨rfl, by rw [dec_str]; simp [eqD, toPy, PyData.eqv]⟩)
    | (cases rb_int r1; cases rb_str r2; exact ⟨rfl, by simp [eqD, toPy, PyData.eqv]⟩)
    | (cases rb_str r1; cases rb_int r2; exact ⟨rfl, by simp [eqD, toPy, PyData.eqv]⟩)
    | (cases rb_bl r1; cases rb_str r2; exact ⟨rfl, by simp [eqD, toPy, PyData.eqv]⟩)
    | (cases rb_str r1; cases rb_bl r2; exact ⟨rfl, by simp [eqD, toPy, PyData.eqv]⟩)
theorem od_eq (hK : p.K = X.K) : OpD p (rEqA X.K) cEq gEq := by
  intro G H x y d1 d2 d Q hs r1 r2 hc hg k1 k2
  cases hg
  rcases hc with hc | ⟨⟨p1, s1⟩, ⟨p2, s2⟩⟩
  · obtain ⟨e1, e2⟩ := scal_of r1 r2 hc
    exact .inl ⟨e1, by rw [e2]; exact k1 _ (.bl _)⟩
  · exact .inr ⟨_, _, hK ▸ rb_dp hs r1 p1, hK ▸ rb_dp hs r2 p2, s1, s2, k1 _ (.bl _)⟩
theorem od_ne (hK : p.K = X.K) : OpD p (rNeA X.K) cEq gNe := by
  intro G H x y d1 d2 d Q hs r1 r2 hc hg k1 k2
  cases hg
  rcases hc with hc | ⟨⟨p1, s1⟩, ⟨p2, s2⟩⟩
  · obtain ⟨e1, e2⟩ := scal_of r1 r2 hc
    exact .inl ⟨e1, by rw [e2]; exact k1 _ (.bl _)⟩
  · exact .inr ⟨_, _, hK ▸ rb_dp hs r1 p1, hK ▸ rb_dp hs r2 p2, s1, s2, k1 _ (.bl _)⟩

/-! ### comparisons -/
def strLt (x y : Str) : Bool := decide (x.cps.toList < y.cps.toList)
def gLt : D → D → Option D
  | .int i, .int j => some (.bl (decide (i < j)))
  | .str x, .str y => some (.bl (strLt x y))
  | _, _ => none
def gLe : D → D → Option D
  | .int i, .int j => some (.bl (decide (i ≤ j)))
  | .str x, .str y => some (.bl (!strLt y x))
  | _, _ => none
def gGt : D → D → Option D
  | .int i, .int j => some (.bl (decide (j < i)))
  | .str x, .str y => some (.bl (strLt y x))
  | _, _ => none
def gGe : D → D → Option D
  | .int i, .int j => some (.bl (decide (j ≤ i)))
  | .str x, .str y => some (.bl (!strLt x y))
  | _, _ => none
def rS (f : Str → Str → Bool) : R2 := fun x y H Q => ∃ i j, x = .str i ∧ y = .str j ∧ Q (.bl (f i j)) H
theorem opS {op : CmpOp} {f : Str → Str → Bool} (rule : ∀ (x y : Str) (t u : Tok) (s : Shared) (Q : Value → Shared → Prop) (E : Value → Shared → Prop), Q (.bool (f x y)) s → wpAny (model X.prog X.w) X.A (compareOp op (.str x t) (.str y u)) Q E s) : OpR X (compareOp op) (rS f) := by
  intro pins s σ H x y v u Q I rx ry h
  obtain ⟨i, j, rfl, rfl, q⟩ := h
  obtain ⟨t, rfl⟩ := rx
  obtain ⟨t', rfl⟩ := ry
  exact rule i j t t' s _ _ ⟨.bl _, H, I, rfl, q⟩
theorem od_IS {f : Int → Int → Bool} {h : Str → Str → Bool} {g : D → D → Option D} (e : ∀ a b d, g a b = some d → (∃ i j, a = .int i ∧ b = .int j ∧ d = .bl (f i j)) ∨ (∃ i j, a = .str i ∧ b = .str j ∧ d = .bl (h i j))) :
    OpD p (fun x y H Q => rI0 (fun i j => .bl (f i j)) x y H Q ∨ rS h x y H Q) cT g := by
  intro G H x y d1 d2 d Q hs r1 r2 hc hg k1 k2
  rcases e _ _ _ hg with ⟨i, j, rfl, rfl, rfl⟩ | ⟨i, j, rfl, rfl, rfl⟩
  · cases rb_int r1
    cases rb_int r2
    exact .inl ⟨i, j, rfl, rfl, k1 _ (.bl _)⟩
  · cases rb_str r1
    cases rb_str r2
    exact .inr ⟨i, j, rfl, rfl, k1 _ (.bl _)⟩
/-- a comparison's rule: by values and by data -/
structure CmpR (X : Cx) (p : Pl) (op : CmpOp) (c : D → D → Prop) (g : D → D → Option D) : Prop where
  ex : ∃ r, OpR X (compareOp op) r ∧ OpD p r c g
theorem cm_lt : CmpR X p .Lt cT gLt := ⟨_, op_lt.or (opS fun _ _ _ _ _ _ _ q => PyProof.Rows.lt_str q), od_IS fun a b d h => by
  cases a <;> cases b <;> simp only [gLt] at h <;> cases h
  · exact .inl ⟨_, _, rfl, rfl, rfl⟩
  · exact .inr ⟨_, _, rfl, rfl, rfl⟩⟩
theorem cm_le : CmpR X p .LtE cT gLe := ⟨_, op_le.or (opS (f := fun x y => !strLt y x) fun _ _ _ _ _ _ _ q => PySem.P.le_str q), od_IS fun a b d h => by
  cases a <;> cases b <;> simp only [gLe] at h <;> cases h
  · exact .inl ⟨_, _, rfl, rfl, rfl⟩
  · exact .inr ⟨_, _, rfl, rfl, rfl⟩⟩
theorem cm_gt : CmpR X p .Gt cT gGt := ⟨_, op_gt.or (opS (f := fun x y => strLt y x) fun _ _ _ _ _ _ _ q => PySem.P.gt_str q), od_IS fun a b d h => by
  cases a <;> cases b <;> simp only [gGt] at h <;> cases h
  · exact .inl ⟨_, _, rfl, rfl, rfl⟩
  · exact .inr ⟨_, _, rfl, rfl, rfl⟩⟩
theorem cm_ge : CmpR X p .GtE cT gGe := ⟨_, op_ge.or (opS (f := fun x y => !strLt x y) fun _ _ _ _ _ _ _ q => PySem.P.ge_str q), od_IS fun a b d h => by
  cases a <;> cases b <;> simp only [gGe] at h <;> cases h
  · exact .inl ⟨_, _, rfl, rfl, rfl⟩
  · exact .inr ⟨_, _, rfl, rfl, rfl⟩⟩
theorem cm_eq {k : Nat} (hr : Room k X.A) (hK : p.K = X.K := by rfl) : CmpR X p .Eq cEq gEq := ⟨_, op_eqA hr.units, od_eq hK⟩
theorem cm_ne {k : Nat} (hr : Room k X.A) (hK : p.K = X.K := by rfl) : CmpR X p .NotEq cEq gNe := ⟨_, op_neA hr.units, od_ne hK⟩
/-- is None -/
def isNon : D → Bool
  | .non => true
  | _ => false
def gIsN : D → D → Option D
  | a, .non => some (.bl (isNon a))
  | _, _ => none
def gNotN : D → D → Option D
  | a, .non => some (.bl (!isNon a))
  | _, _ => none
theorem rb_isNon {H G : Hp} {x : V} {d : D} (r : RpB p H G x d) : decide (x = .non) = isNon d := by
  cases d with
  | lst ds =>
    obtain ⟨a, xs, rfl, _⟩ := r
    rfl
  | non => cases rb_non r; rfl
  | bl b => cases rb_bl r; rfl
  | int b => cases rb_int r; rfl
  | str b => cases rb_str r; rfl
  | tup ds =>
    have r' : p.Rp G x (.tup ds) := r
    cases r'
    rfl
  | drw =>
    have r' : p.Rp G x .drw := r
    cases r'
    rfl
  | dic0 =>
    have r' : p.Rp G x .dic0 := r
    cases r'
    rfl
  | dct ks ds =>
    have r' : p.Rp G x (.dct ks ds) := r
    cases r'
    rfl
  | exc nm fs ds =>
    have r' : p.Rp G x (.exc nm fs ds) := r
    cases r'
    rfl
theorem cm_isN : CmpR X p .Is cT gIsN := ⟨_, op_isN, fun G H x y d1 d2 d Q hs r1 r2 hc hg k1 k2 => by
  cases d2 <;> simp only [gIsN] at hg <;> cases hg
  cases rb_non r2
  exact ⟨rfl, by rw [rb_isNon r1]; exact k1 _ (.bl _)⟩⟩
theorem cm_notN : CmpR X p .IsNot cT gNotN := ⟨_, op_notN, fun G H x y d1 d2 d Q hs r1 r2 hc hg k1 k2 => by
  cases d2 <;> simp only [gNotN] at hg <;> cases hg
  cases rb_non r2
  exact ⟨rfl, by rw [rb_isNon r1]; exact k1 _ (.bl _)⟩⟩
/-- in: flat items, or a text in a text -/
def flatD : D → Bool
  | .non => true
  | .bl _ => true
  | .int _ => true
  | .str _ => true
  | _ => false
def inD (x : D) (xs : List D) : Bool := xs.any fun y => eqD y x
def inStr (x y : Str) : Bool := !(Builtin.Str.occurrences y x 0 y.length 1).isEmpty
def cIn : D → D → Prop
  | x, .tup ys => flatD x = true ∧ ys.all flatD = true
  | x, .lst ys => flatD x = true ∧ ys.all flatD = true
  | _, _ => True
def gIn : D → D → Option D
  | x, .tup ys => some (.bl (inD x ys))
  | x, .lst ys => some (.bl (inD x ys))
  | .str x, .str y => some (.bl (inStr x y))
  | _, _ => none
def gNin : D → D → Option D
  | x, .tup ys => some (.bl (!inD x ys))
  | x, .lst ys => some (.bl (!inD x ys))
  | .str x, .str y => some (.bl (!inStr x y))
  | _, _ => none
theorem flat_of {G H : Hp} {x : V} {d : D} (r : RpB p H G x d) (h : flatD d = true) : flatV x = true := by
  cases d <;> simp only [flatD, Bool.false_eq_true] at h
  · cases rb_non r; rfl
  · cases rb_bl r; rfl
  · cases rb_int r; rfl
  · cases rb_str r; rfl
theorem rp_rb {G : Hp} {x : V} {d : D} (r : p.Rp G x d) : RpB p G G x d := .of (fun _ _ h => h) r
theorem eqV_of {G H G' H' : Hp} {x y : V} {a b : D} (r1 : RpB p H G x a) (r2 : RpB p H' G' y b) (h1 : flatD a = true) (h2 : flatD b = true) : eqV x y = eqD a b := by
  cases a <;> simp only [flatD, Bool.false_eq_true] at h1 <;> cases b <;> simp only [flatD, Bool.false_eq_true] at h2 <;>
    first
    | (cases rb_non r1; cases rb_non r2; simp [eqD, toPy, PyData.eqv, eqV]; done)
    | (cases rb_non r1; cases rb_int r2; simp [eqD, toPy, PyData.eqv, eqV]; done)
    | (cases rb_non r1; cases rb_bl r2; simp [eqD, toPy, PyData.eqv, eqV]; done)
    | (cases rb_non r1; cases rb_str r2; simp [eqD, toPy, PyData.eqv, eqV]; done)
    | (cases rb_int r1; cases rb_non r2; simp [eqD, toPy, PyData.eqv, eqV]; done)
    | (cases rb_bl r1; cases rb_non r2; simp [eqD, toPy, PyData.eqv, eqV]; done)
    | (cases rb_str r1; cases rb_non r2; simp [eqD, toPy, PyData.eqv, eqV]; done)
    | (cases rb_int r1; cases rb_int r2; simp [eqD, toPy, PyData.eqv, eqV]; done)
    | (cases rb_int r1; cases rb_bl r2; simp [eqD, toPy, PyData.eqv, eqV]; done)
    | (cases rb_bl r1; cases rb_int r2; simp [eqD, toPy, PyData.eqv, eqV]; done)
    | (cases rb_bl r1; cases rb_bl r2; simp [eqD, toPy, PyData.eqv, eqV]; done)
    | (cases rb_str r1; cases rb_str r2; simp [eqD, toPy, PyData.eqv, eqV]; done)
    | (cases rb_int r1; cases rb_str r2; simp [eqD, toPy, PyData.eqv, eqV]; done)
    | (cases rb_str r1; cases rb_int r2; simp [eqD, toPy, PyData.eqv, eqV]; done)
    | (cases rb_bl r1; cases rb_str r2; simp [eqD, toPy, PyData.eqv, eqV]; done)
    | (cases rb_str r1; cases rb_bl r2; simp [eqD, toPy, PyData.eqv, eqV]; done)
theorem flats_of {G H : Hp} {x : V} {a : D} (r1 : RpB p H G x a) (h1 : flatD a = true) : ∀ {xs : List V} {ds : List D}, p.RpA G xs ds → ds.all flatD = true → xs.all flatV = true ∧ inV x xs = inD a ds
  | _, _, .nil, _ => ⟨rfl, rfl⟩
  | _, _, .cons r t, h => by
    rw [List.all_cons, Bool.and_eq_true] at h
    obtain ⟨q1, q2⟩ := flats_of r1 h1 t h.2
    refine ⟨by rw [List.all_cons, flat_of (rp_rb r) h.1, q1] <;> rfl, ?_⟩
    unfold inV inD at q2 ⊢
    rw [List.any_cons, List.any_cons, q2, eqV_of (rp_rb r) r1 h.1 h1]
theorem cm_in (hK : p.K = X.K := by rfl) : CmpR X p .In cIn gIn := ⟨_, op_in_seq.or op_in_str, fun G H x y d1 d2 d Q hs r1 r2 hc hg k1 k2 => by
  have seq : ∀ (ds : List D) (a : Addr) (xs : List V), y = .ref a → (SqL p.K H a xs ∨ SqT p.K H a xs) → p.RpA G xs ds → (flatD d1 = true ∧ ds.all flatD = true) → d = .bl (inD d1 ds) → rIn X.K false x y H Q := fun ds a xs e h k ⟨f1, f2⟩ ed => by
    obtain ⟨q1, q2⟩ := flats_of r1 f1 k f2
    exact ⟨a, xs, e, hK ▸ h, flat_of r1 f1, q1, by rw [q2]; subst ed; exact k1 _ (.bl _)⟩
  cases d2 with
  | tup ds =>
    obtain ⟨a, xs, e, _, h, k⟩ := rb_tup hs r2
    exact .inl (seq ds a xs e (.inr h) k hc (by cases hg; rfl))
  | lst ds =>
    obtain ⟨a, xs, e, h, k⟩ := r2
    exact .inl (seq ds a xs e (.inl (SqL.of h)) k hc (by cases hg; rfl))
  | str b =>
    cases d1 <;> simp only [gIn] at hg <;> cases hg
    cases rb_str r1
    cases rb_str r2
    exact .inr ⟨_, _, rfl, rfl, k1 _ (.bl _)⟩
  | _ => cases d1 <;> simp only [gIn] at hg <;> cases hg⟩
section
variable {op op2 : CmpOp} {c c2 : D → D → Prop} {g g2 : D → D → Option D} {i : Nat}
theorem pd_cmp (R : CmpR X p op c g) (ha : PE X a (lift p wa)) (hb : PE X b (lift p wb)) (hm : behindInMarks op b = false := by first | exact nomark _ | with_unfolding_all rfl) : PE X (.Compare a [op] [b] pos) (lift p (wBin c g wa wb)) := by
  obtain ⟨r, h1, h2⟩ := R.ex
  exact PE.imp (pe_cmpR h1 ha hb hm) (op_lift h2)
end

/-! ### tests -/
def wT (w : W) : WT := ⟨fun s P => w.f s fun d s1 => get (match d with | .bl b => some b | _ => none) fun b => P b s1, fun s P P' h q => w.mono _ _ _ (fun d s1 q => get_mono (fun b => h b s1) q) q⟩
theorem bl_of {d : D} {P : Bool → Prop} (h : get (match d with | .bl b => some b | _ => none) P) : ∃ b, d = .bl b ∧ P b := by
  obtain ⟨b, e, q⟩ := get_of h
  cases d <;> cases e
  exact ⟨_, rfl, q⟩
theorem test_lift {t : TE} (i : ∀ σ H Q, lift p w σ H Q → t σ H Q) (σ : St) (H : Hp) (Q : Bool → Hp → Prop) (h : liftT p (wT w) σ H Q) : tTest t σ H Q := by
  obtain ⟨G, s, R, k⟩ := h
  refine i σ H _ ⟨G, s, R, w.mono _ _ _ (fun d s1 k1 v H1 G1 e1 R1 r1 => ?_) k⟩
  obtain ⟨b, rfl, k2⟩ := bl_of k1
  cases r1
  exact ⟨b, rfl, k2 H1 G1 e1 R1⟩
section
variable {op op2 : CmpOp} {c c2 : D → D → Prop} {g g2 : D → D → Option D} {i : Nat}
theorem td_cmp (R : CmpR X p op c g) (ha : PE X a (lift p wa)) (hb : PE X b (lift p wb)) (hm : behindInMarks op b = false := by first | exact nomark _ | with_unfolding_all rfl) : PT X (.Compare a [op] [b] pos) (liftT p (wT (wBin c g wa wb))) := by
  obtain ⟨r, h1, h2⟩ := R.ex
  exact PT.imp (pt_cmpR h1 ha hb hm) (test_lift (op_lift h2))
/-- a <= b <= c -/
def wChain (c c' : D → D → Prop) (g g' : D → D → Option D) (wa wb wc : W) : W := ⟨fun s P => wa.f s fun d1 s1 => wb.f s1 fun d2 s2 => c d1 d2 ∧ get (g d1 d2) fun z => get (match z with | .bl b => some b | _ => none) fun k =>
    if k = true then wc.f s2 fun d3 s3 => c' d2 d3 ∧ get (g' d2 d3) fun d => P d s3 else P (.bl false) s2,
  fun s P P' h q => wa.mono _ _ _ (fun d1 s1 q => wb.mono _ _ _ (fun d2 s2 q => ⟨q.1, get_mono (fun z q => get_mono (fun k q => by
    cases k with
    | true => exact wc.mono _ _ _ (fun d3 s3 q => ⟨q.1, get_mono (fun d => h d s3) q.2⟩) q
    | false => exact h _ _ q) q) q.2⟩) q) q⟩
theorem chain_lift {wc : W} {r r' : R2} (h1 : OpD p r c g) (h2 : OpD p r' c2 g2) (σ : St) (H : Hp) (Q : VK) (h : lift p (wChain c c2 g g2 wa wb wc) σ H Q) : tChain r r' (lift p wa) (lift p wb) (lift p wc) σ H Q := by
  obtain ⟨G, s, R, k⟩ := h
  refine ⟨G, s, R, wa.mono _ _ _ (fun d1 s1 k1 x H1 G1 e1 R1 r1 => ⟨G1, s1, R1, wb.mono _ _ _ (fun d2 s2 k2 y H2 G2 e2 R2 r2 => ?_) k1⟩) k⟩
  obtain ⟨kc, kg⟩ := k2
  obtain ⟨z, ez, kz⟩ := get_of kg
  obtain ⟨b, rfl, kb⟩ := bl_of kz
  refine h1 G2 H2 x y d1 d2 _ _ R2.sub (.of R2.sub (r1.mono e2)) (.of R2.sub r2) kc ez (fun v rv => ?_) fun a o ha ra => by cases ra
  cases rv
  refine ⟨b, rfl, ?_⟩
  cases b with
  | false => exact kb _ H2 G2 (e1.trans e2) R2 (.bl _)
  | true =>
    refine ⟨G2, s2, R2, wc.mono _ _ _ (fun d3 s3 k3 u H3 G3 e3 R3 r3 => ?_) kb⟩
    obtain ⟨kc3, kg3⟩ := k3
    obtain ⟨d, ed, kd⟩ := get_of kg3
    exact h2 G3 H3 y u d2 d3 d Q R3.sub (.of R3.sub (r2.mono e3)) (.of R3.sub r3) kc3 ed (fun v rv => kd v H3 G3 ((e1.trans e2).trans e3) R3 rv) fun a o ha ra => by
      obtain ⟨Gn, en, Rn, _, rn⟩ := R3.fresh ha
      exact kd _ _ _ (((e1.trans e2).trans e3).trans en) Rn (rn _ _ ra)
theorem pd_chain {wc : W} {cc : Expr} (R : CmpR X p op c g) (R2 : CmpR X p op2 c2 g2) (ha : PE X a (lift p wa)) (hb : PE X b (lift p wb)) (hc : PE X cc (lift p wc)) (hm : lastMarks [op, op2] [b, cc] = false := by with_unfolding_all rfl) :
    PE X (.Compare a [op, op2] [b, cc] pos) (lift p (wChain c c2 g g2 wa wb wc)) := by
  obtain ⟨r, h1, h2⟩ := R.ex
  obtain ⟨r', h3, h4⟩ := R2.ex
  exact PE.imp (pe_chain h1 h3 ha hb hc hm) (chain_lift h2 h4)
theorem td_chain {wc : W} {cc : Expr} (R : CmpR X p op c g) (R2 : CmpR X p op2 c2 g2) (ha : PE X a (lift p wa)) (hb : PE X b (lift p wb)) (hc : PE X cc (lift p wc)) (hm : lastMarks [op, op2] [b, cc] = false := by with_unfolding_all rfl) :
    PT X (.Compare a [op, op2] [b, cc] pos) (liftT p (wT (wChain c c2 g g2 wa wb wc))) := by
  obtain ⟨r, h1, h2⟩ := R.ex
  obtain ⟨r', h3, h4⟩ := R2.ex
  exact PT.imp (pt_chain h1 h3 ha hb hc hm) (test_lift (chain_lift h2 h4))
end
/-- truth of any data -/
def truD : D → Option Bool
  | .non => some false
  | .bl b => some b
  | .int i => some (i != 0)
  | .str x => some ((x.length : Int) != 0)
  | .lst xs => some (!xs.isEmpty)
  | .tup xs => some (!xs.isEmpty)
  | .dic0 => some false
  | .dct _ _ => none
  | .drw => none
  | .exc _ _ _ => none
def cTru : D → Prop
  | .str x => x.length ≤ sizeLine
  | _ => True
def wTru (w : W) : WT := ⟨fun s P => w.f s fun d s1 => cTru d ∧ get (truD d) fun b => P b s1, fun s P P' h q => w.mono _ _ _ (fun d s1 q => ⟨q.1, get_mono (fun b => h b s1) q.2⟩) q⟩
def wTruV (i : Nat) : WT := ⟨fun s P => get (vget s.env i) fun d => cTru d ∧ get (truD d) fun b => P b s, fun s P P' h q => get_mono (fun d q => ⟨q.1, get_mono (fun b => h b s) q.2⟩) q⟩
theorem RpA.isEmpty {K : PySem.W.Frag} {dr : Option Addr} {G : Hp} {xs : List V} {ds : List D} (h : RpA K dr G xs ds) : xs.isEmpty = ds.isEmpty := by
  cases h <;> rfl
/-- an expression that gives a truth -/
theorem td_val (ha : PE X a (lift p w)) (he : ∀ whole, isTrue a X.env whole = (do let v ← whole; standAt a.pos; holding [v] (truthy v)) := by intro _; rfl) : PT X a (liftT p (wT w)) :=
  PT.imp (pt_val ha he) (test_lift fun _ _ _ q => q)
variable {t1 t2 : WT} {rest : List Expr}
def tAndD (t u : WT) : WT := ⟨fun s P => t.f s fun b s1 => if b = true then u.f s1 P else P false s1, fun s P P' h q => t.mono _ _ _ (fun b s1 q => by
  cases b with
  | true => exact u.mono _ _ _ h q
  | false => exact h _ _ q) q⟩
def tOrD (t u : WT) : WT := ⟨fun s P => t.f s fun b s1 => if b = true then P true s1 else u.f s1 P, fun s P P' h q => t.mono _ _ _ (fun b s1 q => by
  cases b with
  | false => exact u.mono _ _ _ h q
  | true => exact h _ _ q) q⟩
def tNotD (t : WT) : WT := ⟨fun s P => t.f s fun b s1 => P (!b) s1, fun s P P' h q => t.mono _ _ _ (fun b s1 q => h _ _ q) q⟩
theorem PW.imp {t t' : TT} (h : PW X e t) (i : ∀ σ H Q, t' σ H Q → t σ H Q) : PW X e t' := ⟨fun wh pins s σ H Q I q => h.run wh pins s σ H Q I (i σ H Q q)⟩
theorem wd_and1 (ha : PT X a (liftT p t1)) : PW X (.BoolOp .And [a] pos) (liftT p t1) := pw_and1 ha
theorem wd_or1 (ha : PT X a (liftT p t1)) : PW X (.BoolOp .Or [a] pos) (liftT p t1) := pw_or1 ha
theorem wd_and (ha : PT X a (liftT p t1)) (hb : PW X (.BoolOp .And (b :: rest) pos) (liftT p t2)) : PW X (.BoolOp .And (a :: b :: rest) pos) (liftT p (tAndD t1 t2)) :=
  PW.imp (pw_and ha hb) fun σ H Q ⟨G, s, R, k⟩ => ⟨G, s, R, t1.mono _ _ _ (fun b s1 k1 H1 G1 e1 R1 => by
    cases b with
    | true => exact ⟨G1, s1, R1, t2.mono _ _ _ (fun b2 s2 k2 H2 G2 e2 R2 => k2 H2 G2 (e1.trans e2) R2) k1⟩
    | false => exact k1 H1 G1 e1 R1) k⟩
theorem wd_or (ha : PT X a (liftT p t1)) (hb : PW X (.BoolOp .Or (b :: rest) pos) (liftT p t2)) : PW X (.BoolOp .Or (a :: b :: rest) pos) (liftT p (tOrD t1 t2)) :=
  PW.imp (pw_or ha hb) fun σ H Q ⟨G, s, R, k⟩ => ⟨G, s, R, t1.mono _ _ _ (fun b s1 k1 H1 G1 e1 R1 => by
    cases b with
    | false => exact ⟨G1, s1, R1, t2.mono _ _ _ (fun b2 s2 k2 H2 G2 e2 R2 => k2 H2 G2 (e1.trans e2) R2) k1⟩
    | true => exact k1 H1 G1 e1 R1) k⟩
theorem td_not (ha : PT X a (liftT p t1)) : PT X (.UnaryOp .Not a pos) (liftT p (tNotD t1)) :=
  PT.imp (pt_not ha) fun σ H Q ⟨G, s, R, k⟩ => ⟨G, s, R, k⟩
/-- and, or, not as values, of truths -/
def wAndV (wa wb : W) : W := ⟨fun s P => wa.f s fun d s1 => get (match d with | .bl b => some b | _ => none) fun b => if b = true then wb.f s1 P else P (.bl false) s1, fun s P P' h q => wa.mono _ _ _ (fun d s1 q => get_mono (fun b q => by
  cases b with
  | true => exact wb.mono _ _ _ h q
  | false => exact h _ _ q) q) q⟩
def wOrV (wa wb : W) : W := ⟨fun s P => wa.f s fun d s1 => get (match d with | .bl b => some b | _ => none) fun b => if b = true then P (.bl true) s1 else wb.f s1 P, fun s P P' h q => wa.mono _ _ _ (fun d s1 q => get_mono (fun b q => by
  cases b with
  | false => exact wb.mono _ _ _ h q
  | true => exact h _ _ q) q) q⟩
def wNotV (wa : W) : W := ⟨fun s P => wa.f s fun d s1 => get (match d with | .bl b => some b | _ => none) fun b => P (.bl (!b)) s1, fun s P P' h q => wa.mono _ _ _ (fun d s1 q => get_mono (fun b q => h _ _ q) q) q⟩
theorem pd_one {op} (h : PE X a (lift p w)) : PE X (.BoolOp op [a] pos) (lift p w) := pe_one h
theorem pd_and (ha : PE X a (lift p wa)) (hb : PE X (.BoolOp .And (b :: rest) pos) (lift p wb)) : PE X (.BoolOp .And (a :: b :: rest) pos) (lift p (wAndV wa wb)) :=
  PE.imp (pe_and ha hb) fun σ H Q ⟨G, s, R, k⟩ => ⟨G, s, R, wa.mono _ _ _ (fun d s1 k1 x H1 G1 e1 R1 r1 => by
    obtain ⟨b, rfl, k2⟩ := bl_of k1
    cases r1
    refine ⟨b, rfl, ?_⟩
    cases b with
    | true => exact ⟨G1, s1, R1, wb.mono _ _ _ (fun d2 s2 k2 v H2 G2 e2 R2 => k2 v H2 G2 (e1.trans e2) R2) k2⟩
    | false => exact k2 _ H1 G1 e1 R1 (.bl _)) k⟩
def wIf (t : WT) (wa wb : W) : W := ⟨fun s P => t.f s fun b s1 => if b = true then wa.f s1 P else wb.f s1 P, fun s P P' h q => t.mono _ _ _ (fun b s1 q => by
  cases b with
  | true => exact wa.mono _ _ _ h q
  | false => exact wb.mono _ _ _ h q) q⟩
theorem pd_ifExp {c : Expr} (hc : PT X c (liftT p t1)) (ha : PE X a (lift p wa)) (hb : PE X b (lift p wb)) : PE X (.IfExp c a b pos) (lift p (wIf t1 wa wb)) :=
  PE.imp (pe_ifExp hc ha hb) fun σ H Q ⟨G, s, R, k⟩ => ⟨G, s, R, t1.mono _ _ _ (fun b s1 k1 H1 G1 e1 R1 => by
    cases b with
    | true => exact ⟨G1, s1, R1, wa.mono _ _ _ (fun d2 s2 k2 v H2 G2 e2 R2 => k2 v H2 G2 (e1.trans e2) R2) k1⟩
    | false => exact ⟨G1, s1, R1, wb.mono _ _ _ (fun d2 s2 k2 v H2 G2 e2 R2 => k2 v H2 G2 (e1.trans e2) R2) k1⟩) k⟩
end
end DI
/-! Subscripts, displays, arguments, calls. -/
namespace DI
open PySem L2
variable [Nm]
section
variable {X : Cx} {p : Pl} {e a b : Expr} {es : List Expr} {pos : Pos} {w wa wb : W}

/-! ### subscripts -/
def gIx : D → D → Option D
  | .lst ds, .int i => atI ds i
  | .tup ds, .int i => atI ds i
  | .str z, .int i => (atI z.cps.toList i).map fun c => .str ⟨#[c]⟩
  | _, _ => none
def cIx : D → D → Prop
  | .str z, _ => z.length ≤ sizeLine
  | _, _ => True
theorem RpA.atI {K : PySem.W.Frag} {dr : Option Addr} {G : Hp} {xs : List V} {ds : List D} {i : Int} {d : D} (h : RpA K dr G xs ds) (e : L2.atI ds i = some d) : ∃ v, L2.atI xs i = some v ∧ Rp K dr G v d := by
  unfold L2.atI at e ⊢
  rw [h.length]
  cases q : ixN ds.length i with
  | none => rw [q] at e; cases e
  | some j =>
    rw [q] at e
    exact h.get (i := j) (d := d) e
theorem od_ix (hK : p.K = X.K) : OpD p (rIx X.K) cIx gIx := by
  intro G H x y d1 d2 d Q hs r1 r2 hc hg k1 k2
  cases d1 <;> cases d2 <;> simp only [gIx] at hg <;> try cases hg
  · cases rb_str r1
    cases rb_int r2
    rename_i z i
    cases q : atI z.cps.toList i with
    | none => rw [q] at hg; cases hg
    | some c =>
      rw [q] at hg
      cases hg
      exact .inr (.inr ⟨_, _, c, rfl, rfl, hc, q, k1 _ (.str _)⟩)
  · obtain ⟨a, xs, rfl, h, k⟩ := r1
    cases rb_int r2
    obtain ⟨v, ev, rv⟩ := k.atI hg
    exact .inl ⟨a, xs, _, v, rfl, rfl, SqL.of h, ev, k1 _ rv⟩
  · obtain ⟨a, xs, rfl, _, h, k⟩ := rb_tup hs r1
    cases rb_int r2
    obtain ⟨v, ev, rv⟩ := k.atI hg
    exact .inr (.inl ⟨a, xs, _, v, rfl, rfl, hK ▸ h, ev, k1 _ rv⟩)
theorem pd_ix (ha : PE X a (lift p wa)) (hb : PE X b (lift p wb)) (hK : p.K = X.K := by rfl) (hs : PlainIx b := by exact fun _ _ => rfl) : PE X (.Subscript a b pos) (lift p (wBin cIx gIx wa wb)) := PE.imp (pe_ix ix_seq ha hb hs) (op_lift (od_ix hK))
theorem pd_ixV (i : Nat) (ha : PE X a (tVar i)) (hb : PE X b (lift p wb)) (hK : p.K = X.K := by rfl) (hs : PlainIx b := by exact fun _ _ => rfl) : PE X (.Subscript a b pos) (lift p (wBinV cIx gIx i wb)) := PE.imp (pe_ix ix_seq ha hb hs) (opV_lift (od_ix hK))

/-! ### slices -/
structure WO where
  f : S → (Option Int → S → Prop) → Prop
  mono : ∀ s P P', (∀ d s', P d s' → P' d s') → f s P → f s P'
def liftO (p : Pl) (w : WO) : TO := fun σ H Q => ∃ G s, p.Rs σ H G s ∧ w.f s fun o s' => ∀ H' G', Same G G' → p.Rs σ H' G' s' → Q o H'
def wNoPart : WO := ⟨fun s P => P none s, fun _ _ _ h q => h _ _ q⟩
def wPart (w : W) : WO := ⟨fun s P => w.f s fun d s1 => get (match d with | .int i => some i | _ => none) fun i => P (some i) s1, fun s P P' h q => w.mono _ _ _ (fun d s1 q => get_mono (fun i q => h _ _ q) q) q⟩
theorem od_none : PO X none (liftO p wNoPart) := ⟨fun pins s σ H Q I ⟨G, st, R, k⟩ => po_none.run pins s σ H Q I (k H G (Same.refl G) R)⟩
theorem od_some (h : PE X e (lift p w)) : PO X (some e) (liftO p (wPart w)) := ⟨fun pins s σ H Q I ⟨G, st, R, k⟩ => (po_some h).run pins s σ H Q I ⟨G, st, R, w.mono _ _ _ (fun d s1 k1 v H1 G1 e1 R1 r1 => by
  obtain ⟨i, ei, k2⟩ := get_of k1
  cases d <;> cases ei
  cases r1
  exact ⟨i, rfl, k2 H1 G1 e1 R1⟩) k⟩⟩
def cutL {α : Type} (xs : List α) (lo hi : Option Int) : List α := (xs.drop (HT.sIx xs.length 0 lo)).take (HT.sIx xs.length xs.length hi - HT.sIx xs.length 0 lo)
def gSl : D → Option Int → Option Int → Option D
  | .lst ds, lo, hi => some (.lst (cutL ds lo hi))
  | .tup ds, lo, hi => some (.tup (cutL ds lo hi))
  | .str z, lo, hi => some (.str (cutS z lo hi))
  | _, _, _ => none
def cSl : D → Prop
  | .str z => z.length ≤ sizeLine
  | _ => True
def wSl (wa : W) (lo hi : WO) : W := ⟨fun s P => wa.f s fun d s1 => lo.f s1 fun l s2 => hi.f s2 fun h s3 => cSl d ∧ get (gSl d l h) fun z => P z s3,
  fun s P P' h q => wa.mono _ _ _ (fun d s1 q => lo.mono _ _ _ (fun l s2 q => hi.mono _ _ _ (fun u s3 q => ⟨q.1, get_mono (fun z => h z s3) q.2⟩) q) q) q⟩
def wSlV (i : Nat) (lo hi : WO) : W := ⟨fun s P => get (vget s.env i) fun _ => lo.f s fun l s2 => hi.f s2 fun h s3 => get (vget s3.env i) fun d => cSl d ∧ get (gSl d l h) fun z => P z s3,
  fun s P P' h q => get_mono (fun _ q => lo.mono _ _ _ (fun l s2 q => hi.mono _ _ _ (fun u s3 q => get_mono (fun d q => ⟨q.1, get_mono (fun z => h z s3) q.2⟩) q) q) q) q⟩
theorem RpA.cut {K : PySem.W.Frag} {dr : Option Addr} {G : Hp} {xs : List V} {ds : List D} (h : RpA K dr G xs ds) (lo hi : Option Int) : RpA K dr G (cutV xs lo hi) (cutL ds lo hi) := by
  unfold cutV cutL
  rw [h.length]
  exact (h.drop _).take _
def rSlX (K : PySem.W.Frag) : V → Option Int → Option Int → Hp → VK → Prop := fun x lo hi H Q => rSlL K x lo hi H Q ∨ (rSlA K x lo hi H Q ∨ rSlS x lo hi H Q)
theorem sl_X : L2.SlR X (rSlX X.K) := sl_list.or (sl_tupA.or sl_str)
theorem slx_of {G H : Hp} {x : V} {d z : D} {l h : Option Int} {Q : VK} (hK : p.K = X.K) (hs : Sub G H) (r : RpB p H G x d) (hc : cSl d) (hg : gSl d l h = some z) (k1 : ∀ v, p.Rp G v z → Q v H)
    (k2 : ∀ a o, H a = none → p.Rp (upd G a o) (.ref a) z → Q (.ref a) (upd H a o)) : rSlX X.K x l h H Q := by
  cases d <;> simp only [gSl] at hg <;> cases hg
  · cases rb_str r
    exact .inr (.inr ⟨_, rfl, hc, k1 _ (.str _)⟩)
  · obtain ⟨a, xs, rfl, h1, k⟩ := r
    exact .inl ⟨a, xs, rfl, SqL.of h1, fun q hq => k2 q _ hq (.lst upd_same ((k.cut l h).mono (Same.upd (hs.none hq))))⟩
  · obtain ⟨a, xs, rfl, h0, h1, k⟩ := rb_tup hs r
    refine .inr (.inl ⟨a, xs, rfl, hK ▸ h1, fun ⟨q1, q2⟩ => ?_, fun _ q hq => k2 q _ hq (.tup (.inl (.inl upd_same)) ((k.cut l h).mono (Same.upd (hs.none hq))))⟩)
    have e : cutL ‹List D› l h = ‹List D› := by
      unfold cutL
      rw [k.length] at q1 q2
      rw [q1, q2]
      simp
    rw [e] at k1
    exact k1 _ (.tup h0 k)
theorem pd_sl {p2 : Pos} {lo hi : Option Expr} {wl wh : WO} (ha : PE X a (lift p wa)) (hl : PO X lo (liftO p wl)) (hh : PO X hi (liftO p wh)) (hK : p.K = X.K := by rfl) : PE X (.Subscript a (.Slice lo hi none p2) pos) (lift p (wSl wa wl wh)) :=
  PE.imp (pe_slice sl_X ha hl hh) fun σ H Q ⟨G, s, R, k⟩ => ⟨G, s, R, wa.mono _ _ _ (fun d s1 k1 x H1 G1 e1 R1 r1 => ⟨G1, s1, R1, wl.mono _ _ _ (fun l s2 k2 H2 G2 e2 R2 => ⟨G2, s2, R2, wh.mono _ _ _ (fun u s3 k3 H3 G3 e3 R3 => by
    obtain ⟨kc, kg⟩ := k3
    obtain ⟨z, ez, kz⟩ := get_of kg
    have e13 := (e1.trans e2).trans e3
    exact slx_of hK R3.sub (.of R3.sub (r1.mono (e2.trans e3))) kc ez (fun v rv => kz v H3 G3 e13 R3 rv) fun q o hq rq => by
      obtain ⟨Gn, en, Rn, _, rn⟩ := R3.fresh hq
      exact kz _ _ _ (e13.trans en) Rn (rn _ _ rq)) k2⟩) k1⟩) k⟩
/-- xs[::-1] of a list -/
def gRev : D → Option D
  | .lst ds => some (.lst ds.reverse)
  | _ => none
def wRev (wa : W) : W := ⟨fun s P => wa.f s fun d s1 => get (gRev d) fun z => P z s1, fun s P P' h q => wa.mono _ _ _ (fun d s1 q => get_mono (fun z => h z s1) q) q⟩
def wRevV (i : Nat) : W := ⟨fun s P => get (vget s.env i) fun d => get (gRev d) fun z => P z s, fun s P P' h q => get_mono (fun d q => get_mono (fun z => h z s) q) q⟩
/-! ### arguments -/
/-- values by their modes: borrowed, or plain data -/
inductive RpM (p : Pl) (H G : Hp) : List Bool → List V → List D → Prop
  | nil : RpM p H G [] [] []
  | val {v : V} {d : D} {ms : List Bool} {vs : List V} {ds : List D} : p.Rp G v d → RpM p H G ms vs ds → RpM p H G (false :: ms) (v :: vs) (d :: ds)
  | bor {v : V} {d : D} {ms : List Bool} {vs : List V} {ds : List D} : RpB p H G v d → RpM p H G ms vs ds → RpM p H G (true :: ms) (v :: vs) (d :: ds)
def liftM (p : Pl) (ms : List Bool) (w : WA) : TA := fun σ H Q => ∃ G s, p.Rs σ H G s ∧ w.f s fun ds s' => ∀ vs H' G', Same G G' → p.Rs σ H' G' s' → RpM p H' G' ms vs ds → Q vs H'
def waNil : WA := ⟨fun s P => P [] s, fun _ _ _ h q => h _ _ q⟩
def waCons (w : W) (t : WA) : WA := ⟨fun s P => w.f s fun d s1 => t.f s1 fun ds s2 => P (d :: ds) s2, fun s P P' h q => w.mono _ _ _ (fun d s1 q => t.mono _ _ _ (fun ds s2 q => h _ _ q) q) q⟩
def waBor (i : Nat) (t : WA) : WA := ⟨fun s P => get (vget s.env i) fun _ => t.f s fun ds s2 => get (vget s2.env i) fun d => P (d :: ds) s2, fun s P P' h q => get_mono (fun _ q => t.mono _ _ _ (fun ds s2 q => get_mono (fun d q => h _ _ q) q) q) q⟩
variable {ms : List Bool} {t : WA}
theorem ad_nil : PA X [] (liftM p [] waNil) := PA.imp pa_nil fun σ H Q ⟨G, s, R, k⟩ => k [] H G (Same.refl G) R .nil
theorem ad_cons (h : PE X e (lift p w)) (ht : PA X es (liftM p ms t)) (hs : starEach (e :: es) X.env = (false, eval e X.env) :: starEach es X.env := by rfl) : PA X (e :: es) (liftM p (false :: ms) (waCons w t)) :=
  PA.imp (pa_cons h ht hs) fun σ H Q ⟨G, s, R, k⟩ => ⟨G, s, R, w.mono _ _ _ (fun d s1 k1 v H1 G1 e1 R1 r1 => ⟨G1, s1, R1, t.mono _ _ _ (fun ds s2 k2 vs H2 G2 e2 R2 r2 => k2 _ H2 G2 (e1.trans e2) R2 (.val (r1.mono e2) r2)) k1⟩) k⟩
theorem ad_bor (i : Nat) (h : PE X e (tVar i)) (ht : PA X es (liftM p ms t)) (hs : starEach (e :: es) X.env = (false, eval e X.env) :: starEach es X.env := by rfl) : PA X (e :: es) (liftM p (true :: ms) (waBor i t)) :=
  PA.imp (pa_cons h ht hs) fun σ H Q ⟨G, s, R, k⟩ => by
    obtain ⟨d0, e0, k⟩ := get_of k
    obtain ⟨x, hx, _⟩ := vget_rb R e0
    refine ⟨x, hx, G, s, R, t.mono _ _ _ (fun ds s2 k2 vs H2 G2 e2 R2 r2 => ?_) k⟩
    obtain ⟨d, ed, kd⟩ := get_of k2
    obtain ⟨x', ex, rx⟩ := vget_rb R2 ed
    rw [hx] at ex
    cases ex
    exact kd _ H2 G2 e2 R2 (.bor rx r2)
/-- all plain -/
theorem RpM.all {H G : Hp} : ∀ {ms : List Bool} {vs : List V} {ds : List D}, RpM p H G ms vs ds → (∀ m ∈ ms, m = false) → p.RpA G vs ds
  | _, _, _, .nil, _ => .nil
  | _, _, _, .val r t, h => .cons r (RpM.all t fun m hm => h m (List.mem_cons_of_mem _ hm))
  | _, _, _, .bor r t, h => nomatch h true List.mem_cons_self
theorem RpM.length {H G : Hp} : ∀ {ms : List Bool} {vs : List V} {ds : List D}, RpM p H G ms vs ds → vs.length = ms.length ∧ ds.length = ms.length
  | _, _, _, .nil => ⟨rfl, rfl⟩
  | _, _, _, .val r t => ⟨by rw [List.length_cons, List.length_cons, (RpM.length t).1], by rw [List.length_cons, List.length_cons, (RpM.length t).2]⟩
  | _, _, _, .bor r t => ⟨by rw [List.length_cons, List.length_cons, (RpM.length t).1], by rw [List.length_cons, List.length_cons, (RpM.length t).2]⟩
/-! ### displays -/
def wTup (t : WA) : W := ⟨fun s P => t.f s fun ds s1 => ds.length ≤ sizeLine ∧ P (.tup ds) s1, fun s P P' h q => t.mono _ _ _ (fun ds s1 q => ⟨q.1, h _ _ q.2⟩) q⟩
def wLst (t : WA) : W := ⟨fun s P => t.f s fun ds s1 => ds.length ≤ sizeLine ∧ P (.lst ds) s1, fun s P P' h q => t.mono _ _ _ (fun ds s1 q => ⟨q.1, h _ _ q.2⟩) q⟩
theorem pd_tup {x1} (h : PA X es (liftM p ms t)) (hm : ∀ m ∈ ms, m = false := by decide) : PE X (.Tuple es x1 pos) (lift p (wTup t)) :=
  PE.imp (pe_tup h) fun σ H Q ⟨G, s, R, k⟩ => ⟨G, s, R, t.mono _ _ _ (fun ds s1 k1 vs H1 G1 e1 R1 r1 => by
    have ra := r1.all hm
    exact ⟨by rw [ra.length]; exact k1.1, fun q hq => k1.2 _ _ _ (e1.trans (Same.upd (R1.sub.none hq))) (R1.alloc hq) (.tup (.inl (.inl upd_same)) (ra.mono (Same.upd (R1.sub.none hq))))⟩) k⟩
theorem pd_lst (h : PA X es (liftM p ms t)) (hm : ∀ m ∈ ms, m = false := by decide) : PE X (.List es pos) (lift p (wLst t)) :=
  PE.imp (pe_lst h) fun σ H Q ⟨G, s, R, k⟩ => ⟨G, s, R, t.mono _ _ _ (fun ds s1 k1 vs H1 G1 e1 R1 r1 => by
    have ra := r1.all hm
    exact ⟨by rw [ra.length]; exact k1.1, fun q hq => k1.2 _ _ _ (e1.trans (Same.upd (R1.sub.none hq))) (R1.alloc hq) (.lst upd_same (ra.mono (Same.upd (R1.sub.none hq))))⟩) k⟩

/-! ### calls of built-ins -/
def CallD (p : Pl) (r : List V → Hp → VK → Prop) (ms : List Bool) (c : List D → Prop) (g : List D → Option D) : Prop :=
  ∀ (G H : Hp) (vs : List V) (ds : List D) (d : D) (Q : VK), Sub G H → RpM p H G ms vs ds → c ds → g ds = some d → (∀ v, p.Rp G v d → Q v H) → (∀ a o, H a = none → p.Rp (upd G a o) (.ref a) d → Q (.ref a) (upd H a o)) → r vs H Q
def wFn (c : List D → Prop) (g : List D → Option D) (t : WA) : W := ⟨fun s P => t.f s fun ds s1 => c ds ∧ get (g ds) fun d => P d s1, fun s P P' h q => t.mono _ _ _ (fun ds s1 q => ⟨q.1, get_mono (fun d => h d s1) q.2⟩) q⟩
theorem fn_lift {r : List V → Hp → VK → Prop} {c : List D → Prop} {g : List D → Option D} (hd : CallD p r ms c g) (σ : St) (H : Hp) (Q : VK) (h : lift p (wFn c g t) σ H Q) : tCB r (liftM p ms t) σ H Q := by
  obtain ⟨G, s, R, k⟩ := h
  refine ⟨G, s, R, t.mono _ _ _ (fun ds s1 k1 vs H1 G1 e1 R1 r1 => ?_) k⟩
  obtain ⟨kc, kg⟩ := k1
  obtain ⟨d, ed, kd⟩ := get_of kg
  exact hd G1 H1 vs ds d Q R1.sub r1 kc ed (fun v rv => kd v H1 G1 e1 R1 rv) fun q o hq rq => by
      obtain ⟨Gn, en, Rn, _, rn⟩ := R1.fresh hq
      exact kd _ _ _ (e1.trans en) Rn (rn _ _ rq)
/-- a built-in: its name, its value, its rule by data -/
structure BtR (X : Cx) (p : Pl) (x : Str) (ms : List Bool) (c : List D → Prop) (g : List D → Option D) : Prop where
  ex : (∃ (id : String) (r : List V → Hp → VK → Prop), bootBuiltins x = some (.builtin id) ∧ CallR X (.builtin id) r ∧ CallD p r ms c g) ∨ (∃ (T : String) (r : List V → Hp → VK → Prop), bootBuiltins x = some (.type T) ∧ CallR X (.type T) r ∧ CallD p r ms c g)
theorem pd_bt {x : Str} {pf : Pos} {c : List D → Prop} {g : List D → Option D} (B : BtR X p x ms c g) (hm : X.mg x = none) (ha : PA X (e :: es) (liftM p ms t)) (hg : Gl X x := by rfl) (hn : x ≠ "__name__" := by decide) (hdb : (x == ("__debug__" : Str)) = false := by decide)
    (hs : starEach (e :: es) X.env = (false, eval e X.env) :: starEach es X.env := by rfl) (hpl : (backTo pos (starEach es X.env)).any (·.1) = false := by rfl) : PE X (.Call (.Name x pf) (e :: es) [] pos) (lift p (wFn c g t)) := by
  rcases B.ex with ⟨id, r, hv, h1, h2⟩ | ⟨T, r, hv, h1, h2⟩
  · exact PE.imp (pe_callB h1 hg hm hv ha hn hdb hs hpl) (fn_lift h2)
  · exact PE.imp (pe_callTy h1 hg hm hv ha hn hdb hs hpl) (fn_lift h2)
def c0 : List D → Prop := fun _ => True
theorem rm1 {H G : Hp} {m : Bool} {vs : List V} {ds : List D} (hs : Sub G H) (h : RpM p H G [m] vs ds) : ∃ v d, vs = [v] ∧ ds = [d] ∧ RpB p H G v d := by
  cases h with
  | val r t => cases t; exact ⟨_, _, rfl, rfl, .of hs r⟩
  | bor r t => cases t; exact ⟨_, _, rfl, rfl, r⟩
/-- len -/
def gLen : List D → Option D
  | [.lst ds] => some (.int ds.length)
  | [.tup ds] => some (.int ds.length)
  | [.str z] => some (.int z.length)
  | [.dic0] => some (.int 0)
  | _ => none
def cLen : List D → Prop
  | [.str z] => z.length ≤ sizeLine
  | [.dic0] => False
  | _ => True
theorem bt_len {m : Bool} (hK : p.K = X.K := by rfl) : BtR X p "len" [m] cLen gLen := ⟨.inl ⟨_, _, PySem.boot_len, call_len_seq.or call_len_str, fun G H vs ds d Q hs r hc hg k1 k2 => by
  obtain ⟨v, d0, rfl, rfl, rb⟩ := rm1 hs r
  cases d0 <;> simp only [gLen] at hg <;> cases hg
  · cases rb_str rb
    exact .inr ⟨_, rfl, hc, k1 _ (.int _)⟩
  · obtain ⟨a, xs, rfl, h, k⟩ := rb
    exact .inl ⟨a, xs, rfl, .inl (SqL.of h), by rw [k.length]; exact k1 _ (.int _)⟩
  · obtain ⟨a, xs, rfl, _, h, k⟩ := rb_tup hs rb
    exact .inl ⟨a, xs, rfl, .inr (hK ▸ h), by rw [k.length]; exact k1 _ (.int _)⟩
  · exact hc.elim⟩⟩
/-- tuple, list of a list or a tuple -/
def gTuple : List D → Option D
  | [.lst ds] => some (.tup ds)
  | [.tup ds] => some (.tup ds)
  | _ => none
def gList : List D → Option D
  | [.lst ds] => some (.lst ds)
  | [.tup ds] => some (.lst ds)
  | _ => none
theorem bt_tuple {m : Bool} (hK : p.K = X.K := by rfl) : BtR X p "tuple" [m] c0 gTuple := ⟨.inr ⟨_, _, by decide +kernel, call_tuple_of, fun G H vs ds d Q hs r hc hg k1 k2 => by
  obtain ⟨v, d0, rfl, rfl, rb⟩ := rm1 hs r
  cases d0 <;> simp only [gTuple] at hg <;> cases hg
  · obtain ⟨a, xs, rfl, h, k⟩ := rb
    exact ⟨a, xs, rfl, .inl ⟨SqL.of h, fun q hq => k2 q _ hq (.tup (.inl (.inl upd_same)) (k.mono (Same.upd (hs.none hq))))⟩⟩
  · obtain ⟨a, xs, rfl, h0, h, k⟩ := rb_tup hs rb
    exact ⟨a, xs, rfl, .inr ⟨hK ▸ h, k1 _ (.tup h0 k)⟩⟩⟩⟩
/-- int of an int, a bool; str of an int; ord; all, any of truths -/
def gInt : List D → Option D
  | [.int i] => some (.int i)
  | [.bl b] => some (.int (if b then 1 else 0))
  | _ => none
theorem bt_int : BtR X p "int" [false] c0 gInt := ⟨.inr ⟨_, _, by decide +kernel, call_int1, fun G H vs ds d Q hs r hc hg k1 k2 => by
  obtain ⟨v, d0, rfl, rfl, rb⟩ := rm1 hs r
  cases d0 <;> simp only [gInt] at hg <;> cases hg
  · cases rb_bl rb
    exact .inr ⟨_, rfl, k1 _ (.int _)⟩
  · cases rb_int rb
    exact .inl ⟨_, rfl, k1 _ (.int _)⟩⟩⟩
def gStr : List D → Option D
  | [.int i] => some (.str (toString i))
  | _ => none
def cStr : List D → Prop
  | [.int i] => i.natAbs.log2 < 1920
  | _ => True
def gOrd : List D → Option D
  | [.str x] => some (.int (x.cps.getD 0 0 : Nat))
  | _ => none
def cOrd : List D → Prop
  | [.str x] => x.length = 1
  | _ => True
def blsOf : List D → Option (List Bool)
  | [] => some []
  | .bl b :: ds => (blsOf ds).map (b :: ·)
  | _ :: _ => none
theorem bls_of {G : Hp} : ∀ {ds : List D} {bs : List Bool} {xs : List V}, blsOf ds = some bs → p.RpA G xs ds → xs = bs.map V.bl
  | [], bs, xs, e, h => by
    cases e
    cases h
    rfl
  | .bl b :: ds, bs, xs, e, h => by
    simp only [blsOf, Option.map_eq_some_iff] at e
    obtain ⟨cs, e1, rfl⟩ := e
    cases h with
    | cons r t =>
      cases r
      rw [bls_of e1 t]
      rfl
  | .non :: _, _, _, e, _ => by cases e
  | .int _ :: _, _, _, e, _ => by cases e
  | .str _ :: _, _, _, e, _ => by cases e
  | .lst _ :: _, _, _, e, _ => by cases e
  | .tup _ :: _, _, _, e, _ => by cases e
  | .drw :: _, _, _, e, _ => by cases e
  | .dic0 :: _, _, _, e, _ => by cases e
  | .dct _ _ :: _, _, _, e, _ => by cases e
def gAll : List D → Option D
  | [.lst ds] => (blsOf ds).map fun bs => .bl (bs.all (fun b => b))
  | _ => none
def gAny : List D → Option D
  | [.lst ds] => (blsOf ds).map fun bs => .bl (bs.any (fun b => b))
  | _ => none
theorem bt_all {m : Bool} (hc : X.calm = true := by rfl) : BtR X p "all" [m] c0 gAll := ⟨.inl ⟨_, _, by decide +kernel, cr_all hc, fun G H vs ds d Q hs r hc hg k1 k2 => by
  obtain ⟨v, d0, rfl, rfl, rb⟩ := rm1 hs r
  cases d0 <;> simp only [gAll] at hg <;> try cases hg
  obtain ⟨a, xs, rfl, h, k⟩ := rb
  obtain ⟨bs, e, rfl⟩ := Option.map_eq_some_iff.mp hg
  exact ⟨a, bs, rfl, SqL.of (by rw [← bls_of e k]; exact h), k1 _ (.bl _)⟩⟩⟩
/-- isinstance(x, T), T a built-in class -/
def tyD : D → Option String
  | .non => some "NoneType"
  | .bl _ => some "bool"
  | .int _ => some "int"
  | .str _ => some "str"
  | .lst _ => some "list"
  | .tup _ => some "tuple"
  | .dic0 => some "dict"
  | .dct _ _ => none
  | .drw => none
  | .exc _ _ _ => none
def isT (T t : String) : Bool := t == T || (t == "bool" && T == "int")
def gIsi (T : String) : D → Option D := fun d => (tyD d).map fun t => .bl (isT T t)
theorem tyx_of {G H : Hp} {x : V} {d : D} {t : String} (hs : Sub G H) (r : RpB p H G x d) (h : tyD d = some t) : TyX p.K H x (.type t) := by
  cases d <;> simp only [tyD] at h <;> cases h
  · cases rb_non r; exact .base .non
  · cases rb_bl r; exact .base (.bl _)
  · cases rb_int r; exact .base (.int _)
  · cases rb_str r; exact .base (.str _)
  · obtain ⟨a, xs, rfl, h, k⟩ := r
    exact .base (.lst h)
  · obtain ⟨a, xs, rfl, h0, h, k⟩ := rb_tup hs r
    rcases h with (h | ⟨o, h⟩) | ⟨o, its, n, h, hc, _⟩
    · exact .base (.tup h)
    · exact .fTuple h
    · exact .kTuple h hc
  · have r' : p.Rp G x .dic0 := r
    cases r' with
    | dic0 h _ => exact .base (.dK (hs _ _ h))
def wIsi (T : String) (w : W) : W := ⟨fun s P => w.f s fun d s1 => get (gIsi T d) fun z => P z s1, fun s P P' h q => w.mono _ _ _ (fun d s1 q => get_mono (fun z => h z s1) q) q⟩
def KitT (K : PySem.W.Frag) (T : String) : Prop := ∀ d t, tyD d = some t → PySem.W.kitOne K (.type t) (.type T) = some (isT T t)
theorem kit_all (K : PySem.W.Frag) {T : String} (h : ∀ t ∈ ["NoneType", "bool", "int", "str", "list", "tuple", "dict"], PySem.W.kitOne K (.type t) (.type T) = some (isT T t)) : KitT K T := fun d t e => h t (by
  cases d <;> simp only [tyD] at e <;> cases e <;> simp)
theorem pd_isi {T : String} {x : Str} {pf pt : Pos} (ha : PE X e (lift p w)) (hv : bootBuiltins x = some (.type T)) (hk : KitT X.K T) (hmi : X.mg "isinstance" = none) (hmx : X.mg x = none) (hK : p.K = X.K := by rfl) (hgi : Gl X "isinstance" := by rfl) (hg : Gl X x := by rfl)
    (hn : x ≠ "__name__" := by decide) (hdb : (x == ("__debug__" : Str)) = false := by decide) (hs : starEach (e :: [.Name x pt]) X.env = (false, eval e X.env) :: starEach [.Name x pt] X.env := by rfl) (hs2 : starEach [.Name x pt] X.env = (false, eval (.Name x pt) X.env) :: starEach [] X.env := by rfl)
    (hpl : (backTo pos (starEach [.Name x pt] X.env)).any (·.1) = false := by rfl) : PE X (.Call (.Name "isinstance" pf) [e, .Name x pt] [] pos) (lift p (wIsi T w)) := by
  have hx : PE X (.Name x pt) (tC (.ty T)) := pe_bltn hg hmx hv rfl hn hdb
  refine PE.imp (pe_callB call_isi hgi hmi (by decide +kernel) (pa_cons ha (pa_cons hx pa_nil hs2) hs) (by decide) (by decide) hs hpl) fun σ H Q ⟨G, s, R, k⟩ => ⟨G, s, R, w.mono _ _ _ (fun d s1 k1 v H1 G1 e1 R1 r1 => ?_) k⟩
  obtain ⟨z, ez, kz⟩ := get_of k1
  obtain ⟨t, et, rfl⟩ := Option.map_eq_some_iff.mp ez
  exact ⟨v, .ty T, .type t, .type T, isT T t, rfl, .ty T, hK ▸ tyx_of R1.sub (.of R1.sub r1) et, hk d t et, kz _ H1 G1 e1 R1 (.bl _)⟩

/-! ### methods of texts -/
def strD : D → Option Str
  | .str z => some z
  | _ => none
theorem strD_of {d : D} {z : Str} (h : strD d = some z) : d = .str z := by
  cases d <;> cases h
  rfl
def wMt (c : Str → D → Prop) (g : Str → D → Option D) (wa wb : W) : W := ⟨fun s P => wa.f s fun d1 s1 => get (strD d1) fun z => wb.f s1 fun d2 s2 => c z d2 ∧ get (g z d2) fun d => P d s2,
  fun s P P' h q => wa.mono _ _ _ (fun d1 s1 q => get_mono (fun z q => wb.mono _ _ _ (fun d2 s2 q => ⟨q.1, get_mono (fun d => h d s2) q.2⟩) q) q) q⟩
/-- o.m(x), o a text -/
structure MtD (X : Cx) (p : Pl) (name : Str) (c : Str → D → Prop) (g : Str → D → Option D) : Prop where
  ex : ∃ (id : String) (r : V → List V → Hp → VK → Prop), Slot "str" name id ∧ typeOf (.builtin id) = pure (.type "method_descriptor") ∧ MtR X id r ∧
    ∀ (G H : Hp) (z : Str) (y : V) (d2 d : D) (Q : VK), Sub G H → RpB p H G y d2 → c z d2 → g z d2 = some d → (∀ v, p.Rp G v d → Q v H) → (∀ a o, H a = none → p.Rp (upd G a o) (.ref a) d → Q (.ref a) (upd H a o)) → r (.str z) [y] H Q
theorem pd_mt {name : Str} {apos : Pos} {c : Str → D → Prop} {g : Str → D → Option D} (M : MtD X p name c g) (ha : PE X a (lift p wa)) (hb : PE X b (lift p wb)) (hs : starEach [b] X.env = [(false, eval b X.env)] := by rfl)
    (hbase : attributeBase a name X.env (eval a X.env) = eval a X.env := by rfl) (hline : (apos.endLine == pos.line) = true := by rfl) : PE X (.Call (.Attribute a name apos) [b] [] pos) (lift p (wMt c g wa wb)) := by
  obtain ⟨id, r, h1, h2, h3, h4⟩ := M.ex
  refine PE.imp (pe_m1 h1 h2 h3 ha hb hs hbase hline) fun σ H Q ⟨G, s, R, k⟩ => ⟨G, s, R, wa.mono _ _ _ (fun d1 s1 k1 x H1 G1 e1 R1 r1 => ?_) k⟩
  obtain ⟨z, ez, k2⟩ := get_of k1
  cases strD_of ez
  cases r1
  refine ⟨⟨z, rfl⟩, G1, s1, R1, wb.mono _ _ _ (fun d2 s2 k3 y H2 G2 e2 R2 r2 => ?_) k2⟩
  obtain ⟨kc, kg⟩ := k3
  obtain ⟨d, ed, kd⟩ := get_of kg
  exact h4 G2 H2 z y d2 d Q R2.sub (.of R2.sub r2) kc ed (fun v rv => kd v H2 G2 (e1.trans e2) R2 rv) fun q o hq rq => by
      obtain ⟨Gn, en, Rn, _, rn⟩ := R2.fresh hq
      exact kd _ _ _ ((e1.trans e2).trans en) Rn (rn _ _ rq)
def cZ : Str → D → Prop := fun _ _ => True
/-- sep.join(list or tuple of texts) -/
def strsOf : List D → Option (List Str)
  | [] => some []
  | .str b :: ds => (strsOf ds).map (b :: ·)
  | _ :: _ => none
theorem strs_of {G : Hp} : ∀ {ds : List D} {bs : List Str} {xs : List V}, strsOf ds = some bs → p.RpA G xs ds → xs = bs.map V.str
  | [], bs, xs, e, h => by
    cases e
    cases h
    rfl
  | .str b :: ds, bs, xs, e, h => by
    simp only [strsOf, Option.map_eq_some_iff] at e
    obtain ⟨cs, e1, rfl⟩ := e
    cases h with
    | cons r t =>
      cases r
      rw [strs_of e1 t]
      rfl
  | .non :: _, _, _, e, _ => by cases e
  | .int _ :: _, _, _, e, _ => by cases e
  | .bl _ :: _, _, _, e, _ => by cases e
  | .lst _ :: _, _, _, e, _ => by cases e
  | .tup _ :: _, _, _, e, _ => by cases e
  | .drw :: _, _, _, e, _ => by cases e
  | .dic0 :: _, _, _, e, _ => by cases e
  | .dct _ _ :: _, _, _, e, _ => by cases e
def rowD : D → Option (List D)
  | .lst ds => some ds
  | .tup ds => some ds
  | _ => none
def cJoin : Str → D → Prop := fun z d => ∀ ys, (rowD d).bind strsOf = some ys → (ys.map (·.length)).sum + ys.length * z.length ≤ 16777216
def gJoin : Str → D → Option D := fun z d => ((rowD d).bind strsOf).map fun ys => .str (Txt.join z ys)
theorem mt_jn (hK : p.K = X.K := by rfl) : MtD X p "join" cJoin gJoin := ⟨_, _, F.slot_str_join, F.type_str_join, mt_join, fun G H z y d2 d Q hs r hc hg k1 k2 => by
  obtain ⟨ys, e, rfl⟩ := Option.map_eq_some_iff.mp hg
  have hz := hc ys e
  cases d2 with
  | lst ds =>
    obtain ⟨a, xs, rfl, h, k⟩ := r
    exact ⟨z, a, ys, rfl, rfl, .inl (SqL.of (by rw [← strs_of e k]; exact h)), hz, k1 _ (.str _)⟩
  | tup ds =>
    obtain ⟨a, xs, rfl, h0, h, k⟩ := rb_tup hs r
    exact ⟨z, a, ys, rfl, rfl, .inr (by rw [← strs_of e k]; exact hK ▸ h), hz, k1 _ (.str _)⟩
  | _ => cases e⟩

/-! ### calls of own functions -/
structure FT where
  f : List D → Nat → (D → Nat → Prop) → Prop
  mono : ∀ ds n P P', (∀ d m, P d m → P' d m) → f ds n P → f ds n P'
/-- the promise by data -/
def SpD (K : PySem.W.Frag) (dr : Option Addr) (ms : List Bool) (F : FT) : Sp := fun vs H Q _ => ∃ (G : Hp) (ds : List D) (n : Nat), Sub G H ∧ Drw G H dr n ∧ RpM ⟨K, dr, H, G⟩ H G ms vs ds ∧
  F.f ds n fun d m => ∀ v H' G', Same G G' → Bse dr H H' → Sub G' H' → New H G G' → Drw G' H' dr m → Rp K dr G' v d → Q v H'
theorem Rs.call {σ : St} {H G H' G' : Hp} {s : S} {m : Nat} (R : p.Rs σ H G s) (e : Same G G') (b : Bse p.dr H H') (sb : Sub G' H') (nw : New H G G') (d : Drw G' H' p.dr m) : p.Rs σ H' G' { s with n := m } := by
  have there : ∀ {q : Addr} {o : HO}, p.dr ≠ some q → H q = some o → G q = none → G' q = none := fun {q o} hd h g => nw q g (by rw [h]; exact fun z => by cases z)
  refine ⟨sb, R.base.trans b, fun a h1 h2 => ?_, R.len, fun i x hx => ?_, R.inj, R.injD, d⟩
  · by_cases hd : p.dr = some a
    · exact (d a hd).free
    · cases h0 : p.H0 a with
      | none => exact absurd h0 h2
      | some o =>
        obtain ⟨o', h'⟩ := R.base.there hd h0
        exact there hd h' (R.new a h1 h2)
  · have q := R.slot i x hx
    cases x with
    | emp => trivial
    | val y =>
      obtain ⟨u, e1, r⟩ := q
      exact ⟨u, e1, r.mono e⟩
    | own ds =>
      obtain ⟨q1, xs, e1, h1, h2, h3, h4, r⟩ := q
      exact ⟨q1, xs, e1, b.keep _ _ h3 h1 nt_lst, there h3 h1 h2, h3, h4, r.mono e⟩
    | bor ds =>
      obtain ⟨q1, xs, e1, h1, h2, r⟩ := q
      refine ⟨q1, xs, e1, b.keep _ _ (fun z => ?_) h1 nt_lst, h2, r.mono e⟩
      obtain ⟨_, L, _, _, _, _, h5, _⟩ := R.drw q1 z
      rw [h1] at h5
      cases h5
    | dic ks ds =>
      obtain ⟨q1, xs, e1, h1, h2, h3, h4, h5, r⟩ := q
      exact ⟨q1, xs, e1, b.keep _ _ h3 h1 nt_dK, there h3 h1 h2, h3, h4, h5, r.mono e⟩
def wCall (F : FT) (t : WA) : W := ⟨fun s P => t.f s fun ds s1 => F.f ds s1.n fun d m => P d { s1 with n := m }, fun s P P' h q => t.mono _ _ _ (fun ds s1 q => F.mono _ _ _ _ (fun d m q => h _ _ q) q) q⟩
theorem RpM.at_ {p p' : Pl} {H G : Hp} (h1 : p'.K = p.K) (h2 : p'.dr = p.dr) : ∀ {ms : List Bool} {vs : List V} {ds : List D}, RpM p H G ms vs ds → RpM p' H G ms vs ds
  | _, _, _, .nil => .nil
  | _, _, _, .val r t => .val (by unfold Pl.Rp; rw [h1, h2]; exact r) (RpM.at_ h1 h2 t)
  | _, _, _, .bor (d := d) r t => .bor (by
    cases d with
    | lst ds =>
      obtain ⟨a, xs, e, h, k⟩ := r
      exact ⟨a, xs, e, h, by unfold Pl.RpA; rw [h1, h2]; exact k⟩
    | _ => exact (by unfold Pl.Rp; rw [h1, h2]; exact r : p'.Rp G _ _)) (RpM.at_ h1 h2 t)
theorem call_lift {F : FT} (σ : St) (H : Hp) (Q : VK) (h : lift p (wCall F t) σ H Q) : tCall (SpD p.K p.dr ms F) [] E0 (liftM p ms t) σ H Q := by
  obtain ⟨G, s, R, k⟩ := h
  refine ⟨G, s, R, t.mono _ _ _ (fun ds s1 k1 vs H1 G1 e1 R1 r1 => ?_) k⟩
  show SpD p.K p.dr ms F (vs ++ []) H1 Q E0
  rw [List.append_nil]
  exact ⟨G1, ds, s1.n, R1.sub, R1.drw, RpM.at_ (p := p) (p' := ⟨p.K, p.dr, H1, G1⟩) rfl rfl r1, F.mono _ _ _ _ (fun d m q v H' G' e b sb nw dw rv => q v H' G' (e1.trans e) (Rs.call R1 e b sb nw dw) rv) k1⟩
end
end DI
/-! Statements, loops, comprehensions, a def by its body. -/
namespace DI
open PySem L2
variable [Nm]

structure ED where
  nx : S → Prop
  rt : D → S → Prop
  bk : S → Prop := fun _ => False
  ct : S → Prop := fun _ => False
structure ED.Le (E E' : ED) : Prop where
  nx : ∀ s, E.nx s → E'.nx s
  rt : ∀ d s, E.rt d s → E'.rt d s
  bk : ∀ s, E.bk s → E'.bk s
  ct : ∀ s, E.ct s → E'.ct s
structure WS where
  f : ED → S → Prop
  mono : ∀ E E' s, ED.Le E E' → f E s → f E' s
structure Cmp (p : Pl) (G : Hp) (E : ED) (D : Ends) : Prop where
  nx : ∀ σ' H' G' s', Same G G' → p.Rs σ' H' G' s' → E.nx s' → D.nx σ' H'
  rt : ∀ v σ' H' G' d s', Same G G' → p.Rs σ' H' G' s' → p.Rp G' v d → E.rt d s' → D.rt v H'
  bk : ∀ σ' H' G' s', Same G G' → p.Rs σ' H' G' s' → E.bk s' → D.bk σ' H'
  ct : ∀ σ' H' G' s', Same G G' → p.Rs σ' H' G' s' → E.ct s' → D.ct σ' H'
theorem Cmp.mono {p : Pl} {G G1 : Hp} {E : ED} {D : Ends} (e : Same G G1) (c : Cmp p G E D) : Cmp p G1 E D :=
  ⟨fun σ' H' G' s' a => c.nx σ' H' G' s' (e.trans a), fun v σ' H' G' d s' a => c.rt v σ' H' G' d s' (e.trans a), fun σ' H' G' s' a => c.bk σ' H' G' s' (e.trans a), fun σ' H' G' s' a => c.ct σ' H' G' s' (e.trans a)⟩
def liftS (p : Pl) (w : WS) : TS := fun D σ H => ∃ G s E, p.Rs σ H G s ∧ w.f E s ∧ Cmp p G E D

section
variable {X : Cx} {p : Pl} {e a b c : Expr} {es : List Expr} {pos : Pos} {w wa wb : W} {t : WT} {u v : WS} {st : Stmt} {rest sa sb : List Stmt}
/-! ### blocks -/
def wNext : WS := ⟨fun E s => E.nx s, fun _ _ s h => h.nx s⟩
def wSeq (u v : WS) : WS := ⟨fun E s => u.f { E with nx := v.f E } s, fun E E' s h => u.mono _ _ s ⟨fun s' => v.mono _ _ s' h, h.rt, h.bk, h.ct⟩⟩
theorem sd_nil : PSs X [] (liftS p wNext) := PSs.imp pss_nil fun D σ H ⟨G, s, E, R, k, q⟩ => q.nx σ H G s (Same.refl G) R k
theorem sd_cons (h1 : PS X st (liftS p u)) (h2 : PSs X rest (liftS p v)) : PSs X (st :: rest) (liftS p (wSeq u v)) :=
  PSs.imp (pss_cons h1 h2) fun D σ H ⟨G, s, E, R, k, q⟩ => ⟨G, s, _, R, k, fun σ' H' G' s' a R' k' => ⟨G', s', E, R', k', q.mono a⟩, q.rt, q.bk, q.ct⟩
theorem sd_one (h1 : PS X st (liftS p u)) : PSs X [st] (liftS p u) := pss_one h1
def wBreak : WS := ⟨fun E s => E.bk s, fun _ _ s h => h.bk s⟩
def wCont : WS := ⟨fun E s => E.ct s, fun _ _ s h => h.ct s⟩
def wDrop (w : W) : WS := ⟨fun E s => w.f s fun _ s1 => E.nx s1, fun E E' s h q => w.mono _ _ _ (fun _ s1 => h.nx s1) q⟩
theorem sd_expr (h : PE X e (lift p w)) (hs : swapsWith e none pos.line X.env = pure false := by rfl) : PS X (.Expr e pos) (liftS p (wDrop w)) :=
  PS.imp (ps_expr h hs) fun D σ H ⟨G, s, E, R, k, q⟩ => ⟨G, s, R, w.mono _ _ _ (fun d s1 k1 x H1 G1 e1 R1 r1 => q.nx σ H1 G1 s1 e1 R1 k1) k⟩
def wRet (w : W) : WS := ⟨fun E s => w.f s fun d s1 => E.rt d s1, fun E E' s h q => w.mono _ _ _ (fun d s1 => h.rt d s1) q⟩
theorem sd_ret (h : PE X e (lift p w)) : PS X (.Return (some e) pos) (liftS p (wRet w)) :=
  PS.imp (ps_ret h) fun D σ H ⟨G, s, E, R, k, q⟩ => ⟨G, s, R, w.mono _ _ _ (fun d s1 k1 x H1 G1 e1 R1 r1 => q.rt x σ H1 G1 d s1 e1 R1 r1 k1) k⟩
def wRetN : WS := ⟨fun E s => E.rt .non s, fun E E' s h => h.rt _ s⟩
def wIfS (t : WT) (u v : WS) : WS := ⟨fun E s => t.f s fun b s1 => if b = true then u.f E s1 else v.f E s1, fun E E' s h q => t.mono _ _ _ (fun b s1 q => by
  cases b with
  | true => exact u.mono _ _ _ h q
  | false => exact v.mono _ _ _ h q) q⟩
theorem sd_if (hc : PT X c (liftT p t)) (ha : PSs X sa (liftS p u)) (hb : PSs X sb (liftS p v)) : PS X (.If c sa sb pos) (liftS p (wIfS t u v)) :=
  PS.imp (ps_if hc ha hb) fun D σ H ⟨G, s, E, R, k, q⟩ => ⟨G, s, R, t.mono _ _ _ (fun b s1 k1 H1 G1 e1 R1 => by
    cases b with
    | true => exact ⟨G1, s1, E, R1, k1, q.mono e1⟩
    | false => exact ⟨G1, s1, E, R1, k1, q.mono e1⟩) k⟩
def wNever : WS := ⟨fun _ _ => False, fun _ _ _ _ h => h⟩
theorem sd_never : PS X st (liftS p wNever) := PS.imp ps_never fun D σ H ⟨G, s, E, R, k, q⟩ => k.elim

/-! ### stores -/
def wSet (i : Nat) (w : W) : WS := ⟨fun E s => w.f s fun d s1 => i < s1.env.length ∧ E.nx { s1 with env := s1.env.set i (.val d) }, fun E E' s h q => w.mono _ _ _ (fun d s1 q => ⟨q.1, h.nx _ q.2⟩) q⟩
theorem sd_set (i : Nat) {x : Str} {pos' : Pos} (hN : X.N.Nodup) (he : PE X e (lift p w)) (hi : X.N[i]? = some x := by rfl) (hx : Loc X.env.scope x := by first | exact .inl rfl | exact .inr rfl) (hs : swapsWith e (some (.Name x pos')) pos.line X.env = pure false := by rfl)
    (hf : X.fn x = true ∨ X.env.scope.names.lookup x = some .local := by first | exact .inl rfl | exact .inr rfl) : PS X (.Assign [.Name x pos'] e pos) (liftS p (wSet i w)) :=
  PS.imp (ps_set hN hi hx he hs hf) fun D σ H ⟨G, s, E, R, k, q⟩ => ⟨G, s, R, w.mono _ _ _ (fun d s1 k1 v H1 G1 e1 R1 r1 => q.nx _ H1 G1 _ e1 (R1.set (by rw [← R1.len]; exact k1.1) r1) k1.2) k⟩
/-- a new list, not kept by anyone yet -/
def liftL (p : Pl) (w : WA) : TE := fun σ H Q => ∃ G s, p.Rs σ H G s ∧ w.f s fun ds s' => ∀ q xs H' G', Same G G' → p.Rs σ H' G' s' → p.RpA G' xs ds → H' q = none → Q (.ref q) (upd H' q (.lst xs))
def wOfL (w : WA) : W := ⟨fun s P => w.f s fun ds s1 => P (.lst ds) s1, fun s P P' h q => w.mono _ _ _ (fun ds s1 q => h _ _ q) q⟩
variable {tl : WA}
theorem pd_ofL (h : PE X e (liftL p tl)) : PE X e (lift p (wOfL tl)) :=
  PE.imp h fun σ H Q ⟨G, s, R, k⟩ => ⟨G, s, R, tl.mono _ _ _ (fun ds s1 k1 q xs H1 G1 e1 R1 r1 hq => k1 _ _ _ (e1.trans (Same.upd (R1.sub.none hq))) (R1.alloc hq) (.lst upd_same (r1.mono (Same.upd (R1.sub.none hq))))) k⟩
def wsz (t : WA) : WA := ⟨fun s P => t.f s fun ds s1 => ds.length ≤ sizeLine ∧ P ds s1, fun s P P' h q => t.mono _ _ _ (fun ds s1 q => ⟨q.1, h _ _ q.2⟩) q⟩
theorem ld_lst {ms : List Bool} {ta : WA} (h : PA X es (liftM p ms ta)) (hm : ∀ m ∈ ms, m = false := by decide) : PE X (.List es pos) (liftL p (wsz ta)) :=
  PE.imp (pe_lst h) fun σ H Q ⟨G, s, R, k⟩ => ⟨G, s, R, ta.mono _ _ _ (fun ds s1 k1 vs H1 G1 e1 R1 r1 => by
    have ra := r1.all hm
    exact ⟨by rw [ra.length]; exact k1.1, fun q hq => k1.2 q vs H1 G1 e1 R1 ra hq⟩) k⟩
def wOwn (i : Nat) (t : WA) : WS := ⟨fun E s => t.f s fun ds s1 => i < s1.env.length ∧ E.nx { s1 with env := s1.env.set i (.own ds) }, fun E E' s h q => t.mono _ _ _ (fun d s1 q => ⟨q.1, h.nx _ q.2⟩) q⟩
theorem sd_own (i : Nat) {x : Str} {pos' : Pos} (hN : X.N.Nodup) (he : PE X e (liftL p tl)) (hi : X.N[i]? = some x := by rfl) (hx : Loc X.env.scope x := by first | exact .inl rfl | exact .inr rfl) (hs : swapsWith e (some (.Name x pos')) pos.line X.env = pure false := by rfl)
    (hf : X.fn x = true ∨ X.env.scope.names.lookup x = some .local := by first | exact .inl rfl | exact .inr rfl) : PS X (.Assign [.Name x pos'] e pos) (liftS p (wOwn i tl)) :=
  PS.imp (ps_set hN hi hx he hs hf) fun D σ H ⟨G, s, E, R, k, q⟩ => ⟨G, s, R, tl.mono _ _ _ (fun ds s1 k1 y xs H1 G1 e1 R1 r1 hq => q.nx _ _ G1 _ e1 (R1.setOwn (by rw [← R1.len]; exact k1.1) hq r1) k1.2) k⟩
/-- a, b = x, y: plain values -/
def wPar (i j : Nat) (t : WA) : WS := ⟨fun E s => t.f s fun ds s1 => ∃ d1 d2, ds = [d1, d2] ∧ i < s1.env.length ∧ j < s1.env.length ∧ E.nx { s1 with env := (s1.env.set i (.val d1)).set j (.val d2) },
  fun E E' s h q => t.mono _ _ _ (fun ds s1 ⟨d1, d2, e, h1, h2, q⟩ => ⟨d1, d2, e, h1, h2, h.nx _ q⟩) q⟩
theorem sd_par (i j : Nat) {ms : List Bool} {ta : WA} {x y : Str} {px py pt : Pos} {kt k2 pt2} (hN : X.N.Nodup) (ha : PA X [a, b] (liftM p ms ta)) (hm : ∀ m ∈ ms, m = false := by decide) (hc : X.calm = true := by rfl) (hi : X.N[i]? = some x := by rfl) (hj : X.N[j]? = some y := by rfl) (hij : i ≠ j := by decide)
    (hx : X.env.scope.names.lookup x = some .local := by rfl) (hy : X.env.scope.names.lookup y = some .local := by rfl)
    (hw : swappedStores [.Tuple [.Name x px, .Name y py] kt pt] (.Tuple [a, b] k2 pt2) X.env = pure (some [x, y]) := by rfl)
    (hs : swapsWithSole [.Tuple [.Name x px, .Name y py] kt pt] (.Tuple [a, b] k2 pt2) pos.line X.env = pure false := by rfl) : PS X (.Assign [.Tuple [.Name x px, .Name y py] kt pt] (.Tuple [a, b] k2 pt2) pos) (liftS p (wPar i j ta)) :=
  PS.imp (ps_par hc hN hi hj hij hx hy ha hw hs) fun D σ H ⟨G, s, E, R, k, q⟩ => ⟨G, s, R, ta.mono _ _ _ (fun ds s1 ⟨d1, d2, ed, h1, h2, k1⟩ vs H1 G1 e1 R1 r1 => by
    subst ed
    have ra := r1.all hm
    cases ra with
    | cons ra1 t1 =>
      cases t1 with
      | cons ra2 t2 =>
        cases t2
        have R2 := R1.set (i := i) (by rw [← R1.len]; exact h1) ra1
        have R3 := R2.set (i := j) (by rw [List.length_set, ← R1.len]; exact h2) ra2
        exact ⟨_, _, rfl, q.nx _ H1 G1 _ e1 R3 k1⟩) k⟩
/-- target = value by a target's rule -/
def liftG (p : Pl) (g : D → List Sl → Option (List Sl)) : TG := fun v σ H Q => ∃ G s d env', p.Rs σ H G s ∧ p.Rp G v d ∧ g d s.env = some env' ∧ ∀ σ' H' G', Same G G' → p.Rs σ' H' G' { s with env := env' } → Q σ' H'
def gNm (i : Nat) : D → List Sl → Option (List Sl) := fun d env => if i < env.length then some (env.set i (.val d)) else none
theorem PG.imp {tg : Expr} {t t' : TG} (h : PG X tg t) (i : ∀ v σ H Q, t' v σ H Q → t v σ H Q) : PG X tg t' := ⟨fun pins s σ H v u Q I r k => h.run pins s σ H v u Q I r (i v σ H Q k)⟩
theorem gd_name (i : Nat) {x : Str} (hN : X.N.Nodup) (hi : X.N[i]? = some x := by rfl) (hx : Loc X.env.scope x := by first | exact .inl rfl | exact .inr rfl) (hf : X.fn x = true ∨ X.env.scope.names.lookup x = some .local := by first | exact .inl rfl | exact .inr rfl) : PG X (.Name x pos) (liftG p (gNm i)) :=
  PG.imp (pg_name hN hi hx hf) fun v σ H Q ⟨G, s, d, env', R, r, g, k⟩ => by
    unfold gNm at g
    split at g
    · cases g
      exact k _ H G (Same.refl G) (R.set (by rw [← R.len]; assumption) r)
    · cases g
/-- several targets -/
def liftGs (p : Pl) (g : List D → List Sl → Option (List Sl)) : TGs := fun vs σ H Q => ∃ G s ds env', p.Rs σ H G s ∧ p.RpA G vs ds ∧ g ds s.env = some env' ∧ ∀ σ' H' G', Same G G' → p.Rs σ' H' G' { s with env := env' } → Q σ' H'
def gsNil : List D → List Sl → Option (List Sl)
  | [], env => some env
  | _, _ => none
def gsCons (g : D → List Sl → Option (List Sl)) (gs : List D → List Sl → Option (List Sl)) : List D → List Sl → Option (List Sl)
  | d :: ds, env => (g d env).bind (gs ds)
  | _, _ => none
theorem PGs.imp {tg : List Expr} {t t' : TGs} (h : PGs X tg t) (i : ∀ v σ H Q, t' v σ H Q → t v σ H Q) : PGs X tg t' := ⟨fun pins s σ H v u Q I r k => h.run pins s σ H v u Q I r (i v σ H Q k)⟩
theorem gds_nil : PGs X [] (liftGs p gsNil) := PGs.imp pgs_nil fun vs σ H Q ⟨G, s, ds, env', R, r, g, k⟩ => by
  cases r with
  | nil =>
    cases g
    exact ⟨rfl, k σ H G (Same.refl G) R⟩
  | cons _ _ => cases g
theorem gds_cons {g : D → List Sl → Option (List Sl)} {gs : List D → List Sl → Option (List Sl)} (h1 : PG X e (liftG p g)) (h2 : PGs X es (liftGs p gs)) (hs : (assignEach (e :: es) X.env).map (·.2) = assign e X.env :: (assignEach es X.env).map (·.2) := by rfl) :
    PGs X (e :: es) (liftGs p (gsCons g gs)) := PGs.imp (pgs_cons h1 h2 hs) fun vs σ H Q ⟨G, s, ds, env', R, r, hg, k⟩ => by
  cases r with
  | nil => cases hg
  | cons r t =>
    simp only [gsCons, Option.bind_eq_some_iff] at hg
    obtain ⟨env1, g1, g2⟩ := hg
    exact ⟨_, _, rfl, G, s, _, env1, R, r, g1, fun σ' H' G' e1 R1 => ⟨G', _, _, env', R1, t.mono e1, g2, fun σ2 H2 G2 e2 R2 => k σ2 H2 G2 (e1.trans e2) R2⟩⟩
def gTp (n : Nat) (gs : List D → List Sl → Option (List Sl)) : D → List Sl → Option (List Sl)
  | .tup ds, env => if ds.length = n then gs ds env else none
  | _, _ => none
theorem gd_tup {k : Nat} {n : Nat} {gs : List D → List Sl → Option (List Sl)} (h : PGs X es (liftGs p gs)) (hK : p.K = X.K := by rfl) (hc : X.calm = true := by rfl) (hn : (assignEach es X.env).length = n := by rfl) (hst : (assignEach es X.env).findIdx? (·.1) = none := by rfl) :
    PG X (.Tuple es k pos) (liftG p (gTp n gs)) := PG.imp (pg_tup hc h hn hst) fun v σ H Q ⟨G, s, d, env', R, r, hg, k⟩ => by
  cases d <;> simp only [gTp] at hg <;> try cases hg
  split at hg
  · cases r with
    | tup h1 r1 => exact ⟨_, _, rfl, hK ▸ Same.tup R.sub.go h1, by rw [r1.length]; assumption, G, s, _, env', R, r1, hg, k⟩
  · cases hg
def wAsgT (g : D → List Sl → Option (List Sl)) (w : W) : WS := ⟨fun E s => w.f s fun d s1 => get (g d s1.env) fun env' => E.nx { s1 with env := env' }, fun E E' s h q => w.mono _ _ _ (fun d s1 q => get_mono (fun env' q => h.nx _ q) q) q⟩
theorem sd_asg {tg : Expr} {g : D → List Sl → Option (List Sl)} (he : PE X e (lift p w)) (hg : PG X tg (liftG p g)) (hs : swapsWithSole [tg] e pos.line X.env = pure false := by rfl) (hw : swappedStores [tg] e X.env = pure none := by rfl)
    (h1 : (assignEach [tg] X.env).map (·.2) = [assign tg X.env] := by rfl) : PS X (.Assign [tg] e pos) (liftS p (wAsgT g w)) :=
  PS.imp (ps_asg he hg hs hw h1) fun D σ H ⟨G, s, E, R, k, q⟩ => ⟨G, s, R, w.mono _ _ _ (fun d s1 k1 v H1 G1 e1 R1 r1 => by
    obtain ⟨env', eg, kn⟩ := get_of k1
    exact ⟨G1, s1, d, env', R1, r1, eg, fun σ' H' G' e2 R2 => q.nx σ' H' G' _ (e1.trans e2) R2 kn⟩) k⟩

/-! ### what is walked -/
structure WI where
  f : S → (List D → S → Prop) → Prop
  mono : ∀ s P P', (∀ d s', P d s' → P' d s') → f s P → f s P'
def Yl (p : Pl) (H G : Hp) (x : V) (H' : Hp) (d : D) : Prop := (H' = H ∧ p.Rp G x d) ∨ ∃ q o, H q = none ∧ H' = upd H q o ∧ x = .ref q ∧ p.Rp (upd G q o) x d
def Src (p : Pl) (J : It) (ds : List D) (G : Hp) : Prop := ∀ i H' G', Same G G' → Sub G' H' → (∀ d, ds[i]? = some d → J.go i H' ∧ ∀ x H'', J.yld i H' x H'' → Yl p H' G' x H'' d) ∧ (ds.length ≤ i → J.stop i H')
def liftI (p : Pl) (w : WI) : TI := fun σ H R => ∃ G s, p.Rs σ H G s ∧ w.f s fun ds s' => ∀ J H' G', Same G G' → p.Rs σ H' G' s' → Src p J ds G' → R J H'
theorem PI.imp {tg : Expr} {t t' : TI} (h : PI X tg e t) (i : ∀ σ H R, t' σ H R → t σ H R) : PI X tg e t' := ⟨fun pins s σ H R I k => h.run pins s σ H R I (i σ H R k)⟩
def lstD : D → Option (List D)
  | .lst ds => some ds
  | _ => none
def tupD : D → Option (List D)
  | .tup ds => some ds
  | _ => none
def wiL (w : W) : WI := ⟨fun s P => w.f s fun d s1 => get (lstD d) fun ds => P ds s1, fun s P P' h q => w.mono _ _ _ (fun d s1 q => get_mono (fun ds q => h _ _ q) q) q⟩
def wiT (w : W) : WI := ⟨fun s P => w.f s fun d s1 => get (tupD d) fun ds => P ds s1, fun s P P' h q => w.mono _ _ _ (fun d s1 q => get_mono (fun ds q => h _ _ q) q) q⟩
def chrs (z : Str) : List D := z.cps.toList.map fun c => .str ⟨#[c]⟩
def wiS (w : W) : WI := ⟨fun s P => w.f s fun d s1 => get (strD d) fun z => P (chrs z) s1, fun s P P' h q => w.mono _ _ _ (fun d s1 q => get_mono (fun z q => h _ _ q) q) q⟩
variable {tg : Expr}
theorem src_list {q : Addr} {xs : List V} {ds : List D} {G : Hp} (h : G q = some (.lst xs)) (k : p.RpA G xs ds) : Src p (Itl X.K q) ds G := fun i H' G' e hs => by
  have h' : H' q = some (.lst xs) := hs _ _ (e _ _ h)
  refine ⟨fun d hd => ?_, fun hi => ⟨xs, SqL.of h', by rw [k.length]; exact hi⟩⟩
  obtain ⟨x, hx, rx⟩ := k.get hd
  refine ⟨⟨xs, x, SqL.of h', hx⟩, fun y H'' ⟨e1, e2⟩ => .inl ⟨e1, ?_⟩⟩
  have e3 := e2 xs (SqL.of h')
  rw [hx] at e3
  cases e3
  exact rx.mono e
theorem src_tup {q : Addr} {xs : List V} {ds : List D} {G : Hp} (hK : p.K = X.K) (h : SqT p.K G q xs) (k : p.RpA G xs ds) : Src p (Itt X.K q) ds G := fun i H' G' e hs => by
  have h' : SqT X.K H' q xs := hK ▸ Same.tup hs.go (Same.tup e h)
  refine ⟨fun d hd => ?_, fun hi => ⟨xs, h', by rw [k.length]; exact hi⟩⟩
  obtain ⟨x, hx, rx⟩ := k.get hd
  refine ⟨⟨xs, x, h', hx⟩, fun y H'' ⟨e1, e2⟩ => .inl ⟨e1, ?_⟩⟩
  have e3 := e2 xs h'
  rw [hx] at e3
  cases e3
  exact rx.mono e
theorem src_str {z : Str} {G : Hp} : Src p (Its z) (chrs z) G := fun i H' G' e hs => by
  refine ⟨fun d hd => ?_, fun hi => ?_⟩
  · unfold chrs at hd
    rw [List.getElem?_map] at hd
    cases q : z.cps.toList[i]? with
    | none => rw [q] at hd; cases hd
    | some c =>
      rw [q] at hd
      cases hd
      have hlt : i < z.cps.size := by
        have := (List.getElem?_eq_some_iff.mp q).1
        simpa using this
      refine ⟨hlt, fun y H'' ⟨e1, c', hc, e2⟩ => .inl ⟨e1, ?_⟩⟩
      rw [Array.getElem?_toList] at q
      rw [q] at hc
      cases hc
      subst e2
      exact .str _
  · show z.cps.size ≤ i
    unfold chrs at hi
    simpa using hi
theorem id_str (h : PE X e (lift p w)) : PI X tg e (liftI p (wiS w)) := PI.imp (pi_str h) fun σ H Rr ⟨G, s, R, k⟩ => ⟨G, s, R, w.mono _ _ _ (fun d s1 k1 x H1 G1 e1 R1 r1 => by
  obtain ⟨z, ez, k2⟩ := get_of k1
  cases strD_of ez
  cases r1
  exact ⟨z, rfl, k2 _ H1 G1 e1 R1 src_str⟩) k⟩
/-- range(n), range(lo, hi) -/
def rngD (lo : Int) (n : Nat) : List D := (List.range n).map fun (i : Nat) => D.int (lo + (i : Int))
theorem src_rng {lo : Int} {n : Nat} {G : Hp} : Src p (Itr lo n) (rngD lo n) G := fun i H' G' e hs => by
  unfold rngD
  refine ⟨fun d hd => ?_, fun hi => (show n ≤ i by simpa using hi)⟩
  rw [List.getElem?_map] at hd
  by_cases hi : i < n
  · rw [List.getElem?_range hi] at hd
    cases hd
    refine ⟨hi, fun y H'' ⟨e1, e2⟩ => .inl ⟨e1, ?_⟩⟩
    subst e2
    exact .int _
  · rw [List.getElem?_eq_none (by simpa using hi)] at hd
    cases hd
def wiR1 (t : WA) : WI := ⟨fun s P => t.f s fun ds s1 => ∃ j, ds = [.int j] ∧ -(2 ^ 62) ≤ j ∧ j < 2 ^ 62 ∧ P (rngD 0 j.toNat) s1, fun s P P' h q => t.mono _ _ _ (fun ds s1 ⟨j, e, a, b, q⟩ => ⟨j, e, a, b, h _ _ q⟩) q⟩
def wiR2 (t : WA) : WI := ⟨fun s P => t.f s fun ds s1 => ∃ i j, ds = [.int i, .int j] ∧ (-(2 ^ 62) ≤ i ∧ i < 2 ^ 62 ∧ -(2 ^ 62) ≤ j ∧ j < 2 ^ 62) ∧ P (rngD i (j - i).toNat) s1, fun s P P' h q => t.mono _ _ _ (fun ds s1 ⟨i, j, e, a, q⟩ => ⟨i, j, e, a, h _ _ q⟩) q⟩
theorem id_range1 {ta : WA} {pf : Pos} (ha : PA X [e] (liftM p [false] ta)) (hm : X.mg "range" = none) (hg : Gl X "range" := by rfl) (hs : starEach [e] X.env = [(false, eval e X.env)] := by rfl) : PI X tg (.Call (.Name "range" pf) [e] [] pos) (liftI p (wiR1 ta)) :=
  PI.imp (pi_range1 hg hm ha hs) fun σ H Rr ⟨G, s, R, k⟩ => ⟨G, s, R, ta.mono _ _ _ (fun ds s1 ⟨j, ed, h1, h2, k1⟩ vs H1 G1 e1 R1 r1 => by
    subst ed
    cases r1 with
    | val r t =>
      cases t
      cases r
      exact ⟨j, rfl, h1, h2, k1 _ H1 G1 e1 R1 src_rng⟩) k⟩
/-! ### for -/
def forW (g : D → List Sl → Option (List Sl)) (tb : WS) (E : ED) : List D → S → Prop
  | [], s => E.nx s
  | d :: ds, s => get (g d s.env) fun env' => tb.f { nx := forW g tb E ds, rt := E.rt, bk := E.nx, ct := forW g tb E ds } { s with env := env' }
theorem forW_mono {g : D → List Sl → Option (List Sl)} {tb : WS} {E E' : ED} (h : ED.Le E E') : ∀ ds s, forW g tb E ds s → forW g tb E' ds s
  | [], s, q => h.nx s q
  | d :: ds, s, q => get_mono (fun env' q => tb.mono { nx := forW g tb E ds, rt := E.rt, bk := E.nx, ct := forW g tb E ds } { nx := forW g tb E' ds, rt := E'.rt, bk := E'.nx, ct := forW g tb E' ds } _ (ED.Le.mk (forW_mono h ds) h.rt h.nx (forW_mono h ds)) q) q
def wForS (wi : WI) (g : D → List Sl → Option (List Sl)) (tb : WS) : WS := ⟨fun E s => wi.f s fun ds s1 => forW g tb E ds s1, fun E E' s h q => wi.mono _ _ _ (fun ds s1 q => forW_mono h ds s1 q) q⟩
theorem sd_for {wi : WI} {g : D → List Sl → Option (List Sl)} {tb : WS} {body : List Stmt} (hi : PI X tg e (liftI p wi)) (hg : PG X tg (liftG p g)) (hb : PSs X body (liftS p tb)) (hp : PassesOwn (model X.prog X.w) X.A X.env X.xe := by exact PassesOwn.never) (hc : X.calm = true := by rfl) (hs : ∀ x, foldedSetIterable e X.env x = pure x := by intro _; rfl) :
    PS X (.For tg e body [] pos) (liftS p (wForS wi g tb)) := PS.imp (ps_for hp hc hi hg hb hs) fun D σ H ⟨G, s, E, R, k, q⟩ => ⟨G, s, R, wi.mono _ _ _ (fun ds s1 k1 J H1 G1 e1 R1 src => by
    refine ⟨fun i m σ' H' => m = ds.length - i ∧ i ≤ ds.length ∧ ∃ G' s', Same G1 G' ∧ p.Rs σ' H' G' s' ∧ forW g tb E (ds.drop i) s', ⟨ds.length, by simp, Nat.zero_le _, G1, s1, Same.refl G1, R1, by simpa using k1⟩, ?_⟩
    rintro i m σ' H' ⟨rfl, hi, G', s', e2, R2, k2⟩
    obtain ⟨s1', s2'⟩ := src i H' G' e2 R2.sub
    by_cases hlt : i < ds.length
    · right
      have hd : ds[i]? = some ds[i] := List.getElem?_eq_getElem hlt
      obtain ⟨go, yl⟩ := s1' _ hd
      rw [List.drop_eq_getElem_cons hlt] at k2
      obtain ⟨env', eg, k3⟩ := get_of k2
      refine ⟨go, fun σ2 H2 => ∃ G2 s2, Same G1 G2 ∧ p.Rs σ2 H2 G2 s2 ∧ forW g tb E (ds.drop (i + 1)) s2, fun σ2 H2 ⟨G2, s2, z1, z2, z3⟩ => ⟨ds.length - (i + 1), by omega, rfl, hlt, G2, s2, z1, z2, z3⟩, fun x H'' y => ?_⟩
      have cm : ∀ {G3 : Hp}, Same G1 G3 → Cmp p G3 { nx := forW g tb E (ds.drop (i + 1)), rt := E.rt, bk := E.nx, ct := forW g tb E (ds.drop (i + 1)) } { D with nx := fun σ2 H2 => ∃ G2 s2, Same G1 G2 ∧ p.Rs σ2 H2 G2 s2 ∧ forW g tb E (ds.drop (i + 1)) s2, ct := fun σ2 H2 => ∃ G2 s2, Same G1 G2 ∧ p.Rs σ2 H2 G2 s2 ∧ forW g tb E (ds.drop (i + 1)) s2, bk := D.nx } := fun {G3} e3 =>
        ⟨fun σ4 H4 G4 s4 a R4 k4 => ⟨G4, s4, e3.trans a, R4, k4⟩, fun v σ4 H4 G4 d4 s4 a R4 r4 k4 => q.rt v σ4 H4 G4 d4 s4 (e1.trans (e3.trans a)) R4 r4 k4, fun σ4 H4 G4 s4 a R4 k4 => q.nx σ4 H4 G4 s4 (e1.trans (e3.trans a)) R4 k4, fun σ4 H4 G4 s4 a R4 k4 => ⟨G4, s4, e3.trans a, R4, k4⟩⟩
      rcases yl x H'' y with ⟨rfl, rx⟩ | ⟨q1, o, hq, rfl, rfl, rx⟩
      · exact ⟨G', s', _, env', R2, rx, eg, fun σ3 H3 G3 e3 R3 => ⟨G3, _, _, R3, k3, cm (e2.trans e3)⟩⟩
      · obtain ⟨Gn, e4, Rn, _, rn⟩ := R2.fresh (o := o) hq
        exact ⟨_, s', _, env', Rn, rn _ _ rx, eg, fun σ3 H3 G3 e3 R3 => ⟨G3, _, _, R3, k3, cm ((e2.trans e4).trans e3)⟩⟩
    · left
      have e0 : i = ds.length := by omega
      subst e0
      rw [List.drop_length] at k2
      exact ⟨s2' (Nat.le_refl _), q.nx σ' H' G' s' (e1.trans e2) R2 k2⟩) k⟩
end
end DI
/-! Comprehensions; a def by its body; a slot's own list. -/
namespace DI
open PySem L2
variable [Nm]
section
variable {p : Pl} {σ : St} {H G H' G' : Hp} {s : S}
/-- the slots' lists stand elsewhere -/
def Away (σ : St) (env : List Sl) (D : Addr) : Prop := ∀ (i : Nat) (ds : List DI.D) (q : Addr), (env[i]? = some (.own ds) ∨ env[i]? = some (.bor ds) ∨ ∃ ks, env[i]? = some (.dic ks ds)) → σ[i]? = some (some (.ref q)) → q ≠ D
theorem Rs.away (R : p.Rs σ H G s) {D : Addr} (h : H D = none) : Away σ s.env D := fun i ds q e hq z => by
  subst z
  rcases e with e | e | ⟨ks, e⟩
  · obtain ⟨q1, xs, e1, h1, _⟩ := R.slot i _ e
    rw [hq] at e1
    cases e1
    rw [h] at h1
    cases h1
  · obtain ⟨q1, xs, e1, h1, _⟩ := R.slot i _ e
    rw [hq] at e1
    cases e1
    rw [h] at h1
    cases h1
  · obtain ⟨q1, xs, e1, h1, _⟩ := R.slot i _ e
    rw [hq] at e1
    cases e1
    rw [h] at h1
    cases h1
/-- an object that nobody knows is changed -/
theorem Rs.poke (R : p.Rs σ H G s) {D : Addr} (k : ∀ a, a ≠ D → H' a = H a) (aw : Away σ s.env D) (g : G D = none) (d : p.dr ≠ some D) (h0 : p.H0 D = none) (sf : Soft H D) : p.Rs σ H' G s := by
  refine ⟨⟨fun a o e => ?_, R.sub.nt⟩, R.base.upd k sf (.inl h0), R.new, R.len, fun i x hx => ?_, R.inj, R.injD, fun a ha => ?_⟩
  · have ne : a ≠ D := fun z => by rw [z, g] at e; cases e
    rw [k a ne]
    exact R.sub a o e
  · have q := R.slot i x hx
    cases x with
    | emp => trivial
    | val y => exact q
    | own ds =>
      obtain ⟨q1, xs, e1, h1, h2⟩ := q
      exact ⟨q1, xs, e1, by rw [k q1 (aw i ds q1 (.inl hx) e1)]; exact h1, h2⟩
    | bor ds =>
      obtain ⟨q1, xs, e1, h1, h2⟩ := q
      exact ⟨q1, xs, e1, by rw [k q1 (aw i ds q1 (.inr (.inl hx)) e1)]; exact h1, h2⟩
    | dic ks ds =>
      obtain ⟨q1, xs, e1, h1, h2⟩ := q
      exact ⟨q1, xs, e1, by rw [k q1 (aw i ds q1 (.inr (.inr ⟨ks, hx⟩)) e1)]; exact h1, h2⟩
  · obtain ⟨f, L, ns, x, l, u, e1, e2, kk⟩ := R.drw a ha
    have ne : a ≠ D := fun z => d (by rw [ha, z])
    exact ⟨f, L, ns, x, l, u, by rw [k a ne]; exact e1, e2, kk⟩
def toBor : Sl → Sl
  | .own ds => .bor ds
  | .dic _ _ => .emp
  | x => x
def wipeE : List Nat → List Sl → List Sl
  | [], env => env
  | v :: vs, env => (wipeE vs env).set v .emp
def innE (vs : List Nat) (env : List Sl) : List Sl := wipeE vs (env.map toBor)
theorem wipeE_length : ∀ (vs : List Nat) (env : List Sl), (wipeE vs env).length = env.length
  | [], _ => rfl
  | v :: vs, env => by rw [wipeE, List.length_set, wipeE_length vs env]
theorem innE_length (vs : List Nat) (env : List Sl) : (innE vs env).length = env.length := by
  unfold innE
  rw [wipeE_length, List.length_map]
theorem wipe_get {i : Nat} : ∀ {vs : List Nat} {env : List Sl} {x : Sl}, (wipeE vs env)[i]? = some x → x = .emp ∨ (env[i]? = some x ∧ (wipe σ vs)[i]? = σ[i]?)
  | [], env, x, h => .inr ⟨h, rfl⟩
  | v :: vs, env, x, h => by
    unfold wipeE at h
    by_cases hv : v = i
    · subst hv
      by_cases hl : v < (wipeE vs env).length
      · rw [List.getElem?_set_self hl] at h
        cases h
        exact .inl rfl
      · rw [List.getElem?_eq_none (by rw [List.length_set]; omega)] at h
        cases h
    · rw [List.getElem?_set_ne hv] at h
      rcases wipe_get h with q | ⟨q1, q2⟩
      · exact .inl q
      · refine .inr ⟨q1, ?_⟩
        show ((wipe σ vs).set v none)[i]? = σ[i]?
        rw [List.getElem?_set_ne hv]
        exact q2
/-- the block's own state -/
theorem Rs.inner (R : p.Rs σ H G s) (vs : List Nat) : (⟨p.K, p.dr, H, G⟩ : Pl).Rs (wipe σ vs) H G ⟨innE vs s.env, s.n⟩ := by
  refine ⟨R.sub, Bse.refl, fun a h1 _ => h1, by rw [wipe_length, innE_length]; exact R.len, fun i x hx => ?_, fun i j q ds es hij e1 e2 e3 => ?_, fun i j q ks ls ds es hij e1 e2 e3 => ?_, R.drw⟩
  · rcases wipe_get (σ := σ) hx with rfl | ⟨h1, h2⟩
    · trivial
    · rw [h2]
      rw [List.getElem?_map] at h1
      cases e : s.env[i]? with
      | none => rw [e] at h1; cases h1
      | some y =>
        rw [e] at h1
        cases h1
        have q := R.slot i y e
        cases y with
        | emp => trivial
        | val d => exact q
        | own ds =>
          obtain ⟨q1, xs, e1, h1, h2, h3, h4, r⟩ := q
          exact ⟨q1, xs, e1, h1, (by rw [show (⟨p.K, p.dr, H, G⟩ : Pl).H0 = H from rfl, h1]; exact (fun z => nomatch z)), r⟩
        | bor ds =>
          obtain ⟨q1, xs, e1, h1, h2, r⟩ := q
          exact ⟨q1, xs, e1, h1, (by rw [show (⟨p.K, p.dr, H, G⟩ : Pl).H0 = H from rfl, h1]; exact (fun z => nomatch z)), r⟩
        | dic ks ds => trivial
  · have no : ∀ {k : Nat} {fs : List D}, (innE vs s.env)[k]? ≠ some (.own fs) := fun {k fs} z => by
      rcases wipe_get (σ := σ) z with z | ⟨z, _⟩
      · cases z
      · rw [List.getElem?_map] at z
        cases e : s.env[k]? with
        | none => rw [e] at z; cases z
        | some y =>
          rw [e] at z
          cases y <;> cases z
    exact absurd e1 no
  · have no : ∀ {k : Nat} {ms : List Key} {fs : List D}, (innE vs s.env)[k]? ≠ some (.dic ms fs) := fun {k ms fs} z => by
      rcases wipe_get (σ := σ) z with z | ⟨z, _⟩
      · cases z
      · rw [List.getElem?_map] at z
        cases e : s.env[k]? with
        | none => rw [e] at z; cases z
        | some y =>
          rw [e] at z
          cases y <;> cases z
    exact absurd e1 no
end

section
variable {X : Cx} {p : Pl}
/-- a comprehension's target -/
structure LcT (p : Pl) (g : TG) (ge : D → List Sl → Option (List Sl)) (vs : List Nat) : Prop where
  run : ∀ (σ0 : St) (H0 G0 H G : Hp) (v : V) (d : D) (n : Nat) (env env' : List Sl), (⟨p.K, p.dr, H0, G0⟩ : Pl).Rs (wipe σ0 vs) H G ⟨env, n⟩ → p.Rp G v d → ge d env = some env' →
    ∃ σ2, wipe σ2 vs = wipe σ0 vs ∧ (⟨p.K, p.dr, H0, G0⟩ : Pl).Rs σ2 H G ⟨env', n⟩ ∧ ∀ Q : St → Hp → Prop, Q σ2 H → g v (wipe σ0 vs) H Q
theorem wipe_set_in {v : Nat} {x : Option V} : ∀ {vs : List Nat} {σ : St}, v ∈ vs → wipe (σ.set v x) vs = wipe σ vs
  | [], _, h => by cases h
  | u :: vs, σ, h => by
    unfold wipe
    by_cases e : v ∈ vs
    · rw [wipe_set_in e]
    · have e2 : v = u := by
        rcases List.mem_cons.mp h with z | z
        · exact z
        · exact absurd z e
      subst e2
      have comm : ∀ (ws : List Nat) (τ : St), v ∉ ws → wipe (τ.set v x) ws = (wipe τ ws).set v x := fun ws => by
        induction ws with
        | nil => intro τ _; rfl
        | cons w ws ih =>
          intro τ hw
          have h1 : v ≠ w := fun z => hw (by rw [z]; exact List.mem_cons_self)
          have h2 : v ∉ ws := fun z => hw (List.mem_cons_of_mem _ z)
          show (wipe (τ.set v x) ws).set w none = ((wipe τ ws).set w none).set v x
          rw [ih τ h2, List.set_comm _ _ h1]
      rw [comm vs σ e, List.set_set]
theorem wipe_twice : ∀ {vs : List Nat} {σ : St}, wipe (wipe σ vs) vs = wipe σ vs := fun {vs σ} => by
  have key : ∀ (ws : List Nat), (∀ w ∈ ws, w ∈ vs) → wipe (wipe σ ws) vs = wipe σ vs := fun ws => by
    induction ws with
    | nil => intro _; rfl
    | cons w ws ih =>
      intro h
      show wipe ((wipe σ ws).set w none) vs = wipe σ vs
      rw [wipe_set_in (h w List.mem_cons_self)]
      exact ih fun u hu => h u (List.mem_cons_of_mem _ hu)
  exact key vs fun _ h => h
theorem lct_name {j : Nat} {vs : List Nat} (h : j ∈ vs := by decide) : LcT p (gName j) (gNm j) vs := ⟨fun σ0 H0 G0 H G v d n env env' R r e => by
  unfold gNm at e
  split at e
  · cases e
    refine ⟨(wipe σ0 vs).set j (some v), by rw [wipe_set_in h, wipe_twice], ?_, fun Q q => q⟩
    exact Rs.set R (by rw [← R.len]; assumption) r
  · cases e⟩

/-- [elt for target in ds if ..] -/
def lcGo (ge : D → List Sl → Option (List Sl)) (vs : List Nat) (tt : WT) (te : W) (env : List Sl) : List D → List D → Nat → (List D → Nat → Prop) → Prop
  | [], acc, n, P => P acc n
  | d :: ds, acc, n, P => get (ge d (innE vs env)) fun env' => tt.f ⟨env', n⟩ fun b s1 => if b = true then te.f s1 fun y s2 => acc.length < sizeLine ∧ lcGo ge vs tt te env ds (acc ++ [y]) s2.n P else lcGo ge vs tt te env ds acc s1.n P
theorem lcGo_mono {ge : D → List Sl → Option (List Sl)} {vs : List Nat} {tt : WT} {te : W} {env : List Sl} {P P' : List D → Nat → Prop} (h : ∀ a n, P a n → P' a n) : ∀ (ds acc : List D) (n : Nat), lcGo ge vs tt te env ds acc n P → lcGo ge vs tt te env ds acc n P'
  | [], acc, n, q => h _ _ q
  | d :: ds, acc, n, q => get_mono (fun env' q => tt.mono _ _ _ (fun b s1 q => by
    cases b with
    | true => exact te.mono _ _ _ (fun y s2 q => ⟨q.1, lcGo_mono h ds _ _ q.2⟩) q
    | false => exact lcGo_mono h ds _ _ q) q) q
def wLc (wi : WI) (ge : D → List Sl → Option (List Sl)) (vs : List Nat) (tt : WT) (te : W) : WA := ⟨fun s P => wi.f s fun ds s1 => lcGo ge vs tt te s1.env ds [] s1.n fun acc n => P acc { s1 with n := n },
  fun s P P' h q => wi.mono _ _ _ (fun ds s1 q => lcGo_mono (fun a n q => h _ _ q) _ _ _ q) q⟩
def wtYes : WT := ⟨fun s P => P true s, fun _ _ _ h q => h _ _ q⟩
/-- the block's readings, wherever it starts -/
def liftX (p : Pl) (w : W) : TE := fun σ H Q => ∃ H0 G0, lift ⟨p.K, p.dr, H0, G0⟩ w σ H Q
def liftXT (p : Pl) (w : WT) : TT := fun σ H Q => ∃ H0 G0, liftT ⟨p.K, p.dr, H0, G0⟩ w σ H Q
theorem pe_X {Y : Cx} {e : Expr} {w : W} (h : ∀ H0 G0, PE Y e (lift ⟨p.K, p.dr, H0, G0⟩ w)) : PE Y e (liftX p w) := ⟨fun pins s σ H Q I ⟨H0, G0, k⟩ => (h H0 G0).run pins s σ H Q I k⟩
theorem pts_X {Y : Cx} {es : List Expr} {w : WT} (h : ∀ H0 G0, PTs Y es (liftT ⟨p.K, p.dr, H0, G0⟩ w)) : PTs Y es (liftXT p w) := ⟨fun pins s σ H Q I ⟨H0, G0, k⟩ => (h H0 G0).run pins s σ H Q I k⟩
theorem pts_yes {Y : Cx} : PTs Y [] (liftT p wtYes) := ⟨fun pins s σ H Q I ⟨G, st, R, k⟩ => pts_nil.run pins s σ H Q I (k H G (Same.refl G) R)⟩
theorem pts_of {Y : Cx} {c : Expr} {w : WT} (h : PT Y c (liftT p w)) : PTs Y [c] (liftT p w) := pts_one h

theorem lc_lift {wi : WI} {g : TG} {ge : D → List Sl → Option (List Sl)} {vs : List Nat} {tt : WT} {te : W} (T : LcT p g ge vs) (σ : St) (H : Hp) (Q : VK) (h : liftL p (wLc wi ge vs tt te) σ H Q) : tLc (liftI p wi) g (liftXT p tt) (liftX p te) vs σ H Q := by
  obtain ⟨G, s, R, k⟩ := h
  refine ⟨G, s, R, wi.mono _ _ _ (fun ds s1 k1 J H1 G1 e1 R1 src L hL => ?_) k⟩
  have gL : G1 L = none := R1.sub.none hL
  have dL : p.dr ≠ some L := R1.drw.ne hL
  have h0L : p.H0 L = none := R1.base.free dL hL
  have aw := Rs.away R1 hL
  refine ⟨fun i m H' => m = ds.length - i ∧ i ≤ ds.length ∧ ∃ G' n acc accV, Same G1 G' ∧ p.Rs σ H' G' { s1 with n := n } ∧ G' L = none ∧ H' L = some (.lst accV) ∧ p.RpA G' accV acc ∧
    lcGo ge vs tt te s1.env (ds.drop i) acc n (fun acc n => ∀ q xs H' G', Same G G' → p.Rs σ H' G' { s1 with n := n } → p.RpA G' xs acc → H' q = none → Q (.ref q) (upd H' q (.lst xs))),
    ⟨ds.length, by simp, Nat.zero_le _, G1, s1.n, [], [], Same.refl G1, Rs.poke R1 (fun a ha => upd_ne ha) aw gL dL h0L (Soft.none hL), gL, upd_same, .nil, by simpa using k1⟩, ?_⟩
  rintro i m H' ⟨rfl, hi, G', n, acc, accV, e2, R2, g2, l2, ra, k2⟩
  obtain ⟨s1', s2'⟩ := src i H' G' e2 R2.sub
  by_cases hlt : i < ds.length
  · right
    have hd : ds[i]? = some ds[i] := List.getElem?_eq_getElem hlt
    obtain ⟨go, yl⟩ := s1' _ hd
    rw [List.drop_eq_getElem_cons hlt] at k2
    obtain ⟨env', eg, k3⟩ := get_of k2
    refine ⟨go, fun H' => i + 1 ≤ ds.length ∧ ∃ G' n acc accV, Same G1 G' ∧ p.Rs σ H' G' { s1 with n := n } ∧ G' L = none ∧ H' L = some (.lst accV) ∧ p.RpA G' accV acc ∧
      lcGo ge vs tt te s1.env (ds.drop (i + 1)) acc n (fun acc n => ∀ q xs H' G', Same G G' → p.Rs σ H' G' { s1 with n := n } → p.RpA G' xs acc → H' q = none → Q (.ref q) (upd H' q (.lst xs))), fun H2 ⟨z0, z⟩ => ⟨ds.length - (i + 1), by omega, rfl, z0, z⟩, fun x H'' y => ?_⟩
    -- the turn, from a state of both heaps
    have turn : ∀ (H3 G3 : Hp), Same G' G3 → p.Rs σ H3 G3 { s1 with n := n } → G3 L = none → H3 L = some (.lst accV) → p.Rp G3 x ds[i] → g x (wipe σ vs) H3 fun σ2 H2 => wipe σ2 vs = wipe σ vs ∧ liftXT p tt σ2 H2 fun b H3 =>
        if b = true then liftX p te σ2 H3 fun y H4 => ∃ acc, H4 L = some (.lst acc) ∧ acc.length < sizeLine ∧ (i + 1 ≤ ds.length ∧ ∃ G' n acc' accV, Same G1 G' ∧ p.Rs σ (upd H4 L (.lst (acc ++ [y]))) G' { s1 with n := n } ∧ G' L = none ∧ (upd H4 L (.lst (acc ++ [y]))) L = some (.lst accV) ∧ p.RpA G' accV acc' ∧
          lcGo ge vs tt te s1.env (ds.drop (i + 1)) acc' n (fun acc n => ∀ q xs H' G', Same G G' → p.Rs σ H' G' { s1 with n := n } → p.RpA G' xs acc → H' q = none → Q (.ref q) (upd H' q (.lst xs))))
        else i + 1 ≤ ds.length ∧ ∃ G' n acc accV, Same G1 G' ∧ p.Rs σ H3 G' { s1 with n := n } ∧ G' L = none ∧ H3 L = some (.lst accV) ∧ p.RpA G' accV acc ∧
          lcGo ge vs tt te s1.env (ds.drop (i + 1)) acc n (fun acc n => ∀ q xs H' G', Same G G' → p.Rs σ H' G' { s1 with n := n } → p.RpA G' xs acc → H' q = none → Q (.ref q) (upd H' q (.lst xs))) := fun H3 G3 e3 R3 g3 l3 rx => by
      obtain ⟨σ2, w2, R4, kq⟩ := T.run σ H3 G3 H3 G3 x ds[i] n _ env' (Rs.inner R3 vs) rx eg
      refine kq _ ⟨w2, H3, G3, G3, _, R4, tt.mono _ _ _ (fun b sb kb H5 G5 e5 R5 => ?_) k3⟩
      have l5 : H5 L = some (.lst accV) := R5.base.keep L _ dL l3 nt_lst
      have g5 : G5 L = none := R5.new L g3 (by rw [show (⟨p.K, p.dr, H3, G3⟩ : Pl).H0 = H3 from rfl, l3]; exact fun z => by cases z)
      cases b with
      | true =>
        refine ⟨H3, G3, G5, sb, R5, te.mono _ _ _ (fun y s6 k6 v H6 G6 e6 R6 r6 => ?_) kb⟩
        have l6 : H6 L = some (.lst accV) := R6.base.keep L _ dL l3 nt_lst
        have g6 : G6 L = none := R6.new L g3 (by rw [show (⟨p.K, p.dr, H3, G3⟩ : Pl).H0 = H3 from rfl, l3]; exact fun z => by cases z)
        have e36 := e5.trans e6
        have R7 := Rs.call R3 e36 R6.base R6.sub R6.new R6.drw
        refine ⟨accV, l6, by rw [ra.length]; exact k6.1, hlt, G6, s6.n, acc ++ [y], accV ++ [v], (e2.trans e3).trans e36, Rs.poke R7 (fun a ha => upd_ne ha) aw g6 dL h0L (Soft.lst l6), g6, upd_same, (ra.mono (e3.trans e36)).append (.cons r6 .nil), k6.2⟩
      | false =>
        have R7 := Rs.call R3 e5 R5.base R5.sub R5.new R5.drw
        exact ⟨hlt, G5, sb.n, acc, accV, (e2.trans e3).trans e5, R7, g5, l5, ra.mono (e3.trans e5), kb⟩
    rcases yl x H'' y with ⟨rfl, rx⟩ | ⟨q1, o, hq, rfl, rfl, rx⟩
    · exact turn _ G' (Same.refl G') R2 g2 l2 rx
    · have ne : L ≠ q1 := fun z => by
        subst z
        rw [l2] at hq
        cases hq
      obtain ⟨Gn, en, Rn, gn, rn⟩ := R2.fresh (o := o) hq
      exact turn _ _ en Rn (by rw [gn L ne]; exact g2) (by rw [upd_ne ne]; exact l2) (rn _ _ rx)
  · left
    have e0 : i = ds.length := by omega
    subst e0
    rw [List.drop_length] at k2
    refine ⟨s2' (Nat.le_refl _), ?_⟩
    have R3 : p.Rs σ (fun a => if a = L then none else H' a) G' { s1 with n := n } := Rs.poke R2 (fun a ha => if_neg ha) aw g2 dL h0L (Soft.lst l2)
    have q := k2 L accV _ G' (e1.trans e2) R3 ra (if_pos rfl)
    have eH : upd (fun a => if a = L then none else H' a) L (.lst accV) = H' := by
      funext a
      unfold upd
      by_cases h : a = L
      · subst h
        rw [if_pos rfl, l2]
      · rw [if_neg h]
        exact if_neg h
    rw [eH] at q
    exact q
theorem ld_lc {elt tg iter : Expr} {ifs : List Expr} {scope : Scope} {own : List (Str × Nat)} {pos : Pos} {wi : WI} {g : TG} {ge : D → List Sl → Option (List Sl)} {tt : WT} {te : W} (hN : X.N.Nodup) (hi : PI X tg iter (liftI p wi)) (T : LcT p g ge (own.map (·.2))) (ok : blkC X.N X.env.scope scope own = true)
    (hg : ∀ (s : Shared) (H : Hp) (C : Addr) (cl : List (Str × Addr)) (fp : List Addr), PG (X.blk s H scope (compEnvC scope cl C X.env) fp) tg g)
    (ht : ∀ (s : Shared) (H : Hp) (C : Addr) (cl : List (Str × Addr)) (fp : List Addr) (H0 G0 : Hp), PTs (X.blk s H scope (compEnvC scope cl C X.env) fp) ifs (liftT ⟨p.K, p.dr, H0, G0⟩ tt))
    (he : ∀ (s : Shared) (H : Hp) (C : Addr) (cl : List (Str × Addr)) (fp : List Addr) (H0 G0 : Hp), PE (X.blk s H scope (compEnvC scope cl C X.env) fp) elt (lift ⟨p.K, p.dr, H0, G0⟩ te))
    (hc : X.calm = true := by rfl) (hs : ∀ x, foldedSetIterable iter X.env x = pure x := by intro _; rfl) : PE X (.ListComp elt [⟨tg, iter, ifs, 0⟩] scope pos) (liftL p (wLc wi ge (own.map (·.2)) tt te)) :=
  PE.imp (pe_lc (own := own) hc hN hi (blkOk_by ok) hg (fun s H C cl fp => pts_X (ht s H C cl fp)) (fun s H C cl fp => pe_X (he s H C cl fp)) hs) (lc_lift T)
end
end DI
/-! A def by its body, where it is known that no object is being shown; repr; a slot's own list; the law's end. -/
namespace DI
open PySem PySem.Spec PyProof.Rows L2
variable [Nm]
/-- a def's promise, kept where no object is being shown -/
structure FnG (P : Program) (w : World) (K : PySem.W.Frag) (mg : Str → Option Value) (base : Heap) (k : Nat) (f : Addr) (fd : FuncData) (ps : List Str) (sp : Sp) : Prop where
  len : ∀ vs H Q E, sp vs H Q E → vs.length = ps.length
  go : ∀ (A : Around) (callers : List Env) (st : Shared) (H : Hp) (args : Args) (us : List Value) (vs : List V) (Q : VK) (E : XK), Room k A → A.guards = some [] → Env0 P w K mg base A callers st H →
    BindsTo st fd args (ps.zip us) → Vals vs us → sp vs H Q E → codeAny (model P w) A (.call (.ref f) args) (CR CX0 callers P w H st Q E) st
theorem FnG.mono {P : Program} {w : World} {K : PySem.W.Frag} {mg : Str → Option Value} {base : Heap} {j k : Nat} {f : Addr} {fd : FuncData} {ps : List Str} {sp : Sp} (F : FnG P w K mg base j f fd ps sp) (h : j ≤ k) : FnG P w K mg base k f fd ps sp :=
  ⟨F.len, fun A callers st H args us vs Q E hr => F.go A callers st H args us vs Q E (hr.mono h)⟩
section
variable {P : Program} {w : World} {K : PySem.W.Frag} {mg : Str → Option Value} {base : Heap}
theorem fng_of {k : Nat} {f : Addr} {nm qual : Str} {prm : Arguments} {body : List Stmt} {scope : Scope} {dV kV doc pm cdv ct oc : Value} {an od : Option Addr} {osl : Array (Option Value)} {N ps : List Str} {sp : Sp}
    (lk : K.lookup f = some ⟨oc, od, .func (PySem.W.fnOf nm qual prm body scope dV kV doc pm an cdv ct), osl⟩) (hcd : PySem.W.codeIn K cdv qual = true) (Sc : FnScope N ps scope) (len : ∀ vs H Q E, sp vs H Q E → vs.length = ps.length)
    (hbody : ∀ (A : Around) (callers : List Env) (st : Shared) (H : Hp) (vs : List V) (Q : VK) (E : XK), Room k (A.deeper (envOfC qual scope st.heap.objs.size f cdv)) → A.guards = some [] → sp vs H Q E →
      ∃ t, PSs (cxOf CX0 P w K mg base N qual scope f cdv A callers st H E) body t ∧ t { nx := fun _ H' => Q .non H', rt := Q } (L2.start N vs) H) :
    FnG P w K mg base (k + 1) f (PySem.W.fnOf nm qual prm body scope dV kV doc pm an cdv ct) ps sp := by
  refine ⟨len, fun A callers st H args us vs Q E room hga env0 hb rv hsp => ?_⟩
  have kin : K.In st.heap := env0.mod.kin.keeps fun b o e => (env0.bs b o e).1
  have nolim : st.heap.NoLimit := env0.mod.nolimit.keeps fun b o e => (env0.bs b o e).1
  have kinds : ∀ y ∈ ps.zip us, scope.names.lookup y.1 = some .local ∨ (scope.names.lookup y.1 = some .cell ∧ ((cellsFrom (st.heap.objs.size + 1) scope.names []).lookup y.1).isSome = true) := by
    rintro ⟨n, v⟩ hy
    cases Sc.par n (List.of_mem_zip hy).1 with
    | inl q => exact Or.inl q
    | inr q => exact Or.inr ⟨q, PySem.W.cellsFrom_some _ _ _ (Or.inl q)⟩
  refine codeAny_call_function room.depth (kin _ _ lk) rfl Sc.co Sc.gen rfl (PySem.W.codeRec_of kin hcd) (hb _ _ _ _ ?_)
  refine wpAny_newFunctionEnv_cells Sc.kind kinds fun env he st1 ic => ?_
  cases he
  refine ⟨nolim.keeps ic.toInCall.keep, codeAny_func ?_⟩
  obtain ⟨t, ht, tq⟩ := hbody A callers st H vs Q E (room.deeper _) hga hsp
  have I : Inv (cxOf CX0 P w K mg base N qual scope f cdv A callers st H E) [] (L2.start N vs) H st1 := inv_start Sc room.hd env0 (len _ _ _ _ hsp) rv ic
  refine wpAny_mono (ht.run [] st1 (L2.start N vs) H _ I tq) (fun fl st2 hs => ?_) fun _ _ z => z
  cases fl with
  | next =>
    obtain ⟨σ2, H2, J, q⟩ := hs
    exact ⟨.non, H2, J.os, J.bare, J.base, J.hok, rfl, q⟩
  | ret u =>
    obtain ⟨v, σ2, H2, J, r2, q⟩ := hs
    exact ⟨v, H2, J.os, J.bare, J.base, J.hok, r2, q⟩
  | brk =>
    obtain ⟨_, _, _, q⟩ := hs
    exact q.elim
  | cont =>
    obtain ⟨_, _, _, q⟩ := hs
    exact q.elim
end
section
variable {X : Cx} {k : Nat} {f : Addr} {fd : FuncData} {ps : List Str} {sp : Sp} {x : Str} {pf pos : Pos} {e : Expr} {es : List Expr} {t : TA}
theorem run_fng {pins : List (Addr × Obj)} {σ : L2.St} {H : Hp} {st : Shared} {Q : VK} {us : List Value} {vs : List V} (F : FnG X.prog X.w X.K X.mg X.base k f fd ps sp) (room : Room k X.A) (hga : X.A.guards = some []) (hb : Binds X.K fd ps [])
    (I : Inv X pins σ H st) (r : Vals vs us) (h : sp vs H Q E0) : wpAny (model X.prog X.w) X.A (call (.ref f) us) (EP X pins σ Q) X.xe st := by
  have hl : (us ++ []).length = ps.length := by rw [List.append_nil, ← r.length]; exact F.len _ _ _ _ h
  have hb' := hb st us I.kIn hl
  rw [List.append_nil] at hb'
  refine wpAny_call (codeAny_mono (F.go X.A X.stack st H ⟨us, []⟩ us vs Q E0 room hga I.env0 hb' r h) fun res st2 hq => ?_)
  cases res with
  | error err => exact (show False from hq).elim
  | ok fl =>
    cases fl with
    | ret u => exact I.after hq
    | next => exact (show False from hq).elim
    | brk => exact (show False from hq).elim
    | cont => exact (show False from hq).elim
theorem pe_callG (F : FnG X.prog X.w X.K X.mg X.base k f fd ps sp) (room : Room k X.A) (hga : X.A.guards = some []) (hm : X.mg x = some (.ref f)) (hk : PySem.W.keepIn X.K (.ref f) = true) (hb : Binds X.K fd ps []) (ha : PA X (e :: es) t) (hg : Gl X x := by rfl)
    (hdb : (x == ("__debug__" : Str)) = false := by decide) (he : starEach (e :: es) X.env = (false, eval e X.env) :: starEach es X.env := by rfl) (hpl : (backTo pos (starEach es X.env)).any (·.1) = false := by rfl) :
    PE X (.Call (.Name x pf) (e :: es) [] pos) (fun σ H Q => t σ H fun vs H1 => sp vs H1 Q E0) := by
  refine ⟨fun pins st σ H Q I h => wpAny_Call_Name_kw (ld_glob I hg hm ?_ hdb)⟩
  exact PySem.W.callWith_K (h₀ := X.base) I.ok.mod.kin hk (thn (ha.run pos pins st σ H _ I h) fun us st1 ⟨vs, H1, I1, r, q⟩ => ⟨I1.kIn, run_fng F room hga hb I1 r q⟩) he hpl
end

/-! ### a def by data -/
def initSl : Bool → D → Sl
  | true, .lst ds => .bor ds
  | _, d => .val d
def initE : Nat → List Bool → List D → List Sl
  | n, m :: ms, d :: ds => initSl m d :: initE (n - 1) ms ds
  | n, _, _ => List.replicate n .emp
theorem initE_length : ∀ (n : Nat) (ms : List Bool) (ds : List D), ms.length = ds.length → ms.length ≤ n → (initE n ms ds).length = n
  | n, [], [], _, _ => by simp [initE]
  | n, m :: ms, d :: ds, h, hn => by
    simp only [initE, List.length_cons]
    simp only [List.length_cons] at h hn
    rw [initE_length (n - 1) ms ds (by omega) (by omega)]
    omega
  | n, [], d :: ds, h, _ => by simp at h
  | n, m :: ms, [], h, _ => by simp at h
theorem initE_slot {p : Pl} {H G : Hp} (h0 : p.H0 = H) (hs : Sub G H) : ∀ {ms : List Bool} {vs : List V} {ds : List D}, RpM p H G ms vs ds → ∀ (n : Nat) (i : Nat) (x : Sl), (initE n ms ds)[i]? = some x →
    SlR p.K p.dr p.H0 H G (vs.map some ++ List.replicate (n - vs.length) none)[i]? x ∧ (∀ fs, x ≠ .own fs) ∧ ∀ ks fs, x ≠ .dic ks fs
  | _, _, _, .nil, n, i, x, hx => by
    simp only [initE] at hx
    rw [List.getElem?_replicate] at hx
    split at hx <;> cases hx
    exact ⟨trivial, ⟨fun _ z => Sl.noConfusion z, fun _ _ z => Sl.noConfusion z⟩⟩
  | _, _, _, .val r t, n, i, x, hx => by
    simp only [initE] at hx
    cases i with
    | zero =>
      have e : x = .val ‹D› := by
        simp only [List.getElem?_cons_zero, Option.some.injEq] at hx
        subst hx
        rfl
      subst e
      exact ⟨⟨_, rfl, r⟩, ⟨fun _ z => Sl.noConfusion z, fun _ _ z => Sl.noConfusion z⟩⟩
    | succ i =>
      simp only [List.getElem?_cons_succ] at hx
      have q := initE_slot h0 hs t (n - 1) i x hx
      simpa [Nat.sub_sub, Nat.add_comm] using q
  | _, _, _, .bor (d := d) r t, n, i, x, hx => by
    simp only [initE] at hx
    cases i with
    | zero =>
      simp only [List.getElem?_cons_zero, Option.some.injEq] at hx
      subst hx
      cases d with
      | lst ds =>
        obtain ⟨a, xs, rfl, h, k⟩ := r
        exact ⟨⟨a, xs, rfl, h, by rw [h0, h]; exact (fun z => nomatch z), k⟩, ⟨fun _ z => Sl.noConfusion z, fun _ _ z => Sl.noConfusion z⟩⟩
      | _ => exact ⟨⟨_, rfl, r⟩, ⟨fun _ z => Sl.noConfusion z, fun _ _ z => Sl.noConfusion z⟩⟩
    | succ i =>
      simp only [List.getElem?_cons_succ] at hx
      have q := initE_slot h0 hs t (n - 1) i x hx
      simpa [Nat.sub_sub, Nat.add_comm] using q
theorem fnd_of {P : Program} {w : World} {K : PySem.W.Frag} {mg : Str → Option Value} {base : Heap} {nm qual : Str} {st : Stmt} {f : Addr} {fd : FuncData} {N ps : List Str} {k : Nat} {ms : List Bool} {F : FT} {ws : WS} {dr : Option Addr} (U : Fun K nm qual st f fd) (Sc : FnScope N ps (defScope st))
    (hms : ms.length = ps.length)
    (body : ∀ (cdv : Value) (A : Around) (callers : List Env) (s0 : Shared) (H : Hp) (E : XK) (G0 : Hp), Room k (A.deeper (envOfC qual (defScope st) s0.heap.objs.size f cdv)) → A.guards = some [] →
      PSs (cxOf CX0 P w K mg base N qual (defScope st) f cdv A callers s0 H E).nox (defBody st) (liftS ⟨K, dr, H, G0⟩ ws))
    (wp : ∀ ds n Q, ds.length = ms.length → F.f ds n Q → ws.f { nx := fun s => Q .non s.n, rt := fun d s => Q d s.n } ⟨initE N.length ms ds, n⟩) : FnG P w K mg base (k + 1) f fd ps (SpD K dr ms F) := by
  obtain ⟨oc, od, kV, doc, pm, an, cdv, ct, osl, rfl, lk, hcd⟩ := U.ex
  have hle : ps.length ≤ N.length := by
    have h := congrArg List.length Sc.pre
    rw [List.length_take] at h
    omega
  refine fng_of lk hcd Sc (fun vs H Q E h => ?_) fun A callers s0 H vs Q E hr hga hsp => ?_
  · obtain ⟨G, ds, n, _, _, r, _⟩ := h
    rw [r.length.1, hms]
  · obtain ⟨G, ds, n, sub, dw, r, q⟩ := hsp
    refine ⟨_, (body cdv A callers s0 H E G hr hga).nox, ?_⟩
    have hl := r.length
    have slots : ∀ (i : Nat) (x : Sl), (initE N.length ms ds)[i]? = some x → SlR K dr H H G (L2.start N vs)[i]? x ∧ (∀ fs, x ≠ .own fs) ∧ ∀ ks fs, x ≠ .dic ks fs := fun i x hx => initE_slot (p := ⟨K, dr, H, G⟩) rfl sub r N.length i x hx
    refine ⟨G, ⟨initE N.length ms ds, n⟩, _, ⟨sub, Bse.refl, fun a h1 _ => h1, ?_, fun i x hx => (slots i x hx).1, fun i j q1 es fs _ e1 _ _ => absurd rfl ((slots i _ e1).2.1 es), fun i j q1 ks ls es fs _ e1 _ _ => absurd rfl ((slots i _ e1).2.2 ks es), dw⟩, wp ds n _ hl.2 q, ?_⟩
    · rw [initE_length _ _ _ hl.2.symm (by rw [hms]; exact hle)]
      unfold L2.start
      rw [List.length_append, List.length_map, List.length_replicate, hl.1, hms]
      omega
    · exact ⟨fun σ' H' G' s' e R k => k .non H' G' e R.base R.sub R.new R.drw .non, fun v σ' H' G' d s' e R r k => k v H' G' e R.base R.sub R.new R.drw r, fun _ _ _ _ _ _ k => k.elim, fun _ _ _ _ _ _ k => k.elim⟩
section
variable {X : Cx} {p : Pl} {e : Expr} {es : List Expr} {ms : List Bool} {t : WA} {pos : Pos}
theorem pd_callG {F : FT} {k : Nat} {f : Addr} {fd : FuncData} {ps : List Str} {x : Str} {pf : Pos} {K : PySem.W.Frag} {dr : Option Addr} (ok : FnG X.prog X.w X.K X.mg X.base k f fd ps (SpD K dr ms F)) (hr : Room k X.A) (hga : X.A.guards = some []) (hm : X.mg x = some (.ref f)) (hk : PySem.W.keepIn X.K (.ref f) = true) (hb : Binds X.K fd ps [])
    (ha : PA X (e :: es) (liftM p ms t)) (hK : p.K = K := by rfl) (hd : p.dr = dr := by rfl) (hg : Gl X x := by rfl) (hdb : (x == ("__debug__" : Str)) = false := by decide) (he : starEach (e :: es) X.env = (false, eval e X.env) :: starEach es X.env := by rfl) (hpl : (backTo pos (starEach es X.env)).any (·.1) = false := by rfl) :
    PE X (.Call (.Name x pf) (e :: es) [] pos) (lift p (wCall F t)) := by
  subst hK hd
  refine PE.imp (pe_callG ok hr hga hm hk hb ha hg hdb he hpl) fun σ H Q h => ?_
  have q := call_lift (ms := ms) σ H Q h
  obtain ⟨G, s, R, kk⟩ := q
  exact ⟨G, s, R, t.mono _ _ _ (fun ds s1 k1 vs H1 G1 e1 R1 r1 => by
    have z : SpD p.K p.dr ms F (vs ++ []) H1 Q E0 := k1 vs H1 G1 e1 R1 r1
    rw [List.append_nil] at z
    exact z) kk⟩

/-! ### a slot's own list -/
def ownE (env : List Sl) (i : Nat) : Option (List D) := match env[i]? with
  | some (.own ds) => some ds
  | _ => none
theorem ownE_of {env : List Sl} {i : Nat} {ds : List D} (h : ownE env i = some ds) : env[i]? = some (.own ds) := by
  unfold ownE at h
  cases e : env[i]? with
  | none => rw [e] at h; cases h
  | some x =>
    rw [e] at h
    cases x <;> cases h
    rfl
/-- x.append(e) -/
def wApp (i : Nat) (w : W) : WS := ⟨fun E s => get (ownE s.env i) fun _ => w.f s fun d s1 => get (ownE s1.env i) fun ds => ds.length < sizeLine ∧ E.nx { s1 with env := s1.env.set i (.own (ds ++ [d])) },
  fun E E' s h q => get_mono (fun _ q => w.mono _ _ _ (fun d s1 q => get_mono (fun ds q => ⟨q.1, h.nx _ q.2⟩) q) q) q⟩
theorem sd_app (i : Nat) {x : Str} {apos p1 cpos : Pos} {a : Expr} {w : W} (hv : PE X (.Name x p1) (tVar i)) (ha : PE X a (lift p w)) (hbase : attributeBase (.Name x p1) "append" X.env (eval (.Name x p1) X.env) = eval (.Name x p1) X.env := by rfl)
    (hfew : ((backTo cpos (starEach (a :: []) X.env)).all (fun x => !x.1) && (backToKw cpos (keywordEach [] X.env)).all (fun x => x.1.isSome) && decide ((a :: ([] : List Expr)).length + ([] : List Keyword).length + (if ([] : List Keyword).isEmpty then 0 else 1) < 30)) = true := by rfl)
    (hline : (apos.endLine == cpos.line) = true := by rfl) (hs : starEach (a :: []) X.env = (false, eval a X.env) :: starEach [] X.env := by rfl) (hplain : (backTo cpos (starEach [] X.env)).any (·.1) = false := by rfl)
    (hsw : swapsWith (.Call (.Attribute (.Name x p1) "append" apos) [a] [] cpos) none pos.line X.env = pure false := by rfl) (hK : p.K = X.K := by rfl) :
    PS X (.Expr (.Call (.Attribute (.Name x p1) "append" apos) [a] [] cpos) pos) (liftS p (wApp i w)) :=
  PS.imp (ps_expr (pe_bm PySem.F.plainAttrs_list PySem.F.slot_list_append PySem.F.type_list_append mt_append hv (pa_cons ha pa_nil hs) hbase hfew hline hs hplain) hsw) fun D σ H ⟨G, s, E, R, k, q⟩ => by
    obtain ⟨ds0, e0, k1⟩ := get_of k
    obtain ⟨l, xs0, el, hl, _⟩ := R.slot i _ (ownE_of e0)
    refine ⟨.ref l, el, .inl ⟨rfl, xs0, SqL.of hl⟩, G, s, R, w.mono _ _ _ (fun d s1 k2 v H1 G1 e1 R1 r1 => ?_) k1⟩
    obtain ⟨ds, e2, hz, kn⟩ := get_of k2
    obtain ⟨l', xs, el', hl', g1, _, _, ra⟩ := R1.slot i _ (ownE_of e2)
    rw [el] at el'
    cases el'
    exact ⟨l, xs, v, rfl, rfl, hl', by rw [ra.length]; exact hz, q.nx σ _ G1 _ e1 (R1.write (ownE_of e2) el (ra.append (.cons r1 .nil))) kn⟩
/-- x.pop() -/
def wPop (i : Nat) : W := ⟨fun s P => get (ownE s.env i) fun ds => get ds[ds.length - 1]? fun d => P d { s with env := s.env.set i (.own ds.dropLast) }, fun s P P' h q => get_mono (fun ds q => get_mono (fun d q => h _ _ q) q) q⟩
end
end DI
/-! Further rules: * and **, min, three targets, in over nested data, repr, keywords, dict cells of the draws. -/
namespace DI
open PySem L2
variable [Nm]
section
variable {X : Cx} {p : Pl} {e a b : Expr} {es : List Expr} {pos : Pos} {w wa wb : W} {ms : List Bool} {t : WA}
abbrev gMulI : D → D → Option D := gI fun i j => .int (i * j)
abbrev cMul : D → D → Prop := cI CMul
abbrev gPow : D → D → Option D := gI fun i j => .int (i ^ j.toNat)
abbrev cPow : D → D → Prop := cI CPow
theorem pd_mul (ha : PE X a (lift p wa)) (hb : PE X b (lift p wb)) : PE X (.BinOp a .Mult b pos) (lift p (wBin cMul gMulI wa wb)) := PE.imp (pe_op op_mul ha hb) (op_lift od_I)
theorem pd_pow (ha : PE X a (lift p wa)) (hb : PE X b (lift p wb)) : PE X (.BinOp a .Pow b pos) (lift p (wBin cPow gPow wa wb)) := PE.imp (pe_op op_pow ha hb) (op_lift od_I)
/-- a, b, c = x, y, z: plain values -/
def wPar3 (i j l : Nat) (t : WA) : WS := ⟨fun E s => t.f s fun ds s1 => ∃ d1 d2 d3, ds = [d1, d2, d3] ∧ i < s1.env.length ∧ j < s1.env.length ∧ l < s1.env.length ∧ E.nx { s1 with env := ((s1.env.set i (.val d1)).set j (.val d2)).set l (.val d3) },
  fun E E' s h q => t.mono _ _ _ (fun ds s1 ⟨d1, d2, d3, e, h1, h2, h3, q⟩ => ⟨d1, d2, d3, e, h1, h2, h3, h.nx _ q⟩) q⟩
theorem sd_par3 (i j l : Nat) {c : Expr} {ta : WA} {x y z : Str} {px py pz pt : Pos} {kt k2 pt2} (hN : X.N.Nodup) (ha : PA X [a, b, c] (liftM p ms ta)) (hm : ∀ m ∈ ms, m = false := by decide) (hc : X.calm = true := by rfl) (hi : X.N[i]? = some x := by rfl) (hj : X.N[j]? = some y := by rfl) (hl : X.N[l]? = some z := by rfl) (hij : i ≠ j := by decide) (hil : i ≠ l := by decide) (hjl : j ≠ l := by decide)
    (hx : X.env.scope.names.lookup x = some .local := by rfl) (hy : X.env.scope.names.lookup y = some .local := by rfl) (hz : X.env.scope.names.lookup z = some .local := by rfl)
    (hw : swappedStores [.Tuple [.Name x px, .Name y py, .Name z pz] kt pt] (.Tuple [a, b, c] k2 pt2) X.env = pure (some [x, y, z]) := by rfl)
    (hs : swapsWithSole [.Tuple [.Name x px, .Name y py, .Name z pz] kt pt] (.Tuple [a, b, c] k2 pt2) pos.line X.env = pure false := by rfl) : PS X (.Assign [.Tuple [.Name x px, .Name y py, .Name z pz] kt pt] (.Tuple [a, b, c] k2 pt2) pos) (liftS p (wPar3 i j l ta)) :=
  PS.imp (ps_par3 hc hN hi hj hl hij hil hjl hx hy hz ha hw hs) fun D σ H ⟨G, s, E, R, k, q⟩ => ⟨G, s, R, ta.mono _ _ _ (fun ds s1 ⟨d1, d2, d3, ed, h1, h2, h3, k1⟩ vs H1 G1 e1 R1 r1 => by
    subst ed
    have ra := r1.all hm
    cases ra with
    | cons ra1 t1 =>
      cases t1 with
      | cons ra2 t2 =>
        cases t2 with
        | cons ra3 t3 =>
          cases t3
          have R2 := R1.set (i := i) (by rw [← R1.len]; exact h1) ra1
          have R3 := R2.set (i := j) (by rw [List.length_set, ← R1.len]; exact h2) ra2
          have R4 := R3.set (i := l) (by rw [List.length_set, List.length_set, ← R1.len]; exact h3) ra3
          exact ⟨_, _, _, rfl, q.nx _ H1 G1 _ e1 R4 k1⟩) k⟩

/-! ### in over nested data -/
/-! ### repr -/
/-! ### a call by keywords, in the parameters' order -/
structure PKd (X : Cx) (p : Pl) (kws : List Keyword) (n : Nat) (t : WA) : Prop where
  pk : PK X kws (liftM p (List.replicate n false) t)
end
end DI
/-! The draws. -/
namespace DI
open PySem PySem.Spec PyProof.Rows L2
variable [Nm]
theorem kAt : ¬ (("cells" : Str) = "at") ∧ ¬ (("cells" : Str) = "left") ∧ ¬ (("cells" : Str) = "used") ∧ ¬ (("at" : Str) = "left") ∧ ¬ (("at" : Str) = "used") ∧ ¬ (("left" : Str) = "used") := by decide +kernel
theorem drw_cells {L : Addr} {a l u : Int} : valV (drwK L a l u) (Sum.inr "cells" : Key) = some (.ref L) := valV_pos rfl
theorem drw_at {L : Addr} {a l u : Int} : valV (drwK L a l u) (Sum.inr "at" : Key) = some (.int a) := by
  unfold drwK
  rw [valV_neg (by intro z; exact kAt.1 (Sum.inr.inj z)), valV_pos rfl]
theorem drw_left {L : Addr} {a l u : Int} : valV (drwK L a l u) (Sum.inr "left" : Key) = some (.int l) := by
  unfold drwK
  rw [valV_neg (by intro z; exact kAt.2.1 (Sum.inr.inj z)), valV_neg (by intro z; exact kAt.2.2.2.1 (Sum.inr.inj z)), valV_pos rfl]
theorem drw_used {L : Addr} {a l u : Int} : valV (drwK L a l u) (Sum.inr "used" : Key) = some (.int u) := by
  unfold drwK
  rw [valV_neg (by intro z; exact kAt.2.2.1 (Sum.inr.inj z)), valV_neg (by intro z; exact kAt.2.2.2.2.1 (Sum.inr.inj z)), valV_neg (by intro z; exact kAt.2.2.2.2.2 (Sum.inr.inj z)), valV_pos rfl]
theorem put_at {L : Addr} {a l u y : Int} : putK (drwK L a l u) (Sum.inr "at" : Key) (.int y) = drwK L y l u := by
  obtain ⟨h1, h2, h3, h4, h5, h6⟩ := kAt
  have g1 : ¬ (("at" : Str) = "cells") := fun z => h1 z.symm
  have g2 : ¬ (("left" : Str) = "cells") := fun z => h2 z.symm
  have g3 : ¬ (("used" : Str) = "cells") := fun z => h3 z.symm
  have g4 : ¬ (("left" : Str) = "at") := fun z => h4 z.symm
  have g5 : ¬ (("used" : Str) = "at") := fun z => h5 z.symm
  have g6 : ¬ (("used" : Str) = "left") := fun z => h6 z.symm
  simp [putK, drwK, h1, h2, h3, h4, h5, h6, g1, g2, g3, g4, g5, g6]
theorem put_left {L : Addr} {a l u y : Int} : putK (drwK L a l u) (Sum.inr "left" : Key) (.int y) = drwK L a y u := by
  obtain ⟨h1, h2, h3, h4, h5, h6⟩ := kAt
  have g1 : ¬ (("at" : Str) = "cells") := fun z => h1 z.symm
  have g2 : ¬ (("left" : Str) = "cells") := fun z => h2 z.symm
  have g3 : ¬ (("used" : Str) = "cells") := fun z => h3 z.symm
  have g4 : ¬ (("left" : Str) = "at") := fun z => h4 z.symm
  have g5 : ¬ (("used" : Str) = "at") := fun z => h5 z.symm
  have g6 : ¬ (("used" : Str) = "left") := fun z => h6 z.symm
  simp [putK, drwK, h1, h2, h3, h4, h5, h6, g1, g2, g3, g4, g5, g6]
theorem put_used {L : Addr} {a l u y : Int} : putK (drwK L a l u) (Sum.inr "used" : Key) (.int y) = drwK L a l y := by
  obtain ⟨h1, h2, h3, h4, h5, h6⟩ := kAt
  have g1 : ¬ (("at" : Str) = "cells") := fun z => h1 z.symm
  have g2 : ¬ (("left" : Str) = "cells") := fun z => h2 z.symm
  have g3 : ¬ (("used" : Str) = "cells") := fun z => h3 z.symm
  have g4 : ¬ (("left" : Str) = "at") := fun z => h4 z.symm
  have g5 : ¬ (("used" : Str) = "at") := fun z => h5 z.symm
  have g6 : ¬ (("used" : Str) = "left") := fun z => h6 z.symm
  simp [putK, drwK, h1, h2, h3, h4, h5, h6, g1, g2, g3, g4, g5, g6]
/-- script + [0]: lists of any sort -/
def rCatS (K : PySem.W.Frag) : R2 := fun x y H Q => ∃ a b xs zs, x = .ref a ∧ y = .ref b ∧ SqL K H a xs ∧ SqL K H b zs ∧ xs.length + zs.length ≤ sizeLine ∧ ∀ p, H p = none → Q (.ref p) (upd H p (.lst (xs ++ zs)))
theorem op_catS {X : Cx} : OpR X (binaryOp .Add) (rCatS X.K) := by
  intro pins s σ H x y v u Q I rx ry ⟨a, b, xs, zs, ex, ey, h1, h2, hz, q⟩
  subst ex ey
  cases rx
  cases ry
  obtain ⟨i1, v1, ⟨⟨c1, d1, dt1, s1⟩, n1, g1, e1, e2, e3⟩, z1⟩ := I.list h1
  obtain ⟨i2, v2, ⟨⟨c2, d2, dt2, s2⟩, n2, g2, f1, f2, f3⟩, z2⟩ := I.list h2
  subst e1 e2 e3 f1 f2 f3
  have hlen : i1.toArray.size + i2.toArray.size ≤ sizeLine := by
    have := v1.length; have := v2.length
    simp only [List.size_toArray]; omega
  refine concat_meets ⟨_, g1, rfl⟩ ⟨_, g2, rfl⟩ noFill_list_add seq_list_add F.slot_list_add F.entry_list_add (F.args_list_add_2 _ _) (list_addW a b _ _ n1 n2 _ _ _ _ hlen) ⟨g1, g2, ?_⟩
  have I2 := I.lnew (t' := s.toks) (v1.append v2) (by rw [List.length_append]; exact hz)
  refine ⟨.ref _, _, ?_, rfl, q _ I.fresh⟩
  simpa using I2
/-- _law_next: some number below the bound; more draws -/
def fNext : FT := ⟨fun ds n Q => ∃ b : Int, ds = [.drw, .int b] ∧ n < 2 ^ 60 ∧ 0 < b ∧ b < 1073741824 ∧ ∀ r : Int, 0 ≤ r → r < b → Q (.int r) (n + 2),
  fun ds n P P' h ⟨b, e, h1, h2, h3, q⟩ => ⟨b, e, h1, h2, h3, fun r r0 r1 => h _ _ (q r r0 r1)⟩⟩
/-- _law_mixed: some number -/
def fMix : FT := ⟨fun ds n Q => ∃ c k : Int, ds = [.int c, .int k] ∧ 0 ≤ k ∧ k < 2 ^ 62 ∧ ∀ r : Int, Q (.int r) n, fun ds n P P' h ⟨c, k, e, h1, h2, q⟩ => ⟨c, k, e, h1, h2, fun r => h _ _ (q r)⟩⟩
/-- the dict's cells are written -/
theorem drw_write {G H : Hp} {a L : Addr} {ns : List Int} {x l u : Int} {n m : Nat} (d : DrwAt G H a n) (h : G L = some (.lst (ns.map V.int))) (o : DrwOk ns x l u m) : DrwAt G (upd H a (.dK (drwK L x l u))) a m :=
  ⟨d.free, L, ns, x, l, u, upd_same, h, o⟩
section
variable {X : Cx} {p : Pl} {e o : Expr} {pos : Pos} {w : W}
theorem Rs.dwrite {σ : L2.St} {H G : Hp} {s : S} {a L : Addr} {ns : List Int} {x l u : Int} {m : Nat} (R : p.Rs σ H G s) (ea : p.dr = some a) (h : G L = some (.lst (ns.map V.int))) (k : DrwOk ns x l u m) : p.Rs σ (upd H a (.dK (drwK L x l u))) G { s with n := m } := by
  have d := R.drw a ea
  obtain ⟨_, L1, _, x1, l1, u1, hd1, _, _⟩ := id d
  refine Rs.call R (Same.refl G) (Bse.refl.upd (fun b hb => upd_ne hb) (Soft.dK hd1) (.inr ea)) ⟨fun b o e => ?_, R.sub.nt⟩ (fun b e _ => e) (fun b eb => ?_)
  · have ne : b ≠ a := fun z => by
      rw [z, d.free] at e
      cases e
    rw [upd_ne ne]
    exact R.sub b o e
  · rw [ea] at eb
    cases eb
    exact drw_write d h k
theorem vget_drw {σ : L2.St} {H G : Hp} {s : S} {i : Nat} (R : p.Rs σ H G s) (h : vget s.env i = some .drw) : ∃ a, σ[i]? = some (some (.ref a)) ∧ p.dr = some a := by
  obtain ⟨v, e, r⟩ := vget_rb R h
  cases r with
  | drw h _ => exact ⟨_, e, h⟩
/-- draw["left"] -/
def wDgL (i : Nat) : W := ⟨fun s P => vget s.env i = some .drw ∧ ∀ l : Int, P (.int l) s, fun s P P' h q => ⟨q.1, fun l => h _ _ (q.2 l)⟩⟩
/-- draw["at"], draw["used"] -/
def wDgA (i : Nat) : W := ⟨fun s P => vget s.env i = some .drw ∧ ∀ l : Int, 0 ≤ l → l ≤ s.n → P (.int l) s, fun s P P' h q => ⟨q.1, fun l h1 h2 => h _ _ (q.2 l h1 h2)⟩⟩
/-- draw["cells"] -/
def wDgC (i : Nat) : W := ⟨fun s P => vget s.env i = some .drw ∧ ∀ ns : List Int, 0 < ns.length → ns.length ≤ 64 → P (.lst (ns.map D.int)) s, fun s P P' h q => ⟨q.1, fun l h1 h2 => h _ _ (q.2 l h1 h2)⟩⟩
theorem dgL_of {k : Nat} (hr : Room k X.A) (i : Nat) {j : Nat} {p1 : Pos} (ho : PE X o (tVar i)) : PE X (.Subscript o (.Constant (.str "left") j p1) pos) (lift p (wDgL i)) :=
  PE.imp (pe_dget (hu_of hr) ho pe_str (fun _ _ => rfl)) fun σ H Q ⟨G, s, R, h, k⟩ => by
    obtain ⟨a, ev, ea⟩ := vget_drw R h
    obtain ⟨f, L, ns, x, l, u, e1, e2, _⟩ := R.drw a ea
    exact ⟨_, ev, a, _, rfl, by rw [← drw_left (L := L) (a := x) (l := l) (u := u)]; exact DGet.k (k := Sum.inr "left") e1, k l _ H G (Same.refl G) R (.int l)⟩
theorem dgA_of {k : Nat} (hr : Room k X.A) (i : Nat) {j : Nat} {p1 : Pos} (ho : PE X o (tVar i)) : PE X (.Subscript o (.Constant (.str "at") j p1) pos) (lift p (wDgA i)) :=
  PE.imp (pe_dget (hu_of hr) ho pe_str (fun _ _ => rfl)) fun σ H Q ⟨G, s, R, h, k⟩ => by
    obtain ⟨a, ev, ea⟩ := vget_drw R h
    obtain ⟨f, L, ns, x, l, u, e1, e2, ok⟩ := R.drw a ea
    exact ⟨_, ev, a, _, rfl, by rw [← drw_at (L := L) (a := x) (l := l) (u := u)]; exact DGet.k (k := Sum.inr "at") e1, k x ok.a0 ok.an _ H G (Same.refl G) R (.int x)⟩
theorem dgU_of {k : Nat} (hr : Room k X.A) (i : Nat) {j : Nat} {p1 : Pos} (ho : PE X o (tVar i)) : PE X (.Subscript o (.Constant (.str "used") j p1) pos) (lift p (wDgA i)) :=
  PE.imp (pe_dget (hu_of hr) ho pe_str (fun _ _ => rfl)) fun σ H Q ⟨G, s, R, h, k⟩ => by
    obtain ⟨a, ev, ea⟩ := vget_drw R h
    obtain ⟨f, L, ns, x, l, u, e1, e2, ok⟩ := R.drw a ea
    exact ⟨_, ev, a, _, rfl, by rw [← drw_used (L := L) (a := x) (l := l) (u := u)]; exact DGet.k (k := Sum.inr "used") e1, k u ok.u0 ok.un _ H G (Same.refl G) R (.int u)⟩
theorem dgC_of {k : Nat} (hr : Room k X.A) (i : Nat) {j : Nat} {p1 : Pos} (ho : PE X o (tVar i)) : PE X (.Subscript o (.Constant (.str "cells") j p1) pos) (lift p (wDgC i)) :=
  PE.imp (pe_dget (hu_of hr) ho pe_str (fun _ _ => rfl)) fun σ H Q ⟨G, s, R, h, k⟩ => by
    obtain ⟨a, ev, ea⟩ := vget_drw R h
    obtain ⟨f, L, ns, x, l, u, e1, e2, ok⟩ := R.drw a ea
    refine ⟨_, ev, a, _, rfl, by rw [← drw_cells (L := L) (a := x) (l := l) (u := u)]; exact DGet.k (k := Sum.inr "cells") e1, k ns ok.ne ok.le _ H G (Same.refl G) R (.lst e2 ?_)⟩
    exact RpA.ints ns
/-- draw["left"] = e -/
def wDpL (i : Nat) (w : W) : WS := ⟨fun E s => w.f s fun d s1 => vget s1.env i = some .drw ∧ ∃ (y : Int) (m : Nat), d = .int y ∧ s1.n ≤ m ∧ E.nx { s1 with n := m }, fun E E' s h q => w.mono _ _ _ (fun d s1 ⟨a, y, m, b, c, q⟩ => ⟨a, y, m, b, c, h.nx _ q⟩) q⟩
/-- draw["at"] = e, draw["used"] = e -/
def wDpA (i : Nat) (w : W) : WS := ⟨fun E s => w.f s fun d s1 => vget s1.env i = some .drw ∧ ∃ (y : Int), d = .int y ∧ 0 ≤ y ∧ y ≤ s1.n + 1 ∧ E.nx { s1 with n := s1.n + 1 }, fun E E' s h q => w.mono _ _ _ (fun d s1 ⟨a, y, b, c, e, q⟩ => ⟨a, y, b, c, e, h.nx _ q⟩) q⟩
theorem small4 {L : Addr} {a l u : Int} : (drwK L a l u).length < sizeLine := by show 4 < sizeLine; decide
theorem sdpL {k : Nat} (hr : Room k X.A) (i : Nat) {j : Nat} {p1 p2 : Pos} (ho : PE X o (tVar i)) (he : PE X e (lift p w)) (hs : swapsWith e (some (.Subscript o (.Constant (.str "left") j p1) p2)) pos.line X.env = pure false := by rfl) : PS X (.Assign [.Subscript o (.Constant (.str "left") j p1) p2] e pos) (liftS p (wDpL i w)) :=
  PS.imp (ps_dput (hu_of hr) ho pe_str he hs) fun D σ H ⟨G, s, E, R, k, q⟩ => ⟨G, s, R, w.mono _ _ _ (fun d s1 ⟨h, y, m, ed, hm, k1⟩ v H1 G1 e1 R1 r1 => by
    subst ed
    cases r1
    obtain ⟨a, ev, ea⟩ := vget_drw R1 h
    obtain ⟨f, L, ns, x, l, u, z1, z2, ok⟩ := R1.drw a ea
    refine ⟨_, ev, a, _, rfl, DPut.k (k := Sum.inr "left") z1 small4, ?_⟩
    rw [put_left]
    exact q.nx σ _ G1 _ e1 (R1.dwrite ea z2 ⟨ok.ne, ok.le, ok.a0, by have := ok.an; omega, ok.u0, by have := ok.un; omega⟩) k1) k⟩
theorem sdpA {k : Nat} (hr : Room k X.A) (i : Nat) {j : Nat} {p1 p2 : Pos} (ho : PE X o (tVar i)) (he : PE X e (lift p w)) (hs : swapsWith e (some (.Subscript o (.Constant (.str "at") j p1) p2)) pos.line X.env = pure false := by rfl) : PS X (.Assign [.Subscript o (.Constant (.str "at") j p1) p2] e pos) (liftS p (wDpA i w)) :=
  PS.imp (ps_dput (hu_of hr) ho pe_str he hs) fun D σ H ⟨G, s, E, R, k, q⟩ => ⟨G, s, R, w.mono _ _ _ (fun d s1 ⟨h, y, ed, h0, h1, k1⟩ v H1 G1 e1 R1 r1 => by
    subst ed
    cases r1
    obtain ⟨a, ev, ea⟩ := vget_drw R1 h
    obtain ⟨f, L, ns, x, l, u, z1, z2, ok⟩ := R1.drw a ea
    refine ⟨_, ev, a, _, rfl, DPut.k (k := Sum.inr "at") z1 small4, ?_⟩
    rw [put_at]
    exact q.nx σ _ G1 _ e1 (R1.dwrite ea z2 ⟨ok.ne, ok.le, h0, by omega, ok.u0, by have := ok.un; omega⟩) k1) k⟩
theorem sdpU {k : Nat} (hr : Room k X.A) (i : Nat) {j : Nat} {p1 p2 : Pos} (ho : PE X o (tVar i)) (he : PE X e (lift p w)) (hs : swapsWith e (some (.Subscript o (.Constant (.str "used") j p1) p2)) pos.line X.env = pure false := by rfl) : PS X (.Assign [.Subscript o (.Constant (.str "used") j p1) p2] e pos) (liftS p (wDpA i w)) :=
  PS.imp (ps_dput (hu_of hr) ho pe_str he hs) fun D σ H ⟨G, s, E, R, k, q⟩ => ⟨G, s, R, w.mono _ _ _ (fun d s1 ⟨h, y, ed, h0, h1, k1⟩ v H1 G1 e1 R1 r1 => by
    subst ed
    cases r1
    obtain ⟨a, ev, ea⟩ := vget_drw R1 h
    obtain ⟨f, L, ns, x, l, u, z1, z2, ok⟩ := R1.drw a ea
    refine ⟨_, ev, a, _, rfl, DPut.k (k := Sum.inr "used") z1 small4, ?_⟩
    rw [put_used]
    exact q.nx σ _ G1 _ e1 (R1.dwrite ea z2 ⟨ok.ne, ok.le, ok.a0, by have := ok.an; omega, h0, by omega⟩) k1) k⟩
end
end DI
/-! The law is called where no object is being shown; defs, constants, empty dicts by data. -/
namespace DI
open PySem PySem.Spec PyProof.Rows L2
variable [Nm]
section
variable {P : Program} {w : World} {K : PySem.W.Frag} {mg mb : Str → Option Value} {k : Nat} {fa a : Addr} {fd : FuncData} {x : Str} {sp : Sp} {s₁ : Shared} {vs : List Value} {ns : List Int}
end

section
variable {P : Program} {w : World} {K : PySem.W.Frag} {mg mb : Str → Option Value} {k : Nat} {fa a : Addr} {fd : FuncData} {x : Str} {sp : Sp} {s₁ : Shared} {vs : List Value} {ns : List Int}
end
/-! ### a def by its name -/
/-- a def of the top, by its promise on data -/
structure Dn (P : Program) (w : World) (K : PySem.W.Frag) (mg : Str → Option Value) (base : Heap) (k : Nat) (x : Str) (ps : List Str) (F : FT) : Prop where
  ex : ∃ (f : Addr) (fd : FuncData), mg x = some (.ref f) ∧ PySem.W.keepIn K (.ref f) = true ∧ Binds K fd ps [] ∧
    (∀ (s : Shared) (us : List Value), us.length = ps.length → BindsTo s fd ⟨[], ps.zip us⟩ (ps.zip us)) ∧ ∀ dr, FnG P w K mg base k f fd ps (SpD K dr (List.replicate ps.length false) F)
/-- a constant of the top -/
def Gc (K : PySem.W.Frag) (mg : Str → Option Value) (x : Str) (d : D) : Prop := ∃ (v : V) (u : Value), mg x = some u ∧ RelV v u ∧ ∀ dr G, Rp K dr G v d
section
variable {X : Cx} {p : Pl} {e : Expr} {es : List Expr} {t : WA} {pos pf : Pos} {x : Str} {ps : List Str} {F : FT} {k : Nat}
theorem pd_const {d : D} (h : Gc X.K X.mg x d) (hg : Gl X x := by rfl) (hK : p.K = X.K := by rfl) (hd : (x == ("__debug__" : Str)) = false := by decide) : PE X (.Name x pos) (lift p (wC d)) := by
  obtain ⟨v, u, h1, h2, h3⟩ := h
  exact pd_glob hg h1 h2 (fun G => by
    have z := h3 p.dr G
    rw [← hK] at z
    exact z) hd
theorem pd_cl (D : Dn X.prog X.w X.K X.mg X.base k x ps F) {j : Nat} (hr : Room j X.A) (hj : k ≤ j) (hga : X.A.guards = some []) (ha : PA X (e :: es) (liftM p (List.replicate ps.length false) t)) (hK : p.K = X.K := by rfl) (hg : Gl X x := by rfl)
    (hdb : (x == ("__debug__" : Str)) = false := by decide) (he : starEach (e :: es) X.env = (false, eval e X.env) :: starEach es X.env := by rfl) (hpl : (backTo pos (starEach es X.env)).any (·.1) = false := by rfl) :
    PE X (.Call (.Name x pf) (e :: es) [] pos) (lift p (wCall F t)) := by
  obtain ⟨f, fd, h1, h2, h3, h4, h5⟩ := D.ex
  exact pd_callG (h5 p.dr) (hr.mono hj) hga h1 h2 h3 ha hK rfl hg hdb he hpl
/-- {}, where a slot holds the draws -/
def wDic (i : Nat) : W := ⟨fun s P => vget s.env i = some .drw ∧ P .dic0 s, fun s P P' h q => ⟨q.1, h _ _ q.2⟩⟩
end
end DI
/-! What each part asks, as equations. -/
namespace DI
open PySem PySem.Spec PyProof.Rows L2
variable [Nm]
section
variable {w wa wb wc : W} {t u : WT} {a b v : WS} {ta : WA} {i j l : Nat} {d : D} {E : ED} {s : S} {n : Nat} {env : List Sl}
  {P : D → S → Prop} {PT : Bool → S → Prop} {PA : List D → S → Prop} {PO : Option Int → S → Prop} {c c' : D → D → Prop} {g g' : D → D → Option D}
theorem f_wC : (wC d).f s P = P d s := rfl
theorem f_wVar : (wVar i).f ⟨env, n⟩ P = (match env[i]? with
  | some (.val d) => P d ⟨env, n⟩
  | some (.own ds) => P (.lst ds) ⟨env.set i (.val (.lst ds)), n⟩
  | some (.dic ks ds) => P (.dct ks ds) ⟨env.set i (.val (.dct ks ds)), n⟩
  | _ => False) := rfl
theorem f_wBin : (wBin c g wa wb).f s P = wa.f s fun d1 s1 => wb.f s1 fun d2 s2 => c d1 d2 ∧ get (g d1 d2) fun d => P d s2 := rfl
theorem f_wBinV : (wBinV c g i wb).f ⟨env, n⟩ P = get (vget env i) fun _ => wb.f ⟨env, n⟩ fun d2 s2 => get (vget s2.env i) fun d1 => c d1 d2 ∧ get (g d1 d2) fun d => P d s2 := rfl
theorem f_wBinR : (wBinR c g wa i).f s P = wa.f s fun d1 s1 => get (vget s1.env i) fun d2 => c d1 d2 ∧ get (g d1 d2) fun d => P d s1 := rfl
def blD : D → Option Bool
  | .bl b => some b
  | _ => none
def intD : D → Option Int
  | .int b => some b
  | _ => none
theorem f_wT : (wT w).f s PT = w.f s fun d s1 => get (blD d) fun b => PT b s1 := rfl
theorem f_wChain : (wChain c c' g g' wa wb wc).f s P = wa.f s fun d1 s1 => wb.f s1 fun d2 s2 => c d1 d2 ∧ get (g d1 d2) fun z => get (blD z) fun k => if k = true then wc.f s2 fun d3 s3 => c' d2 d3 ∧ get (g' d2 d3) fun y => P y s3 else P (.bl false) s2 := rfl
end
section
theorem f_wTru {w : W} {s P} : (wTru w).f s P = (w.f s fun d s1 => cTru d ∧ get (truD d) fun b => P b s1) := rfl
theorem f_wTruV {i : Nat} {s P} : (wTruV i).f s P = (get (vget s.env i) fun d => cTru d ∧ get (truD d) fun b => P b s) := rfl
theorem f_tAnd {t u : WT} {s P} : (tAndD t u).f s P = (t.f s fun b s1 => if b = true then u.f s1 P else P false s1) := rfl
theorem f_tOr {t u : WT} {s P} : (tOrD t u).f s P = (t.f s fun b s1 => if b = true then P true s1 else u.f s1 P) := rfl
theorem f_tNot {t : WT} {s P} : (tNotD t).f s P = (t.f s fun b s1 => P (!b) s1) := rfl
theorem f_andV {wa wb : W} {s P} : (wAndV wa wb).f s P = (wa.f s fun d s1 => get (blD d) fun b => if b = true then wb.f s1 P else P (.bl false) s1) := rfl
theorem f_orV {wa wb : W} {s P} : (wOrV wa wb).f s P = (wa.f s fun d s1 => get (blD d) fun b => if b = true then P (.bl true) s1 else wb.f s1 P) := rfl
theorem f_notV {wa : W} {s P} : (wNotV wa).f s P = (wa.f s fun d s1 => get (blD d) fun b => P (.bl (!b)) s1) := rfl
theorem f_if {t : WT} {wa wb : W} {s P} : (wIf t wa wb).f s P = (t.f s fun b s1 => if b = true then wa.f s1 P else wb.f s1 P) := rfl
theorem f_noPart {s P} : wNoPart.f s P = (P none s) := rfl
theorem f_part {w : W} {s P} : (wPart w).f s P = (w.f s fun d s1 => get (intD d) fun i => P (some i) s1) := rfl
theorem f_sl {wa : W} {lo hi : WO} {s P} : (wSl wa lo hi).f s P = (wa.f s fun d s1 => lo.f s1 fun l s2 => hi.f s2 fun h s3 => cSl d ∧ get (gSl d l h) fun z => P z s3) := rfl
theorem f_slV {i : Nat} {lo hi : WO} {s P} : (wSlV i lo hi).f s P = (get (vget s.env i) fun _ => lo.f s fun l s2 => hi.f s2 fun h s3 => get (vget s3.env i) fun d => cSl d ∧ get (gSl d l h) fun z => P z s3) := rfl
theorem f_nil {s P} : waNil.f s P = (P [] s) := rfl
theorem f_cons {w : W} {t : WA} {s P} : (waCons w t).f s P = (w.f s fun d s1 => t.f s1 fun ds s2 => P (d :: ds) s2) := rfl
theorem f_bor {i : Nat} {t : WA} {s P} : (waBor i t).f s P = (get (vget s.env i) fun _ => t.f s fun ds s2 => get (vget s2.env i) fun d => P (d :: ds) s2) := rfl
theorem f_tup {t : WA} {s P} : (wTup t).f s P = (t.f s fun ds s1 => ds.length ≤ sizeLine ∧ P (.tup ds) s1) := rfl
theorem f_lst {t : WA} {s P} : (wLst t).f s P = (t.f s fun ds s1 => ds.length ≤ sizeLine ∧ P (.lst ds) s1) := rfl
theorem f_fn {c : List D → Prop} {g : List D → Option D} {t : WA} {s P} : (wFn c g t).f s P = (t.f s fun ds s1 => c ds ∧ get (g ds) fun d => P d s1) := rfl
theorem f_isi {T : String} {w : W} {s P} : (wIsi T w).f s P = (w.f s fun d s1 => get (gIsi T d) fun z => P z s1) := rfl
theorem f_mt {c : Str → D → Prop} {g : Str → D → Option D} {wa wb : W} {s P} : (wMt c g wa wb).f s P = (wa.f s fun d1 s1 => get (strD d1) fun z => wb.f s1 fun d2 s2 => c z d2 ∧ get (g z d2) fun d => P d s2) := rfl
theorem f_call {F : FT} {t : WA} {s P} : (wCall F t).f s P = (t.f s fun ds s1 => F.f ds s1.n fun d m => P d { s1 with n := m }) := rfl
theorem f_next {E s} : wNext.f E s = (E.nx s) := rfl
theorem f_seq {u v : WS} {E s} : (wSeq u v).f E s = (u.f { E with nx := v.f E } s) := rfl
theorem f_break {E s} : wBreak.f E s = (E.bk s) := rfl
theorem f_cont {E s} : wCont.f E s = (E.ct s) := rfl
theorem f_drop {w : W} {E s} : (wDrop w).f E s = (w.f s fun _ s1 => E.nx s1) := rfl
theorem f_ret {w : W} {E s} : (wRet w).f E s = (w.f s fun d s1 => E.rt d s1) := rfl
theorem f_retN {E s} : wRetN.f E s = (E.rt .non s) := rfl
theorem f_ifS {t : WT} {u v : WS} {E s} : (wIfS t u v).f E s = (t.f s fun b s1 => if b = true then u.f E s1 else v.f E s1) := rfl
theorem f_set {i : Nat} {w : W} {E s} : (wSet i w).f E s = (w.f s fun d s1 => i < s1.env.length ∧ E.nx { s1 with env := s1.env.set i (.val d) }) := rfl
theorem f_ofL {w : WA} {s P} : (wOfL w).f s P = (w.f s fun ds s1 => P (.lst ds) s1) := rfl
theorem f_sz {t : WA} {s P} : (wsz t).f s P = (t.f s fun ds s1 => ds.length ≤ sizeLine ∧ P ds s1) := rfl
theorem f_own {i : Nat} {t : WA} {E s} : (wOwn i t).f E s = (t.f s fun ds s1 => i < s1.env.length ∧ E.nx { s1 with env := s1.env.set i (.own ds) }) := rfl
theorem f_par {i j : Nat} {t : WA} {E s} : (wPar i j t).f E s = (t.f s fun ds s1 => ∃ d1 d2, ds = [d1, d2] ∧ i < s1.env.length ∧ j < s1.env.length ∧ E.nx { s1 with env := (s1.env.set i (.val d1)).set j (.val d2) }) := rfl
theorem f_par3 {i j l : Nat} {t : WA} {E s} : (wPar3 i j l t).f E s = (t.f s fun ds s1 => ∃ d1 d2 d3, ds = [d1, d2, d3] ∧ i < s1.env.length ∧ j < s1.env.length ∧ l < s1.env.length ∧ E.nx { s1 with env := ((s1.env.set i (.val d1)).set j (.val d2)).set l (.val d3) }) := rfl
theorem f_asgT {g : D → List Sl → Option (List Sl)} {w : W} {E s} : (wAsgT g w).f E s = (w.f s fun d s1 => get (g d s1.env) fun env' => E.nx { s1 with env := env' }) := rfl
theorem f_iL {w : W} {s P} : (wiL w).f s P = (w.f s fun d s1 => get (lstD d) fun ds => P ds s1) := rfl
theorem f_iT {w : W} {s P} : (wiT w).f s P = (w.f s fun d s1 => get (tupD d) fun ds => P ds s1) := rfl
theorem f_iS {w : W} {s P} : (wiS w).f s P = (w.f s fun d s1 => get (strD d) fun z => P (chrs z) s1) := rfl
theorem f_iR1 {t : WA} {s P} : (wiR1 t).f s P = (t.f s fun ds s1 => ∃ j, ds = [.int j] ∧ -(2 ^ 62) ≤ j ∧ j < 2 ^ 62 ∧ P (rngD 0 j.toNat) s1) := rfl
theorem f_for {wi : WI} {g : D → List Sl → Option (List Sl)} {tb : WS} {E s} : (wForS wi g tb).f E s = (wi.f s fun ds s1 => forW g tb E ds s1) := rfl
theorem f_lc {wi : WI} {ge : D → List Sl → Option (List Sl)} {vs : List Nat} {tt : WT} {te : W} {s P} : (wLc wi ge vs tt te).f s P = (wi.f s fun ds s1 => lcGo ge vs tt te s1.env ds [] s1.n fun acc n => P acc { s1 with n := n }) := rfl
theorem f_yes {s P} : wtYes.f s P = (P true s) := rfl
theorem f_dgL {i : Nat} {s P} : (wDgL i).f s P = (vget s.env i = some .drw ∧ ∀ l : Int, P (.int l) s) := rfl
theorem f_dgA {i : Nat} {s P} : (wDgA i).f s P = (vget s.env i = some .drw ∧ ∀ l : Int, 0 ≤ l → l ≤ s.n → P (.int l) s) := rfl
theorem f_dgC {i : Nat} {s P} : (wDgC i).f s P = (vget s.env i = some .drw ∧ ∀ ns : List Int, 0 < ns.length → ns.length ≤ 64 → P (.lst (ns.map D.int)) s) := rfl
theorem f_dpL {i : Nat} {w : W} {E s} : (wDpL i w).f E s = (w.f s fun d s1 => vget s1.env i = some .drw ∧ ∃ (y : Int) (m : Nat), d = .int y ∧ s1.n ≤ m ∧ E.nx { s1 with n := m }) := rfl
theorem f_dpA {i : Nat} {w : W} {E s} : (wDpA i w).f E s = (w.f s fun d s1 => vget s1.env i = some .drw ∧ ∃ (y : Int), d = .int y ∧ 0 ≤ y ∧ y ≤ s1.n + 1 ∧ E.nx { s1 with n := s1.n + 1 }) := rfl
theorem f_app {i : Nat} {w : W} {E s} : (wApp i w).f E s = (get (ownE s.env i) fun _ => w.f s fun d s1 => get (ownE s1.env i) fun ds => ds.length < sizeLine ∧ E.nx { s1 with env := s1.env.set i (.own (ds ++ [d])) }) := rfl
theorem f_pop {i : Nat} {s P} : (wPop i).f s P = (get (ownE s.env i) fun ds => get ds[ds.length - 1]? fun d => P d { s with env := s.env.set i (.own ds.dropLast) }) := rfl
end
theorem env0 {n : Nat} {ms : List Bool} {d : D} {ds : List D} : initE n (false :: ms) (d :: ds) = .val d :: initE (n - 1) ms ds := by
  show initSl false d :: _ = _
  cases d <;> rfl
theorem env1 {n : Nat} : initE n [] [] = List.replicate n .emp := rfl
theorem bl_bl {b : Bool} : blD (.bl b) = some b := rfl
theorem int_int {b : Int} : intD (.int b) = some b := rfl
theorem str_str {b : Str} : strD (.str b) = some b := rfl
end DI
/-! while; reversed(range(n)). -/
namespace DI
open PySem PySem.Spec PyProof.Rows L2
variable [Nm]
section
variable {X : Cx} {p : Pl} {c e tg : Expr} {body : List Stmt} {pos : Pos}
/-- while, by an invariant with a measure -/
def wWhile (tc : WT) (tb : WS) : WS := ⟨fun E s => ∃ I : Nat → S → Prop, (∃ m, I m s) ∧ ∀ m s, I m s → tc.f s fun b s1 => if b = true then tb.f { nx := fun s' => ∃ m', m' < m ∧ I m' s', rt := E.rt, bk := E.nx, ct := fun s' => ∃ m', m' < m ∧ I m' s' } s1 else E.nx s1,
  fun E E' s h ⟨I, h0, k⟩ => ⟨I, h0, fun m s hi => tc.mono _ _ _ (fun b s1 q => by
    cases b with
    | true => exact tb.mono { nx := fun s' => ∃ m', m' < m ∧ I m' s', rt := E.rt, bk := E.nx, ct := fun s' => ∃ m', m' < m ∧ I m' s' } { nx := fun s' => ∃ m', m' < m ∧ I m' s', rt := E'.rt, bk := E'.nx, ct := fun s' => ∃ m', m' < m ∧ I m' s' } _ (ED.Le.mk (fun _ z => z) h.rt h.nx (fun _ z => z)) q
    | false => exact h.nx _ q) (k m s hi)⟩⟩
theorem sd_while {tc : WT} {tb : WS} (hc : PT X c (liftT p tc)) (hb : PSs X body (liftS p tb)) (hp : PassesOwn (model X.prog X.w) X.A X.env X.xe := by exact PassesOwn.never) : PS X (.While c body [] pos) (liftS p (wWhile tc tb)) :=
  PS.imp (ps_while hp hc hb) fun D σ H ⟨G, s, E, R, ⟨I, ⟨m0, h0⟩, step⟩, q⟩ => by
    refine ⟨fun m σ' H' => ∃ G' s', Same G G' ∧ p.Rs σ' H' G' s' ∧ I m s', ⟨m0, G, s, Same.refl G, R, h0⟩, fun m σ' H' ⟨G', s', e, R', hi⟩ => ⟨G', s', R', tc.mono _ _ _ (fun b s1 k1 H1 G1 e1 R1 => ?_) (step m s' hi)⟩⟩
    cases b with
    | true =>
      rw [if_pos rfl]
      have k2 : tb.f { nx := fun s' => ∃ m', m' < m ∧ I m' s', rt := E.rt, bk := E.nx, ct := fun s' => ∃ m', m' < m ∧ I m' s' } s1 := k1
      have e2 := e.trans e1
      refine ⟨fun σ2 H2 => ∃ G2 s2, Same G G2 ∧ p.Rs σ2 H2 G2 s2 ∧ ∃ m', m' < m ∧ I m' s2, fun σ2 H2 ⟨G2, s2, z1, z2, m', z3, z4⟩ => ⟨m', z3, G2, s2, z1, z2, z4⟩, G1, s1, _, R1, k2, ?_, ?_, ?_, ?_⟩
      · exact fun σ4 H4 G4 s4 a R4 k4 => ⟨G4, s4, e2.trans a, R4, k4⟩
      · exact fun v σ4 H4 G4 d4 s4 a R4 r4 k4 => q.rt v σ4 H4 G4 d4 s4 (e2.trans a) R4 r4 k4
      · exact fun σ4 H4 G4 s4 a R4 k4 => q.nx σ4 H4 G4 s4 (e2.trans a) R4 k4
      · exact fun σ4 H4 G4 s4 a R4 k4 => ⟨G4, s4, e2.trans a, R4, k4⟩
    | false =>
      rw [if_neg (by decide)]
      exact q.nx _ H1 G1 s1 (e.trans e1) R1 k1
/-- n - 1, .., 0 -/
def dwnD (n : Nat) : List D := (List.range n).map fun (i : Nat) => D.int ((n : Int) - 1 - (i : Int))
theorem src_dwn {n : Nat} {G : Hp} : Src p (Itc ((n : Int) - 1) (-1) n) (dwnD n) G := fun i H' G' e hs => by
  constructor
  · intro d hd
    have hi : i < n := by
      have := (List.getElem?_eq_some_iff.mp hd).1
      unfold dwnD at this
      simpa using this
    refine ⟨hi, fun x H'' y => .inl ⟨y.1, ?_⟩⟩
    unfold dwnD at hd
    rw [List.getElem?_map, List.getElem?_range hi] at hd
    cases hd
    have ex : x = .int ((n : Int) - 1 + (i : Int) * (-1)) := y.2
    rw [ex, show (n : Int) - 1 + (i : Int) * (-1) = (n : Int) - 1 - (i : Int) from by omega]
    exact .int _
  · intro h
    unfold dwnD at h
    show n ≤ i
    simpa using h
def wiDown (w : W) : WI := ⟨fun s P => w.f s fun d s1 => ∃ j : Int, d = .int j ∧ 0 ≤ j ∧ j < 2 ^ 62 ∧ P (dwnD j.toNat) s1, fun s P P' h q => w.mono _ _ _ (fun d s1 ⟨j, a, b, c, q⟩ => ⟨j, a, b, c, h _ _ q⟩) q⟩
theorem id_down {w : W} {pf pr pp : Pos} (he : PE X e (lift p w)) (hm : X.mg "reversed" = none) (hr : X.mg "range" = none) (hg : Gl X "reversed" := by rfl) (hg2 : Gl X "range" := by rfl) (hs2 : starEach [e] X.env = (false, eval e X.env) :: starEach [] X.env := by rfl)
    (hs : starEach [.Call (.Name "range" pr) [e] [] pp] X.env = (false, eval (.Call (.Name "range" pr) [e] [] pp) X.env) :: starEach [] X.env := by rfl) :
    PI X tg (.Call (.Name "reversed" pf) [.Call (.Name "range" pr) [e] [] pp] [] pos) (liftI p (wiDown w)) :=
  PI.imp (pi_revR hg hm (prg_1 hg2 hr he hs2) hs) fun σ H Rr ⟨G, s, R, k⟩ => ⟨G, s, R, w.mono _ _ _ (fun d s1 ⟨j, ed, j0, j1, k1⟩ v H1 G1 e1 R1 r1 => by
    subst ed
    cases r1
    refine ⟨j, rfl, by decide, by decide, by omega, j1, ?_⟩
    have e : (0 : Int) + (((j - 0).toNat : Nat) : Int) - 1 = ((j.toNat : Nat) : Int) - 1 := by omega
    have e' : (j - 0).toNat = j.toNat := by omega
    rw [e, e']
    exact k1 _ H1 G1 e1 R1 src_dwn) k⟩
end
end DI
namespace EX
open PySem PySem.W PySem.Calls PyProof.Rows PySem.HandSPX
section
variable {prog : Program} {w : World} {A : Around} {R : Result → Shared → Prop} {h : Heap} {g : Array GenState} {d : Drawn} {t : Nat} {os : OsState} {nm q : Str} {C N : Addr} {bs bm bmB : List Value}
  {hdct : Bool} {sn : List Str} {sub : List Value} {ab : Bool} {col : Option Bool} {dd : Option Addr} {k0 k1 k2 k3 k5 : Option Value} {B newId initId : String}
theorem new_ownK (F : ExcBaseFacts B newId initId bmB) (hT : ∀ X : String, bm.contains (Value.type X) = bmB.contains (Value.type X)) {rest : List Value} {kw : List (Str × Value)}
    (hC : h.get? C = some (excClassObj nm q C N bs bm hdct sn sub ab col dd k0 k1 k2 k3 k5 newId))
    (hq : R (.ok (.ret (.ref (h.objs.size + 1)))) { heap := (h.push (kdv_tup rest)).push (excO C h.objs.size), gens := g, drawn := d, toks := t, os := os }) (hrest : rest.length ≤ sizeLine) :
    codeAny (model prog w) A (Code.builtin newId ⟨.ref C :: rest, kw⟩) R { heap := h, gens := g, drawn := d, toks := t, os := os } := by
  have hends := F.ends
  have hcB : (Value.ref C :: bm).contains (Value.type B) = true := by
    rw [List.contains_cons, hT B, F.hasB, Bool.or_true]
  have hcA : (Value.ref C :: bm).contains (Value.type "AttributeError") = false := by
    rw [List.contains_cons, hT, F.noAttr]
    rfl
  have hcN : (Value.ref C :: bm).contains (Value.type "NameError") = false := by
    rw [List.contains_cons, hT, F.noName]
    rfl
  refine PySem.codeAny_builtinAt F.entry ?_
  refine PySem.wpAt_bind ?_
  refine PySem.wpAt_bind ?_
  refine PySem.wpAt_stack fun p below => ?_
  refine PySem.wpAt_of_wpAny ?_
  refine PySem.wpAny_ite_true (by simpa using hends) ?_
  refine PySem.wpAny_pure ?_
  refine PySem.wpAt_of_wpAny ?_
  rw [show (newId.dropRight 8) = B from F.owner]
  refine PySem.wpAny_bind ?_
  refine PySem.wpAny_bind ?_
  refine PySem.wpAny_loadPart_at hC ?_
  refine PySem.wpAny_pure ?_
  refine PySem.wpAny_ite_false rfl ?_
  refine PySem.wpAny_bind ?_
  refine wpAny_isSubtype_exc hC ?_
  rw [hcB]
  refine PySem.wpAny_ite_false rfl ?_
  refine PySem.wpAny_bind ?_
  refine wpAny_madeHere_exc F.canon hC ?_
  refine PySem.wpAny_bind ?_
  refine PySem.wpAny_bind ?_
  refine wpAny_isSubtype_exc hC ?_
  rw [hcA]
  refine PySem.wpAny_ite_false rfl ?_
  refine PySem.wpAny_bind ?_
  refine wpAny_isSubtype_exc hC ?_
  rw [hcN]
  refine PySem.wpAny_ite_false rfl ?_
  refine PySem.wpAny_pure ?_
  refine PySem.wpAny_bind ?_
  refine PySem.wpAny_ite_false (by simpa using hrest) ?_
  refine PySem.wpAny_bind ?_
  refine PySem.wpAny_alloc' ?_
  refine PySem.wpAny_pure ?_
  refine PySem.wpAny_bind ?_
  unfold PySem.newObj
  dsimp only
  refine PySem.wpAny_ite_false (by rfl) ?_
  refine PySem.wpAny_bind ?_
  refine PySem.wpAny_alloc' ?_
  refine PySem.wpAny_bind ?_
  refine PySem.wpAny_bind ?_
  refine PySem.wpAny_load' (by have hC' := Heap.get?_push_of_some (excO C h.objs.size) (Heap.get?_push_of_some (kdv_tup rest) hC); exact hC') ?_
  refine PySem.wpAny_pure ?_
  refine PySem.wpAny_ite_false rfl ?_
  refine PySem.wpAny_pure ?_
  refine PySem.wpAny_pure ?_
  have e := Heap.size_push h (kdv_tup rest)
  show R (.ok (.ret (.ref _))) _
  rw [show (h.push (kdv_tup rest)).objs.size = h.objs.size + 1 from e]
  exact hq
end
theorem any_args {id B : String} {a : List Value} {kw : List (Str × Value)} {r : Manifest.Receiver} {ps : List Manifest.Param} : Bind.checkArgs id { machinery := Manifest.Machinery.any, full := B, short := B, receiver := r, params := ps } ⟨a, kw⟩ = Bind.checkArgs id { machinery := Manifest.Machinery.any, full := B, short := B, receiver := r, params := ps } ⟨a, []⟩ := by
  unfold Bind.checkArgs Bind.check
  rfl
theorem any_call {B newId initId : String} {bm : List Value} (F : ExcBaseFacts B newId initId bm) {c : Value} {rest : List Value} {kw : List (Str × Value)} : checkBuiltinCall newId ⟨c :: rest, kw⟩ = checkBuiltinCall newId ⟨c :: rest, []⟩ := by
  unfold checkBuiltinCall
  simp only [F.newRow, F.newKind, F.newSplit]
  rw [show Bind.checkArgs newId _ ⟨c :: rest, kw⟩ = _ from any_args]
end EX
namespace EX
open PySem PySem.W PySem.Calls PyProof.Rows PySem.HandSPX
theorem tc_hand : (Manifest.signature? "type.__call__").map (fun s => s.machinery) = some Manifest.Machinery.hand := by decide +kernel
theorem tc_kind : builtinKind "type.__call__" = some Manifest.AttrKind.slot := by decide +kernel
theorem tc_split : splitId "type.__call__" = some ("type", "__call__") := by decide +kernel
theorem tc_call {c : Value} {rest : List Value} {kw : List (Str × Value)} : checkBuiltinCall "type.__call__" ⟨c :: rest, kw⟩ = checkBuiltinCall "type.__call__" ⟨c :: rest, []⟩ := by
  have e := tc_hand
  cases q : Manifest.signature? "type.__call__" with
  | none => rw [q] at e; cases e
  | some s =>
    rw [q] at e
    obtain ⟨m, F, S, r, ps⟩ := s
    have e' : m = Manifest.Machinery.hand := by simpa using e
    subst e'
    unfold checkBuiltinCall
    simp only [q, tc_kind, tc_split]
    unfold Bind.checkArgs Bind.check
    rfl
section
variable {prog : Program} {w : World} {A : Around} {h : Heap} {g : Array GenState} {d : Drawn} {t : Nat} {os : OsState} {nm q : Str} {C N : Addr} {bs bm bmB : List Value}
  {hdct : Bool} {sn : List Str} {sub : List Value} {ab : Bool} {col : Option Bool} {dd : Option Addr} {k0 k1 k2 k3 k5 : Option Value} {B newId initId : String}
theorem type_call_ownK {E : Value → Shared → Prop} {Q : PySem.Fin → Shared → Prop} (F : ExcBaseFacts B newId initId bmB) (hT : ∀ X : String, bm.contains (Value.type X) = bmB.contains (Value.type X)) {rest : List Value} {kw : List (Str × Value)} {fI : Addr}
    (hC : h.get? C = some (excClassObj nm q C N bs bm hdct sn sub ab col dd k0 k1 k2 k3 k5 newId))
    (hi : Looks (model prog w) h (typeLookup (.ref C) (Str.ofString "__init__")) (some (.ref fI)))
    (hb : ∀ self : Value, Looks (model prog w) h (bindSpecial (.ref fI) self) (.ref fI, [self])) (hrest : rest.length ≤ sizeLine)
    (hq : codeAny (model prog w) A (Code.call (.ref fI) ⟨.ref (h.objs.size + 1) :: rest, kw⟩) (fun r s' => match r with
      | .ok (.ret v) => v = .none ∧ Q (.done (.ret (.ref (h.objs.size + 1)))) s'
      | .ok _ => False
      | .error e => E e s') { heap := (h.push (kdv_tup rest)).push (excO C h.objs.size), gens := g, drawn := d, toks := t, os := os }) :
    wpAny (model prog w) A (Builtin.«type.__call__» ⟨.ref C :: rest, kw⟩) Q E { heap := h, gens := g, drawn := d, toks := t, os := os } := by
  unfold Builtin.«type.__call__»
  dsimp only
  refine PySem.wpAny_ite_false (by rfl) ?_
  refine PySem.wpAny_bind ?_
  refine PySem.wpAny_bind ?_
  refine PySem.wpAny_bind ?_
  refine PySem.wpAny_load' hC ?_
  refine PySem.wpAny_pure ?_
  refine PySem.wpAny_pure ?_
  refine PySem.wpAny_ite_false (by rfl) ?_
  refine PySem.wpAny_bind ?_
  refine wpAny_madeBy_exc hC ?_
  refine PySem.wpAny_bind ?_
  refine PySem.wpAny_pure ?_
  refine PySem.wpAny_bind ?_
  refine PySem.wpAny_holding ?_
  refine PySem.wpAny_call ?_
  refine codeAny_call_builtin_code (Code.quiet_builtin _ F.quiet) ?_
  rw [any_call F]
  refine check_new_own F hT hC ?_
  refine new_ownK F hT hC ?_ hrest
  have k : ∀ b o, h.get? b = some o → ((h.push (kdv_tup rest)).push (excO C h.objs.size)).get? b = some o := fun b o e => Heap.get?_push_of_some _ (Heap.get?_push_of_some _ e)
  have hC₁ := k _ _ hC
  have hget : ((h.push (kdv_tup rest)).push (excO C h.objs.size)).get? (h.objs.size + 1) = some (excO C h.objs.size) := by heap_get
  have hcC : (Value.ref C :: bm).contains (Value.ref C) = true := by simp
  have i1 := hi.keeps k
  have b1 := (hb (.ref (h.objs.size + 1))).keeps k
  refine PySem.wpAny_bind ?_
  refine PySem.wpAny_bind ?_
  refine PySem.wpAny_bind ?_
  refine PySem.wpAny_loadPart_at hget ?_
  refine PySem.wpAny_pure ?_
  refine wpAny_isSubtype_exc hC₁ ?_
  rw [hcC]
  refine PySem.wpAny_ite_false (by rfl) ?_
  refine PySem.wpAny_bind ?_
  refine PySem.wpAny_holding ?_
  refine PySem.wpAny_bind ?_
  refine PySem.wpAny_bind ?_
  refine PySem.wpAny_bind ?_
  refine PySem.wpAny_loadPart_at hget ?_
  refine PySem.wpAny_pure ?_
  refine i1.at ?_
  refine PySem.wpAny_holding ?_
  refine PySem.wpAny_bind ?_
  refine b1.at ?_
  refine PySem.wpAny_bind ?_
  refine PySem.wpAny_call (codeAny_mono hq fun r s' z => ?_)
  cases r with
  | error e => exact z
  | ok f =>
    cases f with
    | next => exact z
    | brk => exact z
    | cont => exact z
    | ret v =>
      obtain ⟨e, z⟩ := z
      subst e
      exact PySem.wpAny_pure (PySem.wpAny_pure z)
theorem call_ownK {R : Result → Shared → Prop} (F : ExcBaseFacts B newId initId bmB) (hT : ∀ X : String, bm.contains (Value.type X) = bmB.contains (Value.type X)) {rest : List Value} {kw : List (Str × Value)} {fI : Addr}
    (hC : h.get? C = some (excClassObj nm q C N bs bm hdct sn sub ab col dd k0 k1 k2 k3 k5 newId))
    (hi : Looks (model prog w) h (typeLookup (.ref C) (Str.ofString "__init__")) (some (.ref fI)))
    (hb : ∀ self : Value, Looks (model prog w) h (bindSpecial (.ref fI) self) (.ref fI, [self])) (hrest : rest.length ≤ sizeLine)
    (hq : codeAny (model prog w) (A.under (.builtin "type.__call__" ⟨.ref C :: rest, kw⟩)) (Code.call (.ref fI) ⟨.ref (h.objs.size + 1) :: rest, kw⟩) (InitBack (h.objs.size + 1) R)
      { heap := (h.push (kdv_tup rest)).push (excO C h.objs.size), gens := g, drawn := d, toks := t, os := os }) :
    codeAny (model prog w) A (.call (.ref C) ⟨rest, kw⟩) R { heap := h, gens := g, drawn := d, toks := t, os := os } := by
  have f1 := tc_lookup
  have f2 := tc_bind (.ref C)
  have hTy : Shared.TypeIs { heap := h, gens := g, drawn := d, toks := t, os := os } (.ref C) "type" := ⟨_, hC, rfl⟩
  refine codeAny_of_tree ?_
  refine PySem.wpAny_bind ?_
  refine PySem.wpAny_load' hC ?_
  refine PySem.wpAny_bind ?_
  refine wpAny_specialOf hTy f1 ?_
  refine PySem.wpAny_bind ?_
  refine PySem.wpAny_of_eq f2 ?_
  refine PySem.wpAny_bind ?_
  refine PySem.wpAny_pure ?_
  refine PySem.wpAny_ite_true (by rfl) ?_
  refine PySem.wpAny_pure ?_
  refine ⟨rfl, ?_⟩
  refine codeAny_call_builtin_at (Code.quiet_builtin _ (by decide +kernel)) entry_typeCall ?_
  show wpAny _ _ (checkBuiltinCall "type.__call__" ⟨.ref C :: rest, kw⟩) _ _ _
  rw [tc_call]
  refine wpAny_check_type_call_sub hC ?_
  refine type_call_ownK F hT hC hi hb hrest ?_
  refine codeAny_mono hq fun r s' z => ?_
  cases r with
  | error e => exact z
  | ok f =>
    cases f with
    | next => exact z
    | brk => exact z
    | cont => exact z
    | ret v => exact z
end
end EX
namespace EX
open PySem PySem.W PySem.Calls PyProof.Rows PySem.HandSPX
section
variable {prog : Program} {w : World} {A : Around} {R : Result → Shared → Prop} {hp : Heap} {g : Array GenState} {d : Drawn} {t : Nat} {os : OsState} {K : Frag} {name : Str} {tk : Tok} {v : Value} {x C dx : Addr} {fv : Array Value} {cd : ClassData} {m0 : Str → Option Value} {nl : List Str}
end
end EX
namespace EX
open PySem PySem.W PySem.Calls PyProof.Rows PySem.HandSPX
theorem one_size {n : Nat} (h : n ≤ 1000) : n ≤ sizeLine := by
  rw [sizeLine_eq]
  omega
theorem ns1_eq {h : Heap} {a : Addr} {m m' : Str → Option Value} (hn : h.Ns1 a m) (e : ∀ y, m y = m' y) : h.Ns1 a m' := by
  have : m = m' := funext e
  subst this
  exact hn
theorem ldC {M : Model} {A : Around} {E : Value → Shared → Prop} {s : Shared} {name : Str} {scope : Scope} {L a : Addr} {cd : Value} {m : Str → Option Value} {x : Str} {pos : Pos} {v : Value} {Q : Value → Shared → Prop} (hn : s.heap.Ns L m) (hv : m x = some v) (h : Q v s)
    (hk : scope.kind = .function := by rfl) (hl : (envOfC name scope L a cd).kindOf x = some .local := by rfl) (hd : (x == ("__debug__" : Str)) = false := by decide) :
    wpAny M A (eval (.Name x pos) (envOfC name scope L a cd)) Q E s := wpAny_Name (wpAny_loadName_local hk hl hn hv h) hd
theorem lk1 {f1 : Str} {v1 : Value} (y : Str) : (if y = f1 then some v1 else none) = List.lookup y [(f1, v1)] := by
  by_cases h : y = f1
  · subst h
    simp [List.lookup]
  · have q : (y == f1) = false := by simpa using h
    rw [if_neg h, List.lookup_cons, q]
    rfl
/-- what __init__ leaves of a fresh exception at x -/
structure InitEnd (h h' : Heap) (x C t1 : Addr) (fs : List Str) (us : List Value) : Prop where
  keep : ∀ b o, b ≠ x → h.get? b = some o → h'.get? b = some o
  obj : ∃ od, h'.get? x = some { cls := .ref C, dict := od, data := .fields #[.ref t1, .none, .none, .none, .bool false, .none] } ∧
    (fs = [] → od = none) ∧ (fs ≠ [] → ∃ dx, od = some dx ∧ h.objs.size ≤ dx ∧ dx ≠ x ∧ h'.Ns1 dx fun y => List.lookup y (fs.zip us))
/-- the class's way of stores -/
structure ExY (K : Frag) (C : Addr) (fs : List Str) : Prop where
  cls : ∃ cd, clsIn K C = some cd ∧ refsVE cd.mro = true ∧ cd.hasDict = true
  sa : findIn K (.ref C) "__setattr__" = some (some (.builtin "object.__setattr__"))
  noF : ∀ f ∈ fs, findIn K (.ref C) f = some none
/-- __init__ at fI: by position, or by names from the last one to the first -/
def Ini (K : Frag) (C fI : Addr) (fs : List Str) : Prop := ∀ (prog : Program) (w : World) (A : Around) (R : Result → Shared → Prop) (s : Shared) (x t0 : Addr) (args : Args) (us : List Value),
  K.In s.heap → s.heap.NoLimit → s.heap.get? x = some (excO C t0) → K.lookup x = none → A.depth < recursionLimit → us.length = fs.length →
  (args = ⟨.ref x :: us, []⟩ ∨ args = ⟨[.ref x], fs.reverse.zip us.reverse⟩) →
  (∀ (h' : Heap) (tk : Nat), InitEnd s.heap h' x C t0 fs us → R (.ok (.ret .none)) { s with heap := h', toks := tk }) →
  codeAny (model prog w) A (.call (.ref fI) args) R s
def iA_index (p0 p1 : Pos) : Arguments := { posonlyargs := [], args := [{ arg := "self", annotation := none, pos := p0 }, { arg := "index", annotation := none, pos := p1 }], vararg := none, kwonlyargs := [], kw_defaults := [], kwarg := none, defaults := [] }
def iB_index (q00 q01 q02 q03 : Pos) : List Stmt := [.Assign [.Attribute (.Name "self" q00) "index" q01] (.Name "index" q02) q03]
def iS_index : Scope := { kind := .function, names := [(PySem.Str.ofString "self", .local), (PySem.Str.ofString "index", .local)], isGenerator := false, isCoroutine := false, more := [] }
structure Fn_index (K : Frag) (qn : Str) (fI : Addr) : Prop where
  fn : ∃ (oc : Value) (od : Option Addr) (kV doc pm : Value) (an : Option Addr) (cdv ct : Value) (osl : Array (Option Value)) (p0 p1 q00 q01 q02 q03 : Pos),
    K.lookup fI = some ⟨oc, od, .func (fnOf "__init__" qn (iA_index p0 p1) (iB_index q00 q01 q02 q03) iS_index .none kV doc pm an cdv ct), osl⟩ ∧ codeIn K cdv qn = true
theorem ini_index {K : Frag} {qn : Str} {C fI : Addr} (T : Fn_index K qn fI) (Y : ExY K C ["index"]) : Ini K C fI ["index"] := by
  intro prog w A R s x t0 args us X hlim hx hnx hroom hl ha hq
  obtain ⟨oc, od, kV, doc, pm, an, cdv, ct, osl, p0, p1, q00, q01, q02, q03, ho, hcd⟩ := T.fn
  match us, hl with
  | [v0], _ =>
  have hb : ∀ s' : Shared, BindsTo s' (fnOf "__init__" qn (iA_index p0 p1) (iB_index q00 q01 q02 q03) iS_index .none kV doc pm an cdv ct) args [("self", .ref x), ("index", v0)] := by
    intro s'
    rcases ha with rfl | rfl
    · exact BindsTo.of_eq (by first | rfl | with_unfolding_all rfl)
    · exact BindsTo.of_eq (by first | rfl | with_unfolding_all rfl)
  refine Att.call_fn (binds := [("self", .ref x), ("index", v0)]) X hlim ho hcd hroom (hb _) (by first | rfl | decide | with_unfolding_all rfl) (fun s₁ IC => ?_) rfl rfl rfl
  obtain ⟨h₁, tk₁, rfl⟩ := IC.toInCall.same
  have k : ∀ b o, s.heap.get? b = some o → h₁.get? b = some o := IC.toInCall.keep
  obtain ⟨cd, hcl, hm, hh⟩ := Y.cls
  have hn0 := IC.toInCall.ns
  have hxL : s.heap.objs.size ≠ x := Nat.ne_of_gt (Heap.lt_size hx)
  have X₁ : K.In h₁ := X.keeps k
  have hx₁ := k _ _ hx
  have z1 : s.heap.objs.size < h₁.objs.size := hn0.lt
  show wpAny _ _ (execs _ _) _ _ _
  refine wpAny_execs_cons (plainObj_wpAny_Assign_Attribute ?_)
  refine ldC (v := v0) hn0 (by first | rfl | with_unfolding_all rfl | kernel_rfl) (ldC (v := .ref x) hn0 (by first | rfl | with_unfolding_all rfl | kernel_rfl) ?_)
  refine set_plain X₁ (ox := excO C t0) (od := none) ⟨hx₁, rfl, rfl, trivial⟩ Y.sa ?_
  refine exc_osa X₁ hx₁ hcl hm hh (Y.noF _ (by simp)) (fun h₂ tk₂ dx k₂ dn dne hx₂ hn₂ => ?_)
  show wpAny _ _ (execs _ _) _ _ _
  refine wpAny_execs_nil (hq h₂ tk₂ ⟨fun b o hb e => ?_, some dx, hx₂, fun z => (by cases z), fun _ => ⟨dx, rfl, Nat.le_of_lt (Nat.lt_of_lt_of_le z1 dn), dne, ?_⟩⟩)
  · exact k₂ b o hb (k b o e)
  · refine ns1_eq hn₂ fun y => ?_
    exact lk1  y
def iA_kind (p0 p1 : Pos) : Arguments := { posonlyargs := [], args := [{ arg := "self", annotation := none, pos := p0 }, { arg := "kind", annotation := none, pos := p1 }], vararg := none, kwonlyargs := [], kw_defaults := [], kwarg := none, defaults := [] }
def iB_kind (q00 q01 q02 q03 : Pos) : List Stmt := [.Assign [.Attribute (.Name "self" q00) "kind" q01] (.Name "kind" q02) q03]
def iS_kind : Scope := { kind := .function, names := [(PySem.Str.ofString "self", .local), (PySem.Str.ofString "kind", .local)], isGenerator := false, isCoroutine := false, more := [] }
structure Fn_kind (K : Frag) (qn : Str) (fI : Addr) : Prop where
  fn : ∃ (oc : Value) (od : Option Addr) (kV doc pm : Value) (an : Option Addr) (cdv ct : Value) (osl : Array (Option Value)) (p0 p1 q00 q01 q02 q03 : Pos),
    K.lookup fI = some ⟨oc, od, .func (fnOf "__init__" qn (iA_kind p0 p1) (iB_kind q00 q01 q02 q03) iS_kind .none kV doc pm an cdv ct), osl⟩ ∧ codeIn K cdv qn = true
def iA_word (p0 p1 : Pos) : Arguments := { posonlyargs := [], args := [{ arg := "self", annotation := none, pos := p0 }, { arg := "word", annotation := none, pos := p1 }], vararg := none, kwonlyargs := [], kw_defaults := [], kwarg := none, defaults := [] }
def iB_word (q00 q01 q02 q03 : Pos) : List Stmt := [.Assign [.Attribute (.Name "self" q00) "word" q01] (.Name "word" q02) q03]
def iS_word : Scope := { kind := .function, names := [(PySem.Str.ofString "self", .local), (PySem.Str.ofString "word", .local)], isGenerator := false, isCoroutine := false, more := [] }
structure Fn_word (K : Frag) (qn : Str) (fI : Addr) : Prop where
  fn : ∃ (oc : Value) (od : Option Addr) (kV doc pm : Value) (an : Option Addr) (cdv ct : Value) (osl : Array (Option Value)) (p0 p1 q00 q01 q02 q03 : Pos),
    K.lookup fI = some ⟨oc, od, .func (fnOf "__init__" qn (iA_word p0 p1) (iB_word q00 q01 q02 q03) iS_word .none kV doc pm an cdv ct), osl⟩ ∧ codeIn K cdv qn = true
def iA_link (p0 p1 : Pos) : Arguments := { posonlyargs := [], args := [{ arg := "self", annotation := none, pos := p0 }, { arg := "link", annotation := none, pos := p1 }], vararg := none, kwonlyargs := [], kw_defaults := [], kwarg := none, defaults := [] }
def iB_link (q00 q01 q02 q03 : Pos) : List Stmt := [.Assign [.Attribute (.Name "self" q00) "link" q01] (.Name "link" q02) q03]
def iS_link : Scope := { kind := .function, names := [(PySem.Str.ofString "self", .local), (PySem.Str.ofString "link", .local)], isGenerator := false, isCoroutine := false, more := [] }
structure Fn_link (K : Frag) (qn : Str) (fI : Addr) : Prop where
  fn : ∃ (oc : Value) (od : Option Addr) (kV doc pm : Value) (an : Option Addr) (cdv ct : Value) (osl : Array (Option Value)) (p0 p1 q00 q01 q02 q03 : Pos),
    K.lookup fI = some ⟨oc, od, .func (fnOf "__init__" qn (iA_link p0 p1) (iB_link q00 q01 q02 q03) iS_link .none kV doc pm an cdv ct), osl⟩ ∧ codeIn K cdv qn = true
def iA_name (p0 p1 : Pos) : Arguments := { posonlyargs := [], args := [{ arg := "self", annotation := none, pos := p0 }, { arg := "name", annotation := none, pos := p1 }], vararg := none, kwonlyargs := [], kw_defaults := [], kwarg := none, defaults := [] }
def iB_name (q00 q01 q02 q03 : Pos) : List Stmt := [.Assign [.Attribute (.Name "self" q00) "name" q01] (.Name "name" q02) q03]
def iS_name : Scope := { kind := .function, names := [(PySem.Str.ofString "self", .local), (PySem.Str.ofString "name", .local)], isGenerator := false, isCoroutine := false, more := [] }
structure Fn_name (K : Frag) (qn : Str) (fI : Addr) : Prop where
  fn : ∃ (oc : Value) (od : Option Addr) (kV doc pm : Value) (an : Option Addr) (cdv ct : Value) (osl : Array (Option Value)) (p0 p1 q00 q01 q02 q03 : Pos),
    K.lookup fI = some ⟨oc, od, .func (fnOf "__init__" qn (iA_name p0 p1) (iB_name q00 q01 q02 q03) iS_name .none kV doc pm an cdv ct), osl⟩ ∧ codeIn K cdv qn = true
def iA_number (p0 p1 : Pos) : Arguments := { posonlyargs := [], args := [{ arg := "self", annotation := none, pos := p0 }, { arg := "number", annotation := none, pos := p1 }], vararg := none, kwonlyargs := [], kw_defaults := [], kwarg := none, defaults := [] }
def iB_number (q00 q01 q02 q03 : Pos) : List Stmt := [.Assign [.Attribute (.Name "self" q00) "number" q01] (.Name "number" q02) q03]
def iS_number : Scope := { kind := .function, names := [(PySem.Str.ofString "self", .local), (PySem.Str.ofString "number", .local)], isGenerator := false, isCoroutine := false, more := [] }
structure Fn_number (K : Frag) (qn : Str) (fI : Addr) : Prop where
  fn : ∃ (oc : Value) (od : Option Addr) (kV doc pm : Value) (an : Option Addr) (cdv ct : Value) (osl : Array (Option Value)) (p0 p1 q00 q01 q02 q03 : Pos),
    K.lookup fI = some ⟨oc, od, .func (fnOf "__init__" qn (iA_number p0 p1) (iB_number q00 q01 q02 q03) iS_number .none kV doc pm an cdv ct), osl⟩ ∧ codeIn K cdv qn = true
def iA_depth (p0 p1 : Pos) : Arguments := { posonlyargs := [], args := [{ arg := "self", annotation := none, pos := p0 }, { arg := "depth", annotation := none, pos := p1 }], vararg := none, kwonlyargs := [], kw_defaults := [], kwarg := none, defaults := [] }
def iB_depth (q00 q01 q02 q03 : Pos) : List Stmt := [.Assign [.Attribute (.Name "self" q00) "depth" q01] (.Name "depth" q02) q03]
def iS_depth : Scope := { kind := .function, names := [(PySem.Str.ofString "self", .local), (PySem.Str.ofString "depth", .local)], isGenerator := false, isCoroutine := false, more := [] }
structure Fn_depth (K : Frag) (qn : Str) (fI : Addr) : Prop where
  fn : ∃ (oc : Value) (od : Option Addr) (kV doc pm : Value) (an : Option Addr) (cdv ct : Value) (osl : Array (Option Value)) (p0 p1 q00 q01 q02 q03 : Pos),
    K.lookup fI = some ⟨oc, od, .func (fnOf "__init__" qn (iA_depth p0 p1) (iB_depth q00 q01 q02 q03) iS_depth .none kV doc pm an cdv ct), osl⟩ ∧ codeIn K cdv qn = true
def iA_row_column (p0 p1 p2 : Pos) : Arguments := { posonlyargs := [], args := [{ arg := "self", annotation := none, pos := p0 }, { arg := "row", annotation := none, pos := p1 }, { arg := "column", annotation := none, pos := p2 }], vararg := none, kwonlyargs := [], kw_defaults := [], kwarg := none, defaults := [] }
def iB_row_column (q00 q01 q02 q03 q10 q11 q12 q13 : Pos) : List Stmt := [.Assign [.Attribute (.Name "self" q00) "row" q01] (.Name "row" q02) q03, .Assign [.Attribute (.Name "self" q10) "column" q11] (.Name "column" q12) q13]
def iS_row_column : Scope := { kind := .function, names := [(PySem.Str.ofString "self", .local), (PySem.Str.ofString "row", .local), (PySem.Str.ofString "column", .local)], isGenerator := false, isCoroutine := false, more := [] }
structure Fn_row_column (K : Frag) (qn : Str) (fI : Addr) : Prop where
  fn : ∃ (oc : Value) (od : Option Addr) (kV doc pm : Value) (an : Option Addr) (cdv ct : Value) (osl : Array (Option Value)) (p0 p1 p2 q00 q01 q02 q03 q10 q11 q12 q13 : Pos),
    K.lookup fI = some ⟨oc, od, .func (fnOf "__init__" qn (iA_row_column p0 p1 p2) (iB_row_column q00 q01 q02 q03 q10 q11 q12 q13) iS_row_column .none kV doc pm an cdv ct), osl⟩ ∧ codeIn K cdv qn = true
def iA_part_number (p0 p1 p2 : Pos) : Arguments := { posonlyargs := [], args := [{ arg := "self", annotation := none, pos := p0 }, { arg := "part", annotation := none, pos := p1 }, { arg := "number", annotation := none, pos := p2 }], vararg := none, kwonlyargs := [], kw_defaults := [], kwarg := none, defaults := [] }
def iB_part_number (q00 q01 q02 q03 q10 q11 q12 q13 : Pos) : List Stmt := [.Assign [.Attribute (.Name "self" q00) "part" q01] (.Name "part" q02) q03, .Assign [.Attribute (.Name "self" q10) "number" q11] (.Name "number" q12) q13]
def iS_part_number : Scope := { kind := .function, names := [(PySem.Str.ofString "self", .local), (PySem.Str.ofString "part", .local), (PySem.Str.ofString "number", .local)], isGenerator := false, isCoroutine := false, more := [] }
structure Fn_part_number (K : Frag) (qn : Str) (fI : Addr) : Prop where
  fn : ∃ (oc : Value) (od : Option Addr) (kV doc pm : Value) (an : Option Addr) (cdv ct : Value) (osl : Array (Option Value)) (p0 p1 p2 q00 q01 q02 q03 q10 q11 q12 q13 : Pos),
    K.lookup fI = some ⟨oc, od, .func (fnOf "__init__" qn (iA_part_number p0 p1 p2) (iB_part_number q00 q01 q02 q03 q10 q11 q12 q13) iS_part_number .none kV doc pm an cdv ct), osl⟩ ∧ codeIn K cdv qn = true
def iA_place (p0 p1 : Pos) : Arguments := { posonlyargs := [], args := [{ arg := "self", annotation := none, pos := p0 }, { arg := "place", annotation := none, pos := p1 }], vararg := none, kwonlyargs := [], kw_defaults := [], kwarg := none, defaults := [] }
def iB_place (q00 q01 q02 q03 : Pos) : List Stmt := [.Assign [.Attribute (.Name "self" q00) "place" q01] (.Name "place" q02) q03]
def iS_place : Scope := { kind := .function, names := [(PySem.Str.ofString "self", .local), (PySem.Str.ofString "place", .local)], isGenerator := false, isCoroutine := false, more := [] }
structure Fn_place (K : Frag) (qn : Str) (fI : Addr) : Prop where
  fn : ∃ (oc : Value) (od : Option Addr) (kV doc pm : Value) (an : Option Addr) (cdv ct : Value) (osl : Array (Option Value)) (p0 p1 q00 q01 q02 q03 : Pos),
    K.lookup fI = some ⟨oc, od, .func (fnOf "__init__" qn (iA_place p0 p1) (iB_place q00 q01 q02 q03) iS_place .none kV doc pm an cdv ct), osl⟩ ∧ codeIn K cdv qn = true
def iA_gap (p0 p1 : Pos) : Arguments := { posonlyargs := [], args := [{ arg := "self", annotation := none, pos := p0 }, { arg := "gap", annotation := none, pos := p1 }], vararg := none, kwonlyargs := [], kw_defaults := [], kwarg := none, defaults := [] }
def iB_gap (q00 q01 q02 q03 : Pos) : List Stmt := [.Assign [.Attribute (.Name "self" q00) "gap" q01] (.Name "gap" q02) q03]
def iS_gap : Scope := { kind := .function, names := [(PySem.Str.ofString "self", .local), (PySem.Str.ofString "gap", .local)], isGenerator := false, isCoroutine := false, more := [] }
structure Fn_gap (K : Frag) (qn : Str) (fI : Addr) : Prop where
  fn : ∃ (oc : Value) (od : Option Addr) (kV doc pm : Value) (an : Option Addr) (cdv ct : Value) (osl : Array (Option Value)) (p0 p1 q00 q01 q02 q03 : Pos),
    K.lookup fI = some ⟨oc, od, .func (fnOf "__init__" qn (iA_gap p0 p1) (iB_gap q00 q01 q02 q03) iS_gap .none kV doc pm an cdv ct), osl⟩ ∧ codeIn K cdv qn = true
def iA_side_number (p0 p1 p2 : Pos) : Arguments := { posonlyargs := [], args := [{ arg := "self", annotation := none, pos := p0 }, { arg := "side", annotation := none, pos := p1 }, { arg := "number", annotation := none, pos := p2 }], vararg := none, kwonlyargs := [], kw_defaults := [], kwarg := none, defaults := [] }
def iB_side_number (q00 q01 q02 q03 q10 q11 q12 q13 : Pos) : List Stmt := [.Assign [.Attribute (.Name "self" q00) "side" q01] (.Name "side" q02) q03, .Assign [.Attribute (.Name "self" q10) "number" q11] (.Name "number" q12) q13]
def iS_side_number : Scope := { kind := .function, names := [(PySem.Str.ofString "self", .local), (PySem.Str.ofString "side", .local), (PySem.Str.ofString "number", .local)], isGenerator := false, isCoroutine := false, more := [] }
structure Fn_side_number (K : Frag) (qn : Str) (fI : Addr) : Prop where
  fn : ∃ (oc : Value) (od : Option Addr) (kV doc pm : Value) (an : Option Addr) (cdv ct : Value) (osl : Array (Option Value)) (p0 p1 p2 q00 q01 q02 q03 q10 q11 q12 q13 : Pos),
    K.lookup fI = some ⟨oc, od, .func (fnOf "__init__" qn (iA_side_number p0 p1 p2) (iB_side_number q00 q01 q02 q03 q10 q11 q12 q13) iS_side_number .none kV doc pm an cdv ct), osl⟩ ∧ codeIn K cdv qn = true
def iA_first_second_place (p0 p1 p2 p3 : Pos) : Arguments := { posonlyargs := [], args := [{ arg := "self", annotation := none, pos := p0 }, { arg := "first", annotation := none, pos := p1 }, { arg := "second", annotation := none, pos := p2 }, { arg := "place", annotation := none, pos := p3 }], vararg := none, kwonlyargs := [], kw_defaults := [], kwarg := none, defaults := [] }
def iB_first_second_place (q00 q01 q02 q03 q10 q11 q12 q13 q20 q21 q22 q23 : Pos) : List Stmt := [.Assign [.Attribute (.Name "self" q00) "first" q01] (.Name "first" q02) q03, .Assign [.Attribute (.Name "self" q10) "second" q11] (.Name "second" q12) q13, .Assign [.Attribute (.Name "self" q20) "place" q21] (.Name "place" q22) q23]
def iS_first_second_place : Scope := { kind := .function, names := [(PySem.Str.ofString "self", .local), (PySem.Str.ofString "first", .local), (PySem.Str.ofString "second", .local), (PySem.Str.ofString "place", .local)], isGenerator := false, isCoroutine := false, more := [] }
structure Fn_first_second_place (K : Frag) (qn : Str) (fI : Addr) : Prop where
  fn : ∃ (oc : Value) (od : Option Addr) (kV doc pm : Value) (an : Option Addr) (cdv ct : Value) (osl : Array (Option Value)) (p0 p1 p2 p3 q00 q01 q02 q03 q10 q11 q12 q13 q20 q21 q22 q23 : Pos),
    K.lookup fI = some ⟨oc, od, .func (fnOf "__init__" qn (iA_first_second_place p0 p1 p2 p3) (iB_first_second_place q00 q01 q02 q03 q10 q11 q12 q13 q20 q21 q22 q23) iS_first_second_place .none kV doc pm an cdv ct), osl⟩ ∧ codeIn K cdv qn = true
def iA_key (p0 p1 : Pos) : Arguments := { posonlyargs := [], args := [{ arg := "self", annotation := none, pos := p0 }, { arg := "key", annotation := none, pos := p1 }], vararg := none, kwonlyargs := [], kw_defaults := [], kwarg := none, defaults := [] }
def iB_key (q00 q01 q02 q03 : Pos) : List Stmt := [.Assign [.Attribute (.Name "self" q00) "key" q01] (.Name "key" q02) q03]
def iS_key : Scope := { kind := .function, names := [(PySem.Str.ofString "self", .local), (PySem.Str.ofString "key", .local)], isGenerator := false, isCoroutine := false, more := [] }
structure Fn_key (K : Frag) (qn : Str) (fI : Addr) : Prop where
  fn : ∃ (oc : Value) (od : Option Addr) (kV doc pm : Value) (an : Option Addr) (cdv ct : Value) (osl : Array (Option Value)) (p0 p1 q00 q01 q02 q03 : Pos),
    K.lookup fI = some ⟨oc, od, .func (fnOf "__init__" qn (iA_key p0 p1) (iB_key q00 q01 q02 q03) iS_key .none kV doc pm an cdv ct), osl⟩ ∧ codeIn K cdv qn = true
def iA_none (p0 : Pos) : Arguments := { posonlyargs := [], args := [{ arg := "self", annotation := none, pos := p0 }], vararg := none, kwonlyargs := [], kw_defaults := [], kwarg := none, defaults := [] }
def iB_none (q00 : Pos) : List Stmt := [.Pass q00]
def iS_none : Scope := { kind := .function, names := [(PySem.Str.ofString "self", .local)], isGenerator := false, isCoroutine := false, more := [] }
structure Fn_none (K : Frag) (qn : Str) (fI : Addr) : Prop where
  fn : ∃ (oc : Value) (od : Option Addr) (kV doc pm : Value) (an : Option Addr) (cdv ct : Value) (osl : Array (Option Value)) (p0 q00 : Pos),
    K.lookup fI = some ⟨oc, od, .func (fnOf "__init__" qn (iA_none p0) (iB_none q00) iS_none .none kV doc pm an cdv ct), osl⟩ ∧ codeIn K cdv qn = true
def iA_part (p0 p1 : Pos) : Arguments := { posonlyargs := [], args := [{ arg := "self", annotation := none, pos := p0 }, { arg := "part", annotation := none, pos := p1 }], vararg := none, kwonlyargs := [], kw_defaults := [], kwarg := none, defaults := [] }
def iB_part (q00 q01 q02 q03 : Pos) : List Stmt := [.Assign [.Attribute (.Name "self" q00) "part" q01] (.Name "part" q02) q03]
def iS_part : Scope := { kind := .function, names := [(PySem.Str.ofString "self", .local), (PySem.Str.ofString "part", .local)], isGenerator := false, isCoroutine := false, more := [] }
structure Fn_part (K : Frag) (qn : Str) (fI : Addr) : Prop where
  fn : ∃ (oc : Value) (od : Option Addr) (kV doc pm : Value) (an : Option Addr) (cdv ct : Value) (osl : Array (Option Value)) (p0 p1 q00 q01 q02 q03 : Pos),
    K.lookup fI = some ⟨oc, od, .func (fnOf "__init__" qn (iA_part p0 p1) (iB_part q00 q01 q02 q03) iS_part .none kV doc pm an cdv ct), osl⟩ ∧ codeIn K cdv qn = true
def iA_word_path (p0 p1 p2 : Pos) : Arguments := { posonlyargs := [], args := [{ arg := "self", annotation := none, pos := p0 }, { arg := "word", annotation := none, pos := p1 }, { arg := "path", annotation := none, pos := p2 }], vararg := none, kwonlyargs := [], kw_defaults := [], kwarg := none, defaults := [] }
def iB_word_path (q00 q01 q02 q03 q10 q11 q12 q13 : Pos) : List Stmt := [.Assign [.Attribute (.Name "self" q00) "word" q01] (.Name "word" q02) q03, .Assign [.Attribute (.Name "self" q10) "path" q11] (.Name "path" q12) q13]
def iS_word_path : Scope := { kind := .function, names := [(PySem.Str.ofString "self", .local), (PySem.Str.ofString "word", .local), (PySem.Str.ofString "path", .local)], isGenerator := false, isCoroutine := false, more := [] }
structure Fn_word_path (K : Frag) (qn : Str) (fI : Addr) : Prop where
  fn : ∃ (oc : Value) (od : Option Addr) (kV doc pm : Value) (an : Option Addr) (cdv ct : Value) (osl : Array (Option Value)) (p0 p1 p2 q00 q01 q02 q03 q10 q11 q12 q13 : Pos),
    K.lookup fI = some ⟨oc, od, .func (fnOf "__init__" qn (iA_word_path p0 p1 p2) (iB_word_path q00 q01 q02 q03 q10 q11 q12 q13) iS_word_path .none kV doc pm an cdv ct), osl⟩ ∧ codeIn K cdv qn = true
def iA_word_offset (p0 p1 p2 : Pos) : Arguments := { posonlyargs := [], args := [{ arg := "self", annotation := none, pos := p0 }, { arg := "word", annotation := none, pos := p1 }, { arg := "offset", annotation := none, pos := p2 }], vararg := none, kwonlyargs := [], kw_defaults := [], kwarg := none, defaults := [] }
def iB_word_offset (q00 q01 q02 q03 q10 q11 q12 q13 : Pos) : List Stmt := [.Assign [.Attribute (.Name "self" q00) "word" q01] (.Name "word" q02) q03, .Assign [.Attribute (.Name "self" q10) "offset" q11] (.Name "offset" q12) q13]
def iS_word_offset : Scope := { kind := .function, names := [(PySem.Str.ofString "self", .local), (PySem.Str.ofString "word", .local), (PySem.Str.ofString "offset", .local)], isGenerator := false, isCoroutine := false, more := [] }
structure Fn_word_offset (K : Frag) (qn : Str) (fI : Addr) : Prop where
  fn : ∃ (oc : Value) (od : Option Addr) (kV doc pm : Value) (an : Option Addr) (cdv ct : Value) (osl : Array (Option Value)) (p0 p1 p2 q00 q01 q02 q03 q10 q11 q12 q13 : Pos),
    K.lookup fI = some ⟨oc, od, .func (fnOf "__init__" qn (iA_word_offset p0 p1 p2) (iB_word_offset q00 q01 q02 q03 q10 q11 q12 q13) iS_word_offset .none kV doc pm an cdv ct), osl⟩ ∧ codeIn K cdv qn = true
end EX
namespace EX
open PySem PySem.W PySem.Calls PyProof.Rows PySem.HandSPX
structure ExI (K : Frag) (C fI : Addr) (fs : List Str) : Prop where
  iC : findIn K (.ref C) "__init__" = some (some (.ref fI))
  tC : typeIn K (.ref fI) = some (.type "function")
  ini : Ini K C fI fs
theorem ExK.y {K : Frag} {B C : Addr} {nm : Str} {fs : List Str} (T : ExK K B nm C fs) : ExY K C fs := by
  obtain ⟨q, N, bs, sn, sub, ab, col, dd, k0, k1, k2, k3, k5, hC⟩ := T.cls
  refine ⟨⟨{ name := nm, bases := bs, mro := .ref C :: .ref B :: veTail, ns := N, qualname := q, hasDict := true, slotNames := sn, subclasses := sub, abstract := ab, collection := col, hasDel := false }, ?_, rfl, rfl⟩, T.sa, T.noF⟩
  unfold clsIn
  rw [hC] <;> rfl
/-- a made error -/
structure OwnMade (h h' : Heap) (e C : Addr) (fs : List Str) (us : List Value) : Prop where
  keep : ∀ b o, h.get? b = some o → h'.get? b = some o
  new : h.objs.size ≤ e
  obj : ∃ od t1, h'.get? e = some { cls := .ref C, dict := od, data := .fields #[.ref t1, .none, .none, .none, .bool false, .none] } ∧
    (fs = [] → od = none) ∧ (fs ≠ [] → ∃ d, od = some d ∧ e < d ∧ h'.Ns1 d fun y => List.lookup y (fs.zip us))
section
variable {prog : Program} {w : World} {A : Around} {R : Result → Shared → Prop} {s : Shared} {K : Frag} {B C fI : Addr} {nm : Str} {fs : List Str}
theorem made (T : ExK K B nm C fs) (I : ExI K C fI fs) {us : List Value} {a : Args} (hl : us.length = fs.length) (ha : a = ⟨us, []⟩ ∨ a = ⟨[], fs.reverse.zip us.reverse⟩) (X : K.In s.heap) (hlim : s.heap.NoLimit) (hroom : A.depth + 1 < recursionLimit) (hz : us.length ≤ 1000)
    (hq : ∀ h' tk e, OwnMade s.heap h' e C fs us → R (.ok (.ret (.ref e))) { s with heap := h', toks := tk }) :
    codeAny (model prog w) A (.call (.ref C) a) R s := by
  obtain ⟨q, N, bs, sn, sub, ab, col, dd, k0, k1, k2, k3, k5, hC⟩ := T.cls
  have hbm : refsVE (.ref B :: veTail) = true := rfl
  obtain ⟨hp, g, dr, tk, os⟩ := s
  have main : ∀ (rest : List Value) (kw : List (Str × Value)), a = ⟨rest, kw⟩ → rest.length ≤ 1000 → (∀ x : Addr, (⟨.ref x :: rest, kw⟩ : Args) = ⟨.ref x :: us, []⟩ ∨ (⟨.ref x :: rest, kw⟩ : Args) = ⟨[.ref x], fs.reverse.zip us.reverse⟩) → codeAny (model prog w) A (.call (.ref C) a) R ⟨hp, g, dr, tk, os⟩ := by
    rintro rest kw rfl hzr hx
    have k : ∀ b o, hp.get? b = some o → ((hp.push (kdv_tup rest)).push (excO C hp.objs.size)).get? b = some o := fun b o e => Heap.get?_push_of_some _ (Heap.get?_push_of_some _ e)
    have hget : ((hp.push (kdv_tup rest)).push (excO C hp.objs.size)).get? (hp.objs.size + 1) = some (excO C hp.objs.size) := by heap_get
    have hnx : K.lookup (hp.objs.size + 1) = none := by
      cases e : K.lookup (hp.objs.size + 1) with
      | none => rfl
      | some o =>
        have z : hp.get? (hp.objs.size + 1) = some o := X _ _ e
        exact absurd (Nat.lt_of_succ_lt (Heap.lt_size z)) (Nat.lt_irrefl _)
    refine call_ownK F.excBase_ValueError (fun X => refsVE_contains X _ hbm) (X _ _ hC) (W.looks_findIn X I.iC) (fun self => bind_fn X self I.tC) (one_size hzr) ?_
    refine I.ini prog w _ _ ⟨(hp.push (kdv_tup rest)).push (excO C hp.objs.size), g, dr, tk, os⟩ (hp.objs.size + 1) hp.objs.size _ us (X.keeps k) (hlim.keeps k) hget hnx ?_ hl (hx _) fun h' tk' M => ?_
    · show A.depth + 1 < recursionLimit
      exact hroom
    · have old : ∀ b o, hp.get? b = some o → h'.get? b = some o := fun b o e => M.keep b o (Nat.ne_of_lt (Nat.lt_succ_of_lt (Heap.lt_size e))) (k b o e)
      obtain ⟨od, ho, hn, hd⟩ := M.obj
      refine ⟨rfl, hq h' tk' (hp.objs.size + 1) ⟨old, Nat.le_succ _, od, _, ho, hn, fun ne => ?_⟩⟩
      obtain ⟨dx, e1, e2, e3, e4⟩ := hd ne
      have e2' : ((hp.push (kdv_tup rest)).push (excO C hp.objs.size)).objs.size ≤ dx := e2
      rw [Heap.size_push, Heap.size_push] at e2'
      exact ⟨dx, e1, e2', e4⟩
  rcases ha with rfl | rfl
  · exact main us [] rfl hz fun x => .inl rfl
  · exact main [] _ rfl (by decide) fun x => .inr rfl
end
theorem cut (h : Heap) (n : Nat) : ∃ G : Heap, (∀ b, b < n → G.get? b = h.get? b) ∧ G.objs.size ≤ n ∧ (∀ b o, G.get? b = some o → h.get? b = some o) := by
  have e : ∀ b, b < n → (h.objs.extract 0 n)[b]? = h.objs[b]? := fun b hb => by
    rw [Array.getElem?_extract]
    by_cases hs : b < h.objs.size
    · rw [if_pos (by omega), Nat.zero_add]
    · rw [if_neg (by omega)]
      exact (Array.getElem?_eq_none (by omega)).symm
  have s : (h.objs.extract 0 n).size ≤ n := by
    rw [Array.size_extract]
    omega
  have m : ∀ b, b < n → (⟨h.objs.extract 0 n, h.life⟩ : Heap).get? b = h.get? b := fun b hb => by
    unfold Heap.get?
    rw [e b hb]
  refine ⟨⟨h.objs.extract 0 n, h.life⟩, m, s, fun b o q => ?_⟩
  have hb : b < n := Nat.lt_of_lt_of_le (Heap.lt_size q) s
  rw [← m b hb]
  exact q
end EX
namespace L2
open PySem PySem.Spec PyProof.Rows EX
section
variable {X : Cx} {B C fI : Addr} {nm : Str} {fs : List Str} {pins : List (Addr × Obj)} {σ : St} {H1 : Hp} {s1 : Shared} {Q : VK}
end
end L2
namespace EX
open PySem PySem.W PySem.HandSPX
section
variable {K : Frag} {B C : Addr} {nm : Str} {fs : List Str}
theorem ExK.clsIn (T : ExK K B nm C fs) : ∃ cd, W.clsIn K C = some cd ∧ cd.mro = .ref C :: .ref B :: [.type "ValueError", .type "Exception", .type "BaseException", .type "object"] ∧ cd.hasDict = true := by
  obtain ⟨q, N, bs, sn, sub, ab, col, dd, k0, k1, k2, k3, k5, hC⟩ := T.cls
  refine ⟨{ name := nm, bases := bs, mro := .ref C :: .ref B :: veTail, ns := N, qualname := q, hasDict := true, slotNames := sn, subclasses := sub, abstract := ab, collection := col, hasDel := false }, ?_, rfl, rfl⟩
  unfold W.clsIn
  rw [hC] <;> rfl
theorem ExK.mro (T : ExK K B nm C fs) (t : Value) : mroIn K C t = some ((.ref C :: .ref B :: [.type "ValueError", .type "Exception", .type "BaseException", .type "object"] : List Value).contains t) := by
  obtain ⟨cd, h1, h2, _⟩ := T.clsIn
  unfold mroIn
  rw [h1]
  show (if cd.mro.isEmpty = true then none else some (cd.mro.contains t)) = _
  rw [h2]
  rfl
theorem ExK.sub (T : ExK K B nm C fs) (t : Value) : subIn K (.ref C) t = some ((.ref C :: .ref B :: [.type "ValueError", .type "Exception", .type "BaseException", .type "object"] : List Value).contains t) := T.mro t
theorem ExK.hd (T : ExK K B nm C fs) : hasDictIn K C = true := by
  obtain ⟨cd, h1, _, h3⟩ := T.clsIn
  unfold hasDictIn
  rw [h1]
  exact h3
theorem ExK.same {B' C' : Addr} {nm' : Str} {fs' : List Str} (T : ExK K B nm C fs) (T' : ExK K B' nm' C' fs') : decide (C = C') = (nm == nm') := by
  by_cases h : nm = nm'
  · subst h
    have e := T.ns.symm.trans T'.ns
    cases e
    simp
  · have ne : C ≠ C' := fun e => by
      subst e
      obtain ⟨_, _, _, _, _, _, _, _, _, _, _, _, _, h1⟩ := T.cls
      obtain ⟨_, _, _, _, _, _, _, _, _, _, _, _, _, h2⟩ := T'.cls
      have z := h1.symm.trans h2
      unfold excClassObj at z
      injection z with z
      injection z with z1 z2 z3 z4
      injection z3 with z3
      injection z3 with z3
      exact h z3
    simp [ne, h]
end
end EX
namespace L2
open PySem PySem.Spec PyProof.Rows EX
section
variable {X : Cx}
end
end L2
namespace DI
open PySem PySem.Spec PyProof.Rows L2 EX
variable [Nm]
/-- an error's class of the top -/
structure Cl (K : PySem.W.Frag) (mg : Str → Option Value) (nm : Str) (fs : List Str) : Prop where
  ex : ∃ B C fI, ExK K B nm C fs ∧ ExI K C fI fs ∧ mg nm = some (.ref C)
section
variable {X : Cx} {p : Pl} {nm : Str} {fs : List Str} {t : WA} {e : Expr} {es : List Expr} {pf pos : Pos} {ms : List Bool} {k : Nat}
/-! a field -/
end
end DI
namespace DI
open PySem PySem.Spec PyProof.Rows L2 EX
variable [Nm]
/-- the class that all are under -/
structure Bk (K : PySem.W.Frag) (mg : Str → Option Value) : Prop where
  ex : ∃ B, PySem.W.nsIn K mainGlobals "BookError" = some (some (.ref B)) ∧ (∃ cd, PySem.W.clsIn K B = some cd ∧ cd.name = "BookError") ∧ PySem.W.typeIn K (.ref B) = some (.type "type") ∧ mg "BookError" = some (.ref B)
section
variable {X : Cx} {p : Pl} {nm : Str} {fs : List Str} {t : WA} {e : Expr} {es : List Expr} {pf pt pos : Pos} {ms : List Bool} {k : Nat} {w : W}
def wG (g : D → Option D) (w : W) : W := ⟨fun s P => w.f s fun d s1 => get (g d) fun z => P z s1, fun s P P' h q => w.mono _ _ _ (fun d s1 q => get_mono (fun z => h z s1) q) q⟩
end
end DI
namespace DI
open PySem PySem.Spec PyProof.Rows L2 EX
variable [Nm]
section
variable {X : Cx} {p : Pl} {a b e : Expr} {es : List Expr} {pf pt pos : Pos} {w wa wb : W}
def gRep : D → D → Option D
  | .lst ds, .int k => some (.lst (List.replicate k.toNat ds).flatten)
  | _, _ => none
def cRep : D → D → Prop
  | .lst ds, .int k => -(2 ^ 63) ≤ k ∧ k < 2 ^ 63 ∧ ds.length * k.toNat ≤ sizeLine
  | _, _ => False
theorem rep_rp {K : PySem.W.Frag} {dr : Option Addr} {G : Hp} {xs : List V} {ds : List D} (h : DI.RpA K dr G xs ds) : ∀ n, DI.RpA K dr G (List.replicate n xs).flatten (List.replicate n ds).flatten
  | 0 => .nil
  | n + 1 => by
    rw [List.replicate_succ, List.replicate_succ, List.flatten_cons, List.flatten_cons]
    exact h.append (rep_rp h n)
theorem pd_rep (ha : PE X a (lift p wa)) (hb : PE X b (lift p wb)) : PE X (.BinOp a .Mult b pos) (lift p (wBin cRep gRep wa wb)) := PE.imp (pe_op op_rep ha hb) (op_lift fun G H x y d1 d2 d Q hs r1 r2 hc hg k1 k2 => by
  cases d1 <;> cases d2 <;> simp only [gRep] at hg <;> cases hg
  rename_i ds kk
  obtain ⟨h1, h2, h3⟩ := hc
  obtain ⟨q, xs, rfl, hq, ra⟩ := r1
  cases rb_int r2
  refine ⟨q, _, xs, rfl, rfl, hq, h1, h2, by rw [ra.length]; exact h3, fun z hz => ?_⟩
  have sm : Same G (L2.upd G z (.lst (List.replicate kk.toNat xs).flatten)) := Same.upd (hs.none hz)
  exact k2 z _ hz (.lst upd_same ((rep_rp ra _).mono sm)))
def enumD (ds : List D) : List D := ds.zipIdx.map fun x => .tup [.int (x.2 : Int), x.1]
theorem enumD_get {ds : List D} {i : Nat} {d : D} (h : (enumD ds)[i]? = some d) : ∃ y, ds[i]? = some y ∧ d = .tup [.int (i : Int), y] := by
  unfold enumD at h
  rw [List.getElem?_map, List.getElem?_zipIdx] at h
  cases q : ds[i]? with
  | none => rw [q] at h; cases h
  | some y =>
    rw [q] at h
    cases h
    exact ⟨y, rfl, by simp⟩
def wiE (w : W) : WI := ⟨fun s P => w.f s fun d s1 => get (lstD d) fun ds => P (enumD ds) s1, fun s P P' h q => w.mono _ _ _ (fun d s1 q => get_mono (fun ds q => h _ _ q) q) q⟩
end
end DI
namespace DI
open PySem PySem.Spec PyProof.Rows L2 EX
variable [Nm]
mutual
def plainX : D → Bool
  | .drw => false
  | .dct _ _ => false
  | .exc _ _ _ => false
  | .lst xs => plainXA xs
  | .tup xs => plainXA xs
  | _ => true
def plainXA : List D → Bool
  | [] => true
  | x :: xs => plainX x && plainXA xs
end
section
variable {X : Cx} {pins : List (Addr × Obj)} {σ : L2.St} {H G : Hp} {s : Shared} {dr : Option Addr}
theorem one_ne (I : L2.Inv X pins σ H s) (hs : Sub G H) (o : One X.K G) {a : Addr} {xs : List V} (h : H a = some (.lst xs)) : a ≠ sysModules := fun e => by
  subst e
  obtain ⟨o, hc, h1 | h1⟩ := o
  · rw [hs _ _ h1] at h
    cases h
  · have z : ObjOk X.prog X.w H s.heap sysModules (.lst xs) := I.hok _ _ h
    obtain ⟨_, its, n, _, g⟩ := z
    have y := I.kIn _ _ h1
    rw [y] at g
    cases g
    exact hc _ _ rfl
theorem paired_nil {α β : Type} {r : α → β → Prop} {ys : List β} (h : Paired r [] ys) : ys = [] := by
  cases h
  rfl
theorem pairs_nil {P : Program} {w : World} {es : List DictEntry} (h : Pairs (mixKind P w) es []) : es = [] := by
  cases h
  rfl
mutual
theorem rd_of (I : L2.Inv X pins σ H s) (hs : Sub G H) : ∀ {v : V} {d : D} {u : Value}, DI.Rp X.K dr G v d → plainX d = true → L2.RelV v u → ∃ as, Reads s.heap u (toPy d) as ∧ (One X.K G → sysModules ∉ as)
  | _, _, _, .non, _, r => by cases r; simp only [toPy]; exact ⟨[], .none, fun _ => List.not_mem_nil⟩
  | _, _, _, .bl b, _, r => by cases r; simp only [toPy]; exact ⟨[], .bool b, fun _ => List.not_mem_nil⟩
  | _, _, _, .int i, _, r => by obtain ⟨t, rfl⟩ := r; simp only [toPy]; exact ⟨[], .int i t, fun _ => List.not_mem_nil⟩
  | _, _, _, .str x, _, r => by obtain ⟨t, rfl⟩ := r; simp only [toPy]; exact ⟨[], .str x t, fun _ => List.not_mem_nil⟩
  | _, _, _, .lst h ha, q, r => by
    cases r
    simp only [toPy]
    have h' := hs _ _ h
    have z : ObjOk X.prog X.w H s.heap _ (.lst _) := I.hok _ _ h'
    obtain ⟨_, its, n, rv, g⟩ := z
    obtain ⟨as, h1, h2⟩ := rdA_of I hs ha (by simpa only [plainX] using q) rv
    exact ⟨_ :: as, .list g rfl rfl (by simpa using h1), fun o => by
      intro m
      cases List.mem_cons.mp m with
      | inl m => exact one_ne I hs o h' m.symm
      | inr m => exact h2 o m⟩
  | _, _, _, .tup h ha, q, r => by
    cases r
    simp only [toPy]
    obtain ⟨its, rv, ⟨o, g, hc, n, hd⟩, _⟩ := I.tuple (Same.tup hs h)
    obtain ⟨as, h1, h2⟩ := rdA_of I hs ha (by simpa only [plainX] using q) rv
    exact ⟨as, .tuple g hc hd (by simpa using h1), h2⟩
  | _, _, _, .drw _ _, q, _ => by simp [plainX] at q
  | _, _, _, .dic0 h o, _, r => by
    cases r
    simp only [toPy]
    have z := I.hok _ _ (hs _ _ h)
    obtain ⟨_, ns, vs, kv, o', es, ep, g, ex, hd, _, pr, _⟩ := L2.dk_of I.hok (hs _ _ h)
    have e1 := paired_nil kv
    subst e1
    have e2 := pairs_nil pr
    refine ⟨_ :: ([] ++ []), .dict g ex.1 hd (by rw [e2]; exact .nil) (by rw [e2]; exact .nil), fun _ => ?_⟩
    intro m
    have m' := List.mem_singleton.mp m
    rw [← m'] at ns
    simp at ns
  | _, _, _, .dct _ _ _, q, _ => by simp [plainX] at q
  | _, _, _, .exc _ _ _ _ _ _ _ _, q, _ => by simp [plainX] at q
theorem rdA_of (I : L2.Inv X pins σ H s) (hs : Sub G H) : ∀ {vs : List V} {ds : List D} {us : List Value}, DI.RpA X.K dr G vs ds → plainXA ds = true → Vals vs us → ∃ as, ReadsAll s.heap us (toPyA ds) as ∧ (One X.K G → sysModules ∉ as)
  | _, _, _, .nil, _, .nil => by simp only [toPyA]; exact ⟨[], .nil, fun _ => List.not_mem_nil⟩
  | _, _, _, .cons r t, q, .cons ru tu => by
    simp only [plainXA, Bool.and_eq_true] at q
    simp only [toPyA]
    obtain ⟨as, h1, h2⟩ := rd_of I hs r q.1 ru
    obtain ⟨bs, h3, h4⟩ := rdA_of I hs t q.2 tu
    exact ⟨as ++ bs, .cons h1 h3, fun o m => (List.mem_append.mp m).elim (h2 o) (h4 o)⟩
end
mutual
theorem one_of {K : PySem.W.Frag} : ∀ {v : V} {d : D}, DI.Rp K dr G v d → plainX d = true → (toPy d).hasDict = true → One K G
  | _, _, .non, _, h => by simp [toPy, PyData.hasDict] at h
  | _, _, .bl b, _, h => by simp [toPy, PyData.hasDict] at h
  | _, _, .int i, _, h => by simp [toPy, PyData.hasDict] at h
  | _, _, .str x, _, h => by simp [toPy, PyData.hasDict] at h
  | _, _, .lst _ ha, q, h => oneA_of ha (by simpa only [plainX] using q) (by simpa only [toPy, PyData.hasDict] using h)
  | _, _, .tup _ ha, q, h => oneA_of ha (by simpa only [plainX] using q) (by simpa only [toPy, PyData.hasDict] using h)
  | _, _, .drw _ _, q, _ => by simp [plainX] at q
  | _, _, .dic0 _ o, _, _ => o
  | _, _, .dct _ _ _, q, _ => by simp [plainX] at q
  | _, _, .exc _ _ _ _ _ _ _ _, q, _ => by simp [plainX] at q
theorem oneA_of {K : PySem.W.Frag} : ∀ {vs : List V} {ds : List D}, DI.RpA K dr G vs ds → plainXA ds = true → PyData.hasDictAll (toPyA ds) = true → One K G
  | _, _, .nil, _, h => by simp [toPyA, PyData.hasDictAll] at h
  | _, _, .cons r t, q, h => by
    simp only [plainXA, Bool.and_eq_true] at q
    simp only [toPyA, PyData.hasDictAll, Bool.or_eq_true] at h
    exact h.elim (one_of r q.1) (oneA_of t q.2)
end
end
section
variable {X : Cx} {p : Pl}
end
end DI
namespace DI
open PySem PySem.Spec PyProof.Rows L2
variable [Nm]
section
variable {P : Program} {w : World} {K : PySem.W.Frag} {mg mb : Str → Option Value} {k : Nat} {fa a : Addr} {fd : FuncData} {x : Str} {sp : Sp} {s₁ : Shared} {vs : List Value} {ns : List Int}
theorem lawG1_core {H : Hp} (KX : K.In s₁.heap) (hns : s₁.heap.Ns mainGlobals mg) (hb : s₁.heap.Ns builtinsNs mb) (hbb : ∀ y : Str, y ≠ Str.ofString "__name__" → mb y = bootBuiltins y) (hlim : s₁.heap.NoLimit) (hg : s₁.gens = #[])
    (hr : Room k callerA) (F : ∀ base : Heap, K.In base → base.Ns mainGlobals mg → FnG P w K mg base k fa fd [x] sp)
    (hbind : ∀ (s : Shared) (u : Value), BindsTo s fd ⟨[u], []⟩ [(x, u)]) (hO : ∀ b, H b = none ∨ ∃ ob u, H b = some (.frz ob u) ∧ s₁.heap.get? b = some ob) (hok : HOk P w H s₁.heap)
    (hA : ∀ b, H b ≠ none → b = sysModules ∨ ∃ o its n, s₁.heap.get? b = some o ∧ o.data = .seq its n) (hK : ∀ b, H b ≠ none → K.lookup b = none)
    (hsp : sp [.ref a] H (fun v _ => v = .bl true) E0) :
    codeAny (model P w) callerA (.call (.ref fa) ⟨[.ref a], []⟩) (fun r s' => r = .ok (.ret (.bool true)) ∧ OldK s₁.heap s'.heap ∧ s'.os = s₁.os ∧ AllBare s'.gens) s₁ := by
  have free : ∀ {b : Addr} {o : Obj}, b ≠ sysModules → s₁.heap.get? b = some o → (∀ its n, o.data ≠ .seq its n) → H b = none := fun {b o} hb1 e d => by
    cases q : H b with
    | none => rfl
    | some u =>
      rcases hA b (by rw [q]; exact fun z => nomatch z) with z | ⟨o', its, n, e', d'⟩
      · exact absurd z hb1
      · rw [e] at e'
        cases e'
        exact absurd d' (d _ _)
  have names : ∀ {b : Addr} {m : Str → Option Value}, b ≠ sysModules → s₁.heap.Ns b m → (hidT s₁.heap H).Ns b m := fun {b m} hb1 ⟨o, es, ep, e, d, r⟩ =>
    ⟨o, es, ep, hidT_get e (free hb1 e fun its n z => by rw [d] at z; cases z), d, r⟩
  have inK : K.In (hidT s₁.heap H) := fun b o e => hidT_get (KX b o e) (by
    cases q : H b with
    | none => rfl
    | some u =>
      have ne : H b ≠ none := by rw [q]; exact fun z => nomatch z
      have z := hK b ne
      have e' : K.lookup b = some o := e
      rw [z] at e'
      cases e')
  have M : L2.Mod K mg (hidT s₁.heap H) := ⟨inK, names (by decide) hns, ⟨mb, names (by decide) hb, hbb⟩, by
    obtain ⟨mc, h1, h2⟩ := hlim
    exact ⟨mc, names (by decide) h1, h2⟩⟩
  have env : Env0 P w K mg (hidT s₁.heap H) callerA [] s₁ H := ⟨rfl, M, fun b o e => of_hidT e, Nat.le_of_eq (hidT_size s₁.heap H), trivial, fun b h => absurd h List.not_mem_nil, hok, AllBare.of_eq hg⟩
  refine codeAny_mono ((F _ inK (names (by decide) hns)).go callerA [] s₁ H ⟨[.ref a], []⟩ [.ref a] [.ref a] _ E0 hr rfl env (hbind s₁ _) (.cons rfl .nil) hsp) fun r s' h => ?_
  cases r with
  | error e => exact (show False from h).elim
  | ok fl =>
    cases fl with
    | next => exact (show False from h).elim
    | brk => exact (show False from h).elim
    | cont => exact (show False from h).elim
    | ret u =>
      obtain ⟨v, H', os, bare, un, hok', rv, q⟩ := h
      subst q
      cases rv
      refine ⟨rfl, OldK.of_keep fun b o e => ?_, os, bare⟩
      rcases hO b with z | ⟨ob, u, z, ge⟩
      · exact un.keep b o e z (fun z => absurd z List.not_mem_nil) List.not_mem_nil
      · have z2 := un.frzs b ob _ z
        have y : ObjOk P w H' s'.heap b (.frz ob u) := hok' b _ z2
        rw [ge] at e
        cases e
        exact y.1
theorem lawG1 (KX : K.In s₁.heap) (hns : s₁.heap.Ns mainGlobals mg) (hb : s₁.heap.Ns builtinsNs mb) (hbb : ∀ y : Str, y ≠ Str.ofString "__name__" → mb y = bootBuiltins y) (hlim : s₁.heap.NoLimit) (hsys : ∃ mm, s₁.heap.Ns sysModules mm) (hg : s₁.gens = #[])
    (ha : s₁.heap.get? a = some { cls := Value.type "list", data := Data.seq vs.toArray }) (hi : IntsAre vs ns) (hl : ns.length ≤ sizeLine) (hr : Room k callerA) (F : ∀ base : Heap, K.In base → base.Ns mainGlobals mg → FnG P w K mg base k fa fd [x] sp)
    (hbind : ∀ (s : Shared) (u : Value), BindsTo s fd ⟨[u], []⟩ [(x, u)]) (hsp : ∀ H, (∀ b, b ≠ sysModules → ∀ o, H b = some o → ∃ ob u, o = .frz ob u) → (∀ b o, H b = some o → ∃ ob u, o = .frz ob u) → SqL K H a (ns.map V.int) → One K H → sp [.ref a] H (fun v _ => v = .bl true) E0) :
    codeAny (model P w) callerA (.call (.ref fa) ⟨[.ref a], []⟩) (fun r s' => r = .ok (.ret (.bool true)) ∧ OldK s₁.heap s'.heap ∧ s'.os = s₁.os ∧ AllBare s'.gens) s₁ := by
  have rv := vals_ints hi
  have hz : vs.length ≤ sizeLine := by rw [← rv.length, List.length_map]; exact hl
  obtain ⟨mm, o1, es, ep, g1, d1, _⟩ := hsys
  have nd : ∀ its n, o1.data ≠ .seq its n := fun its n z => by rw [d1] at z; cases z
  have na : a ≠ sysModules := fun e => by
    subst e
    rw [g1] at ha
    cases ha
    cases d1
  let ya : HO := .frz { cls := Value.type "list", data := Data.seq vs.toArray } (.lst (ns.map V.int))
  let y1 : HO := .frz o1 (.ext fun _ => True)
  let H : Hp := fun b => if b = a then (match K.lookup a with | none => some ya | some _ => none) else if b = sysModules then (match K.lookup sysModules with | none => some y1 | some _ => none) else none
  have Ha : H a = (match K.lookup a with | none => some ya | some _ => none) := if_pos rfl
  have H1 : H sysModules = (match K.lookup sysModules with | none => some y1 | some _ => none) := by
    show (if sysModules = a then _ else _) = _
    rw [if_neg na.symm, if_pos rfl]
  have HN : ∀ b, b ≠ a → b ≠ sysModules → H b = none := fun b h1 h2 => by
    show (if b = a then _ else _) = _
    rw [if_neg h1, if_neg h2]
  have cs : ∀ b o, H b = some o → (b = a ∧ K.lookup a = none ∧ o = ya) ∨ (b = sysModules ∧ K.lookup sysModules = none ∧ o = y1) := fun b o e => by
    by_cases h1 : b = a
    · subst h1
      rw [Ha] at e
      cases q : K.lookup b with
      | none =>
        rw [q] at e
        cases e
        exact .inl ⟨rfl, rfl, rfl⟩
      | some z =>
        rw [q] at e
        cases e
    · by_cases h2 : b = sysModules
      · subst h2
        rw [H1] at e
        cases q : K.lookup sysModules with
        | none =>
          rw [q] at e
          cases e
          exact .inr ⟨rfl, rfl, rfl⟩
        | some z =>
          rw [q] at e
          cases e
      · rw [HN b h1 h2] at e
        cases e
  refine lawG1_core (H := H) KX hns hb hbb hlim hg hr F hbind (fun b => ?_) (fun b o z => ?_) (fun b z => ?_) (fun b z => ?_) (hsp H (fun b _ o e => ?_) (fun b o e => ?_) ?_ ?_)
  · cases q : H b with
    | none => exact .inl rfl
    | some o =>
      rcases cs b o q with ⟨rfl, _, rfl⟩ | ⟨rfl, _, rfl⟩
      · exact .inr ⟨_, _, rfl, ha⟩
      · exact .inr ⟨_, _, rfl, g1⟩
  · rcases cs b o z with ⟨rfl, _, rfl⟩ | ⟨rfl, _, rfl⟩
    · exact ⟨ha, by rw [List.length_map]; exact hl, vs, 0, rv, ha⟩
    · exact ⟨g1, trivial, ⟨_, g1⟩, fun _ _ _ _ => trivial⟩
  · cases q : H b with
    | none => exact absurd q z
    | some o =>
      rcases cs b o q with ⟨rfl, _, rfl⟩ | ⟨rfl, _, rfl⟩
      · exact .inr ⟨_, _, _, ha, rfl⟩
      · exact .inl rfl
  · cases q : H b with
    | none => exact absurd q z
    | some o =>
      rcases cs b o q with ⟨rfl, h, rfl⟩ | ⟨rfl, h, rfl⟩
      · exact h
      · exact h
  · rcases cs b o e with ⟨rfl, h, rfl⟩ | ⟨rfl, h, rfl⟩
    · exact ⟨_, _, rfl⟩
    · exact ⟨_, _, rfl⟩
  · rcases cs b o e with ⟨rfl, h, rfl⟩ | ⟨rfl, h, rfl⟩
    · exact ⟨_, _, rfl⟩
    · exact ⟨_, _, rfl⟩
  · cases q : K.lookup a with
    | none => exact .inl (.inr ⟨{ cls := Value.type "list", data := Data.seq vs.toArray }, by rw [Ha, q]⟩)
    | some o =>
      have eo := (KX a o q).symm.trans ha
      cases eo
      exact .inr ⟨_, vs.toArray, _, q, rfl, rfl, rfl, by simpa using hz, by simpa using rv⟩
  · cases q : K.lookup sysModules with
    | none => exact ⟨o1, nd, .inl (by rw [H1, q])⟩
    | some o =>
      have eo := (KX sysModules o q).symm.trans g1
      cases eo
      exact ⟨_, nd, .inr q⟩
theorem walkG1 {l : PySem.W.OpenLaw} {n k : Nat} {q : Program} {loose : List Str} {XP : (Str → Option Value) → Heap → Prop} {YP : World → Heap → Prop} {d : DefRec} {K : Params → PySem.W.Frag} {sp : World → Sp} {x : Str} (hn : l.most = some n) (hn2 : n ≤ sizeLine) (hdf : d.params.defaults = []) (hq : PyProof.Rows.importsNone q = true) (hr : Room k callerA)
    (hY : ∀ (w : World) (h : Heap), YP w h → (K w.params).In h)
    (F : ∀ (w : World) (mg : Str → Option Value) (fa : Addr) (h : Heap), (K w.params).In h → h.Ns mainGlobals mg → mg d.name = some (.ref fa) →
      ∃ fd : FuncData, (∀ (s : Shared) (u : Value), BindsTo s fd ⟨[u], []⟩ [(x, u)]) ∧ ∀ base : Heap, (K w.params).In base → base.Ns mainGlobals mg → FnG l.prog w (K w.params) mg base k fa fd [x] (sp w))
    (hsp : ∀ (w : World) (H : Hp) (a : Addr) (ns : List Int), ns.length ≤ n → (∀ b o, H b = some o → ∃ ob u, o = .frz ob u) → SqL (K w.params) H a (ns.map V.int) → One (K w.params) H → sp w [.ref a] H (fun v _ => v = .bl true) E0) :
    PySem.W.WalkO q loose XP YP l.row.toRowW d [] (fun f vs => PySem.call f vs) :=
  Att.attach_call hn hdf fun w s₀ s₁ mg mb fa o pm cd doc a vs ns G Y ho hd hcd hmg hobj hints hlen hg => by
    obtain ⟨fd, h1, h2⟩ := F w mg fa s₁.heap (hY w s₁.heap Y) G.T.g hmg
    have sr := G.T.seer hq
    exact lawG1 (hY w s₁.heap Y) G.T.g G.T.b G.T.builtins G.T.nolimit (by obtain ⟨mm, h, _⟩ := sr.mods; exact ⟨mm, h⟩) hg hobj hints (Nat.le_trans hlen hn2) hr h2 h1 fun H _ hO hS ho => hsp w H a ns hlen hO hS ho
end
end DI
namespace EX
open PySem PySem.W PySem.Calls PyProof.Rows
section
variable {prog : Program} {w : World} {A : Around} {s : Shared} {it t : Addr} {i : Nat} {items : Array Value} {x : Value}
theorem tupIter_at {h h' : Heap} (hit : h.IsTupleIter it t i) (k : ∀ o, h.get? it = some o → h'.get? it = some o) : h'.IsTupleIter it t i := by
  obtain ⟨o, ho, hc, hd⟩ := hit
  exact ⟨o, k o ho, hc, hd⟩
theorem tup_at {h h' : Heap} (ht : h.IsTuple t items) (k : ∀ o, h.get? t = some o → h'.get? t = some o) : h'.IsTuple t items := by
  obtain ⟨o, ho, hc, hd⟩ := ht
  exact ⟨o, k o ho, hc, hd⟩
theorem nextOf_tuple_item {E : Value → Shared → Prop} {Q : Value → Shared → Prop} (hit : s.heap.IsTupleIter it t i) (ht : s.heap.IsTuple t items) (hx : items[i]? = some x)
    (hQ : ∀ h' : Heap, h'.IsTupleIter it t (i + 1) → Heap.SameBut it s.heap h' → Q x { heap := h', gens := s.gens, drawn := s.drawn, toks := s.toks, os := s.os }) :
    wpAny (model prog w) A (Builtin.SmallTypes.nextOf (.ref it)) Q E s := by
  obtain ⟨o, ho, hc, hd⟩ := id hit
  obtain ⟨ol, hol, _, nl, hdl⟩ := ht
  refine PySem.wpAny_bind ?_
  refine wpAny_callSpecial?_slot (Heap.IsTupleIter.typeIs hit) F.slot_tuple_iterator_next (wpAny_call_entry F.slot_tuple_iterator_next (Heap.IsTupleIter.typeIs hit) F.entry_tuple_iterator_next ?_ (F.args_tuple_iterator_next_1 (.ref it)))
  refine PySem.wpAny_bind ?_
  refine PySem.wpAny_pure ?_
  refine PySem.wpAny_bind (wpAny_field ho hd rfl ?_)
  refine PySem.wpAny_ite_false (by rfl) ?_
  refine PySem.wpAny_bind (wpAny_field ho hd rfl ?_)
  refine PySem.wpAny_bind (wpAny_seqItems hol hdl ?_)
  have hx' : items[((i : Nat) : Int).toNat]? = some x := hx
  dsimp only
  rw [hx']
  refine PySem.wpAny_bind (wpAny_setField ho hd (by simp) ?_)
  refine PySem.wpAny_pure ⟨x, rfl, PySem.wpAny_pure (hQ _ ⟨_, Heap.get?_update_self _ ho (Obj.isFreed_of_fields (Obj.data_mapFields hd _)), (Obj.cls_mapFields o _).trans hc, ?_⟩ (Heap.SameBut.update s.heap it _))⟩
  rw [Obj.data_mapFields hd]
  simp
  rfl
theorem nextOf_tuple_end {E : Value → Shared → Prop} {Q : Value → Shared → Prop} (hh : A.handled = none) (hit : s.heap.IsTupleIter it t i) (ht : s.heap.IsTuple t items) (hx : items[i]? = none)
    (hE : ∀ (h' : Heap) (e : Addr), Heap.ExtBut it s.heap h' → (∃ o, h'.get? e = some o ∧ o.cls = .type "StopIteration") → E (.ref e) { heap := h', gens := s.gens, drawn := s.drawn, toks := s.toks, os := s.os }) :
    wpAny (model prog w) A (Builtin.SmallTypes.nextOf (.ref it)) Q E s := by
  obtain ⟨o, ho, hc, hd⟩ := id hit
  obtain ⟨ol, hol, _, nl, hdl⟩ := ht
  refine PySem.wpAny_bind ?_
  refine wpAny_callSpecial?_slot (Heap.IsTupleIter.typeIs hit) F.slot_tuple_iterator_next (wpAny_call_entry F.slot_tuple_iterator_next (Heap.IsTupleIter.typeIs hit) F.entry_tuple_iterator_next ?_ (F.args_tuple_iterator_next_1 (.ref it)))
  refine PySem.wpAny_bind ?_
  refine PySem.wpAny_pure ?_
  refine PySem.wpAny_bind (wpAny_field ho hd rfl ?_)
  refine PySem.wpAny_ite_false (by rfl) ?_
  refine PySem.wpAny_bind (wpAny_field ho hd rfl ?_)
  refine PySem.wpAny_bind (wpAny_seqItems hol hdl ?_)
  have hx' : items[((i : Nat) : Int).toNat]? = none := hx
  dsimp only
  rw [hx']
  refine PySem.wpAny_bind (PySem.wpAny_rule ?_)
  refine PySem.wpAny_bind (wpAny_setField ho hd (by simp) ?_)
  unfold Builtin.SmallTypes.stopIteration
  refine PySem.wpAny_bind ?_
  unfold PySem.newExc
  refine PySem.wpAny_bind ?_
  refine wpAny_newObj_type ?_
  refine PySem.wpAny_bind (wpAny_of_eq rfl ?_)
  refine wpAny_newObj_type ?_
  unfold PySem.raiseNew
  refine PySem.wpAny_bind (PySem.wpAny_handled ?_)
  have hh' : A.in1.handled = none := hh
  rw [hh']
  dsimp only
  refine PySem.wpAny_throw ?_
  refine hE _ _ ?_ ⟨_, Heap.get?_push_size _ rfl, rfl⟩
  · have z := (Heap.SameBut.update s.heap it (Obj.mapFields fun x => x.setIfInBounds 0 Value.none)).extBut
    exact (z.push _).push _
theorem draws_tuple (hh : A.handled = none) (it t : Addr) (ne : t ≠ it) (items : Array Value) : Draws prog w A it [it, t] items.size (fun i v => items[i]? = some v) fun i h => h.IsTupleIter it t i ∧ h.IsTuple t items where
  live := fun i h st => by
    obtain ⟨⟨o, ho, _⟩, _⟩ := st
    exact ⟨o, ho⟩
  frame := fun i h h' st k => ⟨tupIter_at st.1 (k it (by simp)), tup_at st.2 (k t (by simp))⟩
  item := fun i s Q E hi st hQ => nextOf_tuple_item st.1 st.2 (getElem?_pos items i hi) fun h' hit' hs' => hQ items[i] h' s.toks (getElem?_pos items i hi) ⟨hit', st.2.extBut hs'.extBut ne⟩ hs'
  done := fun s Q E st hE => nextOf_tuple_end hh st.1 st.2 (by simp) hE
theorem draws_end (hh : A.handled = none) (it t : Addr) (items : Array Value) (n : Nat) (hn : items[n]? = none) : Draws prog w A it [it, t] n (fun _ _ => True) fun i h => h.IsTupleIter it t i ∧ h.IsTuple t items ∧ i = n where
  live := fun i h st => by
    obtain ⟨⟨o, ho, _⟩, _⟩ := st
    exact ⟨o, ho⟩
  frame := fun i h h' st k => ⟨tupIter_at st.1 (k it (by simp)), tup_at st.2.1 (k t (by simp)), st.2.2⟩
  item := fun i s Q E hi st hQ => absurd st.2.2 (Nat.ne_of_lt hi)
  done := fun s Q E st hE => nextOf_tuple_end hh st.1 st.2.1 hn hE
theorem meets_enumT (t : Addr) (items : Array Value) : Meets (Builtin.«enumerate.__new__» { pos := [.type "enumerate", .ref t] }) fun A R s =>
    s.heap.IsTuple t items ∧ R (.ok (.ret (.ref (s.heap.push { cls := .type "tuple_iterator", data := .fields #[.ref t, .int 0 0] }).objs.size)))
      { heap := (s.heap.push { cls := .type "tuple_iterator", data := .fields #[.ref t, .int 0 0] }).push { cls := .type "enumerate", data := .fields #[.none, .bool false, .ref s.heap.objs.size, rawInt 0, .none, .none] }, gens := s.gens, drawn := s.drawn, toks := s.toks, os := s.os } :=
  Meets.of_wp fun prog w A R s h => by
    obtain ⟨hp, g, d, tk, os⟩ := s
    obtain ⟨ht, h⟩ := h
    have hsub := sub_enumerate
    refine PySem.wpAny_bind ?_
    refine PySem.wpAny_bind ?_
    refine PySem.wpAny_pure ?_
    refine PySem.wpAny_ite_false (by rfl) ?_
    refine PySem.wpAny_bind ?_
    refine wpAny_of_eq hsub ?_
    refine PySem.wpAny_ite_false (by rfl) ?_
    refine PySem.wpAny_pure ?_
    refine PySem.wpAny_ite_true (by rfl) ?_
    refine PySem.wpAny_bind ?_
    refine PySem.wpAny_bind ?_
    refine wpAny_stack_any fun st => ?_
    refine PySem.wpAny_pure ?_
    have last : ∀ R' : PySem.Fin → Shared → Prop, R' (.done (.ret (.ref (hp.push { cls := .type "tuple_iterator", data := .fields #[.ref t, .int 0 0] }).objs.size))) { heap := (hp.push { cls := .type "tuple_iterator", data := .fields #[.ref t, .int 0 0] }).push { cls := .type "enumerate", data := .fields #[.none, .bool false, .ref hp.objs.size, rawInt 0, .none, .none] }, gens := g, drawn := d, toks := tk, os := os } →
        wpAny (model prog w) A.in1 (do
          let __do_lift ← pyIter (.ref t)
          let __do_lift ← Builtin.SmallTypes.newRecord (.type "enumerate") (Builtin.SmallTypes.ownedTupleFields ++ [__do_lift, rawInt 0, .none, .none])
          ret __do_lift) R' (fun e s' => R (.error e) s') { heap := hp, gens := g, drawn := d, toks := tk, os := os } := fun R' hR => by
      refine PySem.wpAny_bind (wpAny_pyIter_tuple ht ?_)
      refine PySem.wpAny_bind ?_
      unfold Builtin.SmallTypes.newRecord
      dsimp only
      refine wpAny_newObj_type (hd := by unfold sizeOk; first | (show (6 : Nat) ≤ _; rw [sizeLine_eq]; decide) | (simp [Builtin.SmallTypes.ownedTupleFields, sizeLine_eq])) ?_
      exact PySem.wpAny_pure hR
    split
    · rename_i c tail kw snd tl heq
      cases (c == Value.type "enumerate") with
      | true => exact last _ ⟨_, rfl, h⟩
      | false => exact last _ ⟨_, rfl, h⟩
    · exact last _ ⟨_, rfl, h⟩
theorem call_enumT {E : Value → Shared → Prop} {Q : Value → Shared → Prop} (ht : s.heap.IsTuple t items)
    (h : ∀ h' : Heap, IsEnum h' (s.heap.objs.size + 1) s.heap.objs.size 0 .none → h'.IsTupleIter s.heap.objs.size t 0 → h'.objs.size = s.heap.objs.size + 2 → (∀ b o, s.heap.get? b = some o → h'.get? b = some o) → Q (.ref (s.heap.objs.size + 1)) { heap := h', gens := s.gens, drawn := s.drawn, toks := s.toks, os := s.os }) :
    wpAny (model prog w) A (call (.type "enumerate") [.ref t]) Q E s := by
  refine callType_new F.called_enumerate (by decide) (F.typeCall_enumerate_1 (.ref t)) (F.newCall_enumerate_1 (.ref t)) (fun obj => F.args_object_init_2 obj (.ref t)) F.entry_enumerate_new (meets_enumT t items) ⟨ht, ?_⟩
  have hz := Heap.size_push s.heap { cls := .type "tuple_iterator", data := .fields #[.ref t, .int 0 0] }
  have he := Heap.get?_push_size (s.heap.push { cls := .type "tuple_iterator", data := .fields #[.ref t, .int 0 0] }) (o := { cls := .type "enumerate", data := .fields #[.none, .bool false, .ref s.heap.objs.size, rawInt 0, .none, .none] }) rfl
  show (Shared.TypeIs _ (.ref _) "enumerate" ∧ Q (.ref _) _)
  rw [hz] at he ⊢
  exact ⟨⟨_, he, rfl⟩, h _ he ⟨_, Heap.get?_push_of_some _ (Heap.get?_push_size s.heap rfl), rfl, rfl⟩ (by rw [Heap.size_push, hz]) fun b o x => Heap.get?_push_of_some _ (Heap.get?_push_of_some _ x)⟩
end
end EX
namespace L2
open PySem PySem.Spec PyProof.Rows EX
/-- enumerate over a tuple -/
def IteT (K : PySem.W.Frag) (a : Addr) : It where
  go := fun i H => ∃ xs x, SqT K H a xs ∧ xs[i]? = some x
  yld := fun i H v H' => ∃ T x, v = .ref T ∧ H T = none ∧ H' = upd H T (.tup [.int (i : Int), x]) ∧ ∀ xs, SqT K H a xs → xs[i]? = some x
  stop := fun i H => ∃ xs, SqT K H a xs ∧ xs.length ≤ i
theorem turn_enumT {P : Program} {w : World} {K : PySem.W.Frag} {elts : List Expr} {kk : Nat} {tpos : Pos} (a e it : Addr) : Turn P w K (.Tuple elts kk tpos) (IteT K a) [e, it] e fun i h => (∃ old, IsEnum h e it (i : Int) old) ∧ h.IsTupleIter it a i ∧ e ≠ it where
  mem := by simp
  obj := fun i h st b hb => by
    obtain ⟨⟨old, he⟩, ⟨o, ho, hc, hd⟩, _⟩ := st
    have hb' : b = e ∨ b = it := by simpa using hb
    rcases hb' with rfl | rfl
    · exact ⟨_, he, fun v q => nomatch q⟩
    · exact ⟨o, ho, fun v q => by rw [hd] at q; cases q⟩
  keep := fun i h h' st k => by
    obtain ⟨⟨old, he⟩, hit, ne⟩ := st
    exact ⟨⟨old, k e (by simp) _ he⟩, tupIter_at hit (k it (by simp)), ne⟩
  item := fun X hP hw hK hc i pins s σ H E I hf st hg => by
    subst hP hw hK
    obtain ⟨⟨old, he⟩, hit, hne⟩ := st
    obtain ⟨xs, x, hq, hx⟩ := hg
    obtain ⟨its, rv, p, hz⟩ := I.tuple hq
    obtain ⟨u, hu, ru⟩ := Vals.get rv hx
    have hel := Heap.lt_size he
    have hil : it < s.heap.objs.size := by
      obtain ⟨w, q, _⟩ := hit
      exact Heap.lt_size q
    have hu' : its.toArray[i]? = some u := by simpa using hu
    have hlt : i < its.toArray.size := (Array.getElem?_eq_some_iff.mp hu').1
    have nt : a ≠ it := fun z => by
      subst z
      obtain ⟨o1, g1, c1, _⟩ := p
      obtain ⟨o2, g2, c2, _⟩ := hit
      rw [g1] at g2
      cases g2
      rw [c1] at c2
      injection c2 with c2
      exact absurd c2 (by decide)
    have nae : e ≠ a := fun z => by
      subst z
      obtain ⟨o1, g1, c1, _⟩ := p
      rw [he] at g1
      cases g1
      have c3 : Value.type "enumerate" = Value.type "tuple" := c1
      injection c3 with c3
      exact absurd c3 (by decide)
    refine wpAny_pyNext_enum_itemD (draws_tuple (by exact I.ok.hd hc) it a nt its.toArray) he ⟨hit, p⟩ hlt hne (by simp [hne, nae]) fun x' h' tk hP ho hst hT hsz hk => ?_
    have ex : x' = u := by
      have z := hP.symm.trans hu'
      cases z
      rfl
    subst ex
    refine ⟨.ref s.heap.objs.size, rfl, wpAny_letOwnedTupleGo_enum ho fun h'' he' sb => ?_⟩
    have hT2 := (sb.2 s.heap.objs.size (Nat.ne_of_gt hel)).trans hT
    have new : ObjOk X.prog X.w (upd H s.heap.objs.size (.tup [.int (i : Int), x])) h'' s.heap.objs.size (.tup [.int (i : Int), x]) := ⟨(by show 2 ≤ sizeLine; decide), [.int (i : Int) tk, x'], .cons ⟨tk, rfl⟩ (.cons ru .nil), _, hT2, rfl, 0, rfl⟩
    have I1 := I.turnedNew (t' := tk + 1) (h' := h'') (ch := [e, it]) (fun b ob hb q => by
      have h1 : b ≠ e := fun z => hb (by simp [z])
      have h2 : b ≠ it := fun z => hb (by simp [z])
      exact (sb.2 b h1).trans (hk b ob h1 h2 q)) hf (Nat.le_refl _) new
    refine ⟨.ref s.heap.objs.size, upd H s.heap.objs.size (.tup [.int (i : Int), x]), I1, rfl, ⟨s.heap.objs.size, x, rfl, I.hok.fresh (Nat.le_refl _), rfl, fun ys hy => by rw [I.tuple_inj hy hq]; exact hx⟩, ⟨⟨x', ?_⟩, tupIter_at hst.1 fun o q => (sb.2 it (Ne.symm hne)).trans q, hne⟩, fun b hb => ?_⟩
    · have e1 : ((i + 1 : Nat) : Int) = (i : Int) + 1 := by omega
      rw [e1]
      exact he'
    · have hb' : b < s.heap.objs.size := by
        have z : b = e ∨ b = it := by simpa using hb
        rcases z with rfl | rfl
        · exact hel
        · exact hil
      rw [upd_ne (Nat.ne_of_lt hb')]
      exact (hf b hb).1
  done := fun X hP hw hK hc i pins s σ H E I hf st hg => by
    subst hP hw hK
    obtain ⟨⟨old, he⟩, hit, hne⟩ := st
    obtain ⟨xs, hq, hx⟩ := hg
    obtain ⟨its, rv, p, hz⟩ := I.tuple hq
    obtain ⟨f0, f1, f2, f3, f4, f5⟩ := hf it (by simp)
    have hl := rv.length
    have nt : a ≠ it := fun z => by
      subst z
      obtain ⟨o1, g1, c1, _⟩ := p
      obtain ⟨o2, g2, c2, _⟩ := hit
      rw [g1] at g2
      cases g2
      rw [c1] at c2
      injection c2 with c2
      exact absurd c2 (by decide)
    have hn : its.toArray[i]? = none := by
      have z : its.length ≤ i := by rw [← hl]; exact hx
      simpa using z
    exact wpAny_pyNext_enum_endD (draws_end (by exact I.ok.hd hc) it a its.toArray i hn) he ⟨hit, p, rfl⟩ fun h' eb => ⟨rfl, I.turned (fun b o hb q => eb b o hb q) f0 f1 f3 f4 f5⟩
  self := fun A i s Q E st h => by
    obtain ⟨⟨old, he⟩, _⟩ := st
    exact wpAny_pyIter_enum he h
def iEnumT (K : PySem.W.Frag) (ta : TA) : TI := fun σ H R => ta σ H fun vs H1 => ∃ a xs, vs = [.ref a] ∧ SqT K H1 a xs ∧ R (IteT K a) H1
theorem pi_enumT {X : Cx} {e : Expr} {ta : TA} {p pos tpos : Pos} {elts : List Expr} {kk : Nat} (hg : Gl X "enumerate") (hm : X.mg "enumerate" = none) (ha : PA X [e] ta) (hs : starEach [e] X.env = [(false, eval e X.env)] := by rfl) :
    PI X (.Tuple elts kk tpos) (.Call (.Name "enumerate" p) [e] [] pos) (iEnumT X.K ta) := by
  refine ⟨fun pins s σ H R I h => PyProof.Rows.Call_ (ld_blt I hg hm PyProof.Rows.boot_enumerate (PyProof.Rows.callWith_type1 (thn (ha.run pos pins s σ H _ I h) fun us s1 x => ?_) hs rfl) (by decide) (by decide)) rfl⟩
  obtain ⟨vs, H1, I1, r1, a, xs, rfl, hq, q⟩ := x
  obtain ⟨u, rfl, rv⟩ := vals1 r1
  obtain rfl : u = Value.ref a := rv
  obtain ⟨its, rv, p', hz⟩ := I1.tuple hq
  refine call_enumT p' fun h' he hit hsz hk => wpAny_pyIter_enum he ?_
  have I2 := I1.kept (t' := s1.toks) hk
  refine ⟨s1.heap.objs.size + 1, [s1.heap.objs.size + 1, s1.heap.objs.size], _, IteT X.K a, H1, rfl, I2, turn_enumT a (s1.heap.objs.size + 1) s1.heap.objs.size, ⟨⟨.none, he⟩, hit, Nat.succ_ne_self _⟩, fun b hb => ?_, q⟩
  have e' : b = s1.heap.objs.size + 1 ∨ b = s1.heap.objs.size := by simpa using hb
  have hle : s1.heap.objs.size ≤ b := by
    rcases e' with z | z
    · rw [z]
      exact Nat.le_succ _
    · rw [z]
      exact Nat.le_refl _
  exact I1.fpOk hle (I1.hok.fresh hle)
end L2
namespace DI
open PySem PySem.Spec PyProof.Rows L2 EX
variable [Nm]
section
variable {X : Cx} {p : Pl} {e : Expr} {pf pt pos : Pos} {w : W}
theorem src_enumT {q : Addr} {xs : List V} {ds : List D} {G : Hp} (hK : p.K = X.K) (h : SqT p.K G q xs) (k : p.RpA G xs ds) : Src p (IteT X.K q) (enumD ds) G := fun i H' G' e hs => by
  have h' : SqT X.K H' q xs := hK ▸ Same.tup hs (Same.tup e h)
  refine ⟨fun d hd => ?_, fun hi => ⟨xs, h', by rw [k.length]; simpa [enumD] using hi⟩⟩
  obtain ⟨y, hy, rfl⟩ := enumD_get hd
  obtain ⟨x, hx, rx⟩ := k.get hy
  refine ⟨⟨xs, x, h', hx⟩, fun v H'' ⟨T, x', e1, e2, e3, e4⟩ => .inr ⟨T, _, e2, e3, e1, ?_⟩⟩
  have e5 := e4 xs h'
  rw [hx] at e5
  cases e5
  subst e1
  have sm : Same G' (L2.upd G' T (.tup [.int (i : Int), x])) := Same.upd (hs.none e2)
  exact .tup (.inl (.inl upd_same)) (.cons (.int _) (.cons ((rx.mono e).mono sm) .nil))
def wiET (w : W) : WI := ⟨fun s P => w.f s fun d s1 => get (tupD d) fun ds => P (enumD ds) s1, fun s P P' h q => w.mono _ _ _ (fun d s1 q => get_mono (fun ds q => h _ _ q) q) q⟩
theorem id_enumT {elts : List Expr} {kk : Nat} {tpos : Pos} (h : PE X e (lift p w)) (hm : X.mg "enumerate" = none) (hK : p.K = X.K := by rfl) (hg : Gl X "enumerate" := by rfl) (hs : starEach [e] X.env = [(false, eval e X.env)] := by rfl) :
    PI X (.Tuple elts kk tpos) (.Call (.Name "enumerate" pf) [e] [] pos) (liftI p (wiET w)) :=
  PI.imp (pi_enumT hg hm (pa_cons h pa_nil (by rw [hs]; rfl)) hs) fun σ H Rr ⟨G, s, R, k⟩ => ⟨G, s, R, w.mono _ _ _ (fun d s1 k1 x H1 G1 e1 R1 r1 => by
    obtain ⟨ds, ed, k2⟩ := get_of k1
    cases d <;> cases ed
    cases r1 with
    | tup h k => exact ⟨_, _, rfl, hK ▸ Same.tup R1.sub h, k2 _ H1 G1 e1 R1 (src_enumT hK h k)⟩) k⟩
end
end DI
namespace DI
open PySem PySem.Spec PyProof.Rows L2 EX
variable [Nm]
section
variable {X : Cx} {p : Pl} {a b e e2 : Expr} {es : List Expr} {pf pt pos : Pos} {w wa wb : W}
/-! zip of two lists -/
def zipD (ds es : List D) : List D := List.zipWith (fun d e => .tup [d, e]) ds es
theorem zipD_get {ds es : List D} {i : Nat} {d : D} (h : (zipD ds es)[i]? = some d) : ∃ y z, ds[i]? = some y ∧ es[i]? = some z ∧ d = .tup [y, z] := by
  unfold zipD at h
  rw [List.getElem?_zipWith] at h
  cases q : ds[i]? with
  | none => rw [q] at h; simp at h
  | some y =>
    cases q2 : es[i]? with
    | none => rw [q, q2] at h; simp at h
    | some z =>
      rw [q, q2] at h
      simp at h
      exact ⟨y, z, rfl, rfl, h.symm⟩
theorem src_zip {q1 q2 : Addr} {xs ys : List V} {ds es : List D} {G : Hp} (h1 : G q1 = some (.lst xs)) (k1 : p.RpA G xs ds) (h2 : G q2 = some (.lst ys)) (k2 : p.RpA G ys es) : Src p (Itz X.K q1 q2) (zipD ds es) G := fun i H' G' e hs => by
  have h1' : H' q1 = some (.lst xs) := hs _ _ (e _ _ h1)
  have h2' : H' q2 = some (.lst ys) := hs _ _ (e _ _ h2)
  refine ⟨fun d hd => ?_, fun hi => ⟨xs, ys, SqL.of h1', SqL.of h2', by rw [k1.length, k2.length]; simp [zipD] at hi; omega⟩⟩
  obtain ⟨y, z, hy, hz, rfl⟩ := zipD_get hd
  obtain ⟨x, hx, rx⟩ := k1.get hy
  obtain ⟨x2, hx2, rx2⟩ := k2.get hz
  refine ⟨⟨xs, ys, x, x2, SqL.of h1', SqL.of h2', hx, hx2⟩, fun v H'' ⟨T, u1, u2, e1, e2, e3, e4, e5⟩ => .inr ⟨T, _, e2, e3, e1, ?_⟩⟩
  have e6 := e4 xs (SqL.of h1')
  have e7 := e5 ys (SqL.of h2')
  rw [hx] at e6
  rw [hx2] at e7
  cases e6
  cases e7
  subst e1
  have sm : Same G' (L2.upd G' T (.tup [x, x2])) := Same.upd (hs.none e2)
  exact .tup (.inl (.inl upd_same)) (.cons ((rx.mono e).mono sm) (.cons ((rx2.mono e).mono sm) .nil))
def wiZ (wa wb : W) : WI := ⟨fun s P => wa.f s fun d1 s1 => wb.f s1 fun d2 s2 => get (lstD d1) fun ds => get (lstD d2) fun es => P (zipD ds es) s2,
  fun s P P' h q => wa.mono _ _ _ (fun d1 s1 q => wb.mono _ _ _ (fun d2 s2 q => get_mono (fun ds q => get_mono (fun es q => h _ _ q) q) q) q) q⟩
theorem id_zip {elts : List Expr} {kk : Nat} {tpos : Pos} (h : PE X e (lift p wa)) (h2 : PE X e2 (lift p wb)) (hm : X.mg "zip" = none) (hg : Gl X "zip" := by rfl) (hs : starEach [e, e2] X.env = (false, eval e X.env) :: starEach [e2] X.env := by rfl) (hs2 : starEach [e2] X.env = (false, eval e2 X.env) :: starEach [] X.env := by rfl)
    (hpl : (backTo pos (starEach [e2] X.env)).any (·.1) = false := by rfl) :
    PI X (.Tuple elts kk tpos) (.Call (.Name "zip" pf) [e, e2] [] pos) (liftI p (wiZ wa wb)) :=
  PI.imp (pi_zip hg hm (pa_cons h (pa_cons h2 pa_nil hs2) hs) hs hpl) fun σ H Rr ⟨G, s, R, k⟩ => ⟨G, s, R, wa.mono _ _ _ (fun d1 s1 k1 x H1 G1 e1 R1 r1 => ⟨G1, s1, R1, wb.mono _ _ _ (fun d2 s2 k2 y H2 G2 e2 R2 r2 => by
    obtain ⟨ds, ed, k3⟩ := get_of k2
    obtain ⟨es, ed2, k4⟩ := get_of k3
    cases d1 <;> cases ed
    cases d2 <;> cases ed2
    cases r1 with
    | lst h ha =>
      cases r2 with
      | lst h' hb => exact ⟨_, _, _, _, rfl, SqL.of (R2.sub _ _ (e2 _ _ h)), SqL.of (R2.sub _ _ h'), k4 _ H2 G2 (e1.trans e2) R2 (src_zip (e2 _ _ h) (ha.mono e2) h' hb)⟩) k1⟩) k⟩
/-! list(x) for a list of its own -/
def wCopy (w : W) : WA := ⟨fun s P => w.f s fun d s1 => get (lstD d) fun ds => P ds s1, fun s P P' h q => w.mono _ _ _ (fun d s1 q => get_mono (fun ds q => h _ _ q) q) q⟩
/-! x[k] = e, x a list of its own -/
def wPut (i : Nat) (wi wv : W) : WS := ⟨fun E s => wv.f s fun d s1 => get (ownE s1.env i) fun _ => wi.f s1 fun k s2 => get (intD0 k) fun k => get (ownE s2.env i) fun ds => get (ixN ds.length k) fun j => E.nx { s2 with env := s2.env.set i (.own (ds.set j d)) },
  fun E E' s h q => wv.mono _ _ _ (fun d s1 q => get_mono (fun _ q => wi.mono _ _ _ (fun k s2 q => get_mono (fun k q => get_mono (fun ds q => get_mono (fun j q => h.nx _ q) q) q) q) q) q) q⟩
where intD0 : D → Option Int
  | .int i => some i
  | _ => none
theorem sd_put (i : Nat) {x : Str} {p1 pp : Pos} {wi wv : W} (hv : PE X (.Name x p1) (tVar i)) (hi : PE X b (lift p wi)) (he : PE X e (lift p wv)) 
    (ha : ∀ v : Value, assign (.Subscript (.Name x p1) b pp) X.env v = (do let ov ← holding [v] (eval (.Name x p1) X.env); let iv ← holding [v, ov] (eval b X.env); standAt pp; holding [v, ov, iv] (setItem ov iv v); release [v, ov, iv] []) := by intro _; rfl)
    (hs : swapsWithSole [.Subscript (.Name x p1) b pp] e pos.line X.env = pure false := by rfl) (hw : swappedStores [.Subscript (.Name x p1) b pp] e X.env = pure none := by rfl)
    (h1 : (assignEach [.Subscript (.Name x p1) b pp] X.env).map (·.2) = [assign (.Subscript (.Name x p1) b pp) X.env] := by rfl) :
    PS X (.Assign [.Subscript (.Name x p1) b pp] e pos) (liftS p (wPut i wi wv)) :=
  PS.imp (ps_asg he (pg_sub hv hi set_list ha) hs hw h1) fun D σ H ⟨G, s, E, R, k, q⟩ => ⟨G, s, R, wv.mono _ _ _ (fun d s1 k1 v H1 G1 e1 R1 r1 => by
    obtain ⟨ds0, e0, k2⟩ := get_of k1
    obtain ⟨l, xs0, el, hl, _⟩ := R1.slot i _ (ownE_of e0)
    refine ⟨.ref l, el, G1, s1, R1, wi.mono _ _ _ (fun kk s2 k3 y H2 G2 e2 R2 r2 => ?_) k2⟩
    obtain ⟨kz, ek, k4⟩ := get_of k3
    obtain ⟨ds, e3, k5⟩ := get_of k4
    obtain ⟨j, ej, k6⟩ := get_of k5
    cases kk <;> cases ek
    obtain ⟨l', xs, el', hl', g1, _, _, ra⟩ := R2.slot i _ (ownE_of e3)
    rw [el] at el'
    cases el'
    cases r2
    exact ⟨l, xs, kz, j, rfl, rfl, hl', by rw [ra.length]; exact ej, q.nx σ _ G2 _ (e1.trans e2) (R2.write (ownE_of e3) el (ra.set (r1.mono e2) j)) k6⟩) k⟩
end
end DI
namespace L2
open PySem PySem.Spec PyProof.Rows EX
/-- how many unlike numbers there are -/
def unlike (ns : List Int) : Nat := (ns.foldl PyProof.Rows.step_dedup []).length
end L2
namespace DI
open PySem PySem.Spec PyProof.Rows L2 EX
variable [Nm]
section
variable {X : Cx} {p : Pl} {e : Expr} {pf p2 q pos : Pos} {w : W}
def intsD : List D → Option (List Int)
  | [] => some []
  | .int i :: ds => (intsD ds).map (i :: ·)
  | _ => none
def gUnl : D → Option D
  | .lst ds => (intsD ds).map fun ns => .int (unlike ns)
  | _ => none
def cUnl : D → Prop
  | .lst ds => ds.length < 64
  | _ => False
def wUnl (w : W) : W := ⟨fun s P => w.f s fun d s1 => cUnl d ∧ get (gUnl d) fun z => P z s1, fun s P P' h q => w.mono _ _ _ (fun d s1 q => ⟨q.1, get_mono (fun z => h z s1) q.2⟩) q⟩
theorem intsD_of : ∀ {xs : List V} {ds : List D} {ns : List Int} {K : PySem.W.Frag} {dr : Option Addr} {G : Hp}, DI.RpA K dr G xs ds → intsD ds = some ns → xs = ns.map V.int
  | _, _, ns, _, _, _, .nil, h => by
    cases h
    rfl
  | _, _, ns, _, _, _, .cons (d := d) r t, h => by
    cases d <;> simp only [intsD] at h <;> try cases h
    obtain ⟨ms, e, rfl⟩ := Option.map_eq_some_iff.mp h
    cases r
    rw [intsD_of t e]
    rfl
end
end DI
/-! x = [.. for ..], where the model stores the new list from within -/
namespace DI
open PySem L2
variable [Nm]
section
variable {X : Cx} {p : Pl}
theorem sd_setLc (i : Nat) {y : Str} {py spos : Pos} {elt tg iter : Expr} {ifs : List Expr} {scope : Scope} {own : List (Str × Nat)} {pos : Pos} {wi : WI} {g : TG} {ge : D → List Sl → Option (List Sl)} {tt : WT} {te : W} (hN : X.N.Nodup) (hi : PI X tg iter (liftI p wi)) (T : LcT p g ge (own.map (·.2))) (ok : blkC X.N X.env.scope scope own = true)
    (hg : ∀ (s : Shared) (H : Hp) (C : Addr) (cl : List (Str × Addr)) (fp : List Addr), PG (X.blk s H scope (compEnvC scope cl C X.env) fp) tg g)
    (ht : ∀ (s : Shared) (H : Hp) (C : Addr) (cl : List (Str × Addr)) (fp : List Addr) (H0 G0 : Hp), PTs (X.blk s H scope (compEnvC scope cl C X.env) fp) ifs (liftT ⟨p.K, p.dr, H0, G0⟩ tt))
    (he : ∀ (s : Shared) (H : Hp) (C : Addr) (cl : List (Str × Addr)) (fp : List Addr) (H0 G0 : Hp), PE (X.blk s H scope (compEnvC scope cl C X.env) fp) elt (lift ⟨p.K, p.dr, H0, G0⟩ te))
    (hc : X.calm = true := by rfl) (hs : ∀ x, foldedSetIterable iter X.env x = pure x := by intro _; rfl) (hy : X.N[i]? = some y := by rfl) (hyl : X.env.scope.names.lookup y = some .local := by rfl)
    (hsw : swapsWith (.ListComp elt [⟨tg, iter, ifs, 0⟩] scope pos) (some (.Name y py)) spos.line X.env = pure true := by rfl) :
    PS X (.Assign [.Name y py] (.ListComp elt [⟨tg, iter, ifs, 0⟩] scope pos) spos) (liftS p (wSet i (wOfL (wLc wi ge (own.map (·.2)) tt te)))) :=
  PS.imp (ps_setLc (own := own) hc hN hy hyl hsw hi (blkOk_by ok) hg (fun s H C cl fp => pts_X (ht s H C cl fp)) (fun s H C cl fp => pe_X (he s H C cl fp)) hs) fun D σ H ⟨G, s, E, R, k, q⟩ => by
    have k' : (wLc wi ge (own.map (·.2)) tt te).f s fun ds s1 => i < s1.env.length ∧ E.nx { s1 with env := s1.env.set i (.val (.lst ds)) } := k
    refine lc_lift T σ H _ ⟨G, s, R, (wLc wi ge (own.map (·.2)) tt te).mono _ _ _ (fun ds s1 k1 l xs H1 G1 e1 R1 r1 hq => ?_) k'⟩
    have e2 : Same G1 (upd G1 l (.lst xs)) := Same.upd (R1.sub.none hq)
    have R2 := R1.alloc (o := .lst xs) hq
    exact q.nx _ _ _ _ (e1.trans e2) (R2.set (by rw [← R2.len]; exact k1.1) (.lst upd_same (r1.mono e2))) k1.2
end
end DI
/-! Every second item of a list; what is walked may be a list or a tuple; a comprehension's targets that are tuples. -/
namespace L2
open PySem PySem.Spec PyProof.Rows
def evn {α : Type} : List α → List α
  | [] => []
  | [a] => [a]
  | a :: _ :: t => a :: evn t
theorem evn_pick {α : Type} : ∀ l : List α, (List.range ((l.length + 1) / 2)).filterMap (fun k => l[2 * k]?) = evn l
  | [] => by first | rfl | simp [evn]
  | [a] => by first | rfl | simp [evn]
  | a :: b :: t => by
    have e : ((a :: b :: t).length + 1) / 2 = (t.length + 1) / 2 + 1 := by
      simp only [List.length_cons]
      omega
    rw [e, List.range_succ_eq_map]
    have z := evn_pick t
    simp only [List.filterMap_cons, List.filterMap_map]
    have h0 : (a :: b :: t)[2 * 0]? = some a := rfl
    rw [h0]
    show a :: _ = a :: evn t
    rw [← z]
    rfl
theorem evn_at (items : Array Value) (a : Nat) : (((List.range (((items.toList.drop a).length + 1) / 2)).map fun k => a + 2 * k)).filterMap (items[·]?) = evn (items.toList.drop a) := by
  rw [← evn_pick (items.toList.drop a), List.filterMap_map]
  congr 1
  funext k
  show items[a + 2 * k]? = (items.toList.drop a)[2 * k]?
  rw [List.getElem?_drop, Array.getElem?_toList]
theorem evn_pick0 (items : Array Value) : slicePick items none none (some 2) = (evn items.toList).toArray := by
  have z := evn_at items 0
  rw [List.drop_zero] at z
  rw [← z]
  unfold slicePick sliceRange sliceBounds
  have hc : (if (0 : Int) < (items.size : Int) then ((items.size : Int) - 0 + 2 - 1) / 2 else 0).toNat = (items.toList.length + 1) / 2 := by
    rw [Array.length_toList]
    split <;> omega
  simp only [Option.getD_some, show (2 : Int) > 0 from by decide, if_true]
  rw [hc]
  congr 3 <;> (funext k; omega)
theorem evn_pick1 (items : Array Value) : slicePick items (some 1) none (some 2) = (evn (items.toList.drop 1)).toArray := by
  have z := evn_at items 1
  rw [← z]
  unfold slicePick sliceRange sliceBounds
  by_cases h0 : items.size = 0
  · have e : items = #[] := by simpa using h0
    subst e
    rfl
  have hm : max (0 : Int) (min 1 (items.size : Int)) = 1 := by omega
  have hc : (if (1 : Int) < (items.size : Int) then ((items.size : Int) - 1 + 2 - 1) / 2 else 0).toNat = ((items.toList.drop 1).length + 1) / 2 := by
    rw [List.length_drop, Array.length_toList]
    split <;> omega
  simp only [Option.getD_some, show (2 : Int) > 0 from by decide, if_true, show ¬ ((1 : Int) < 0) from by decide, if_false]
  rw [hm, hc]
  congr 3 <;> (funext k; omega)
theorem Vals.evn : ∀ {xs : List V} {us : List Value}, Vals xs us → Vals (L2.evn xs) (L2.evn us)
  | _, _, .nil => .nil
  | _, _, .cons r .nil => .cons r .nil
  | _, _, .cons r (.cons _ t) => .cons r (Vals.evn t)
theorem evn_len {α : Type} : ∀ l : List α, (evn l).length = (l.length + 1) / 2
  | [] => by first | rfl | simp [evn]
  | [a] => by first | rfl | simp [evn]
  | a :: b :: t => by
    show (evn t).length + 1 = (t.length + 1 + 1 + 1) / 2
    rw [evn_len t]
    omega
def tStep (K : PySem.W.Frag) (n : Nat) (te : TE) : TE := fun σ H Q => te σ H fun x H1 => ∃ a xs, x = .ref a ∧ SqL K H1 a xs ∧ ∀ p, H1 p = none → Q (.ref p) (upd H1 p (.lst (evn (xs.drop n))))
section
variable {X : Cx}
theorem step_core {e : Expr} {te : TE} {lo : Option Expr} {l : Option Int} {n : Nat} {k : Nat} {p1 p3 pos : Pos} {tl : TO} (he : PE X e te) (hlo : PO X lo tl) (hl : ∀ σ H Q, Q l H → tl σ H Q)
    (hpick : ∀ items : Array Value, slicePick items l none (some 2) = (evn (items.toList.drop n)).toArray)
    (htail : ∀ a b, letTemporaryGo e (.ref a) b = pure () → True) (hsub : ∀ a b, subscripted (.Slice lo none (some (.Constant (.int 2) k p1)) p3) false (.ref a) (.ref b) = operate [.ref a, .ref b] (getItem (.ref a) (.ref b))) :
    PE X (.Subscript e (.Slice lo none (some (.Constant (.int 2) k p1)) p3) pos) (tStep X.K n te) := by
  refine ⟨fun pins s σ H Q I h => ?_⟩
  refine Subscript_ (thn (he.run pins s σ H _ I h) fun v s1 ⟨x, H1, I1, r1, q1⟩ => ?_)
  obtain ⟨a, xs, ex, hx, q⟩ := q1
  subst ex
  cases r1
  have hst : PO X (some (.Constant (.int 2) k p1)) (tPart (tC (.int 2))) := po_some pe_int
  refine wpAny_Slice (thn (hlo.run pins s1 σ H1 (fun o H2 => o = l ∧ H2 = H1) I1 (hl _ _ _ ⟨rfl, rfl⟩)) fun vl s2 ⟨l2, H2, I2, pl, el, e2⟩ => ?_)
  subst el e2
  refine thn (po_none.run pins s2 σ H2 (fun o H3 => o = none ∧ H3 = H2) I2 ⟨rfl, rfl⟩) fun vu s3 ⟨u, H3, I3, pu, eu, e3⟩ => ?_
  subst eu e3
  refine thn (hst.run pins s3 σ H3 (fun o H4 => o = some 2 ∧ H4 = H3) I3 ⟨2, rfl, rfl, rfl⟩) fun vs s4 ⟨o, H4, I4, ps, eo, e4⟩ => ?_
  subst eo e4
  have I5 : Inv X pins σ H4 { s4 with heap := s4.heap.push { cls := .type "slice", data := .fields #[vl, vu, vs] } } := I4.kept (t' := s4.toks) fun b ob q => Heap.get?_push_of_some _ q
  obtain ⟨its, r, ht, hz⟩ := I5.list hx
  have hlen := r.length
  refine tail_any (ops := [.ref a, .ref s4.heap.objs.size]) ht.isList.typeIs (PySem.slot_list_getitem.lookup) ?_ (hsub _ _)
  refine wpAny_getItem_list_slice ht.isList (Heap.IsSliceOf.new _ vl vu vs) pl pu ps (by decide) ?_ (by rw [List.size_toArray]; omega)
  rw [hpick]
  have hle : (evn (xs.drop n)).length ≤ sizeLine := by
    rw [evn_len, List.length_drop]
    omega
  refine ⟨.ref _, _, I5.laid (t' := s4.toks) (o := .lst (evn (xs.drop n))) (fun b ob q => Heap.get?_push_of_some _ q) (Nat.le_refl _) ?_, rfl, q _ (I5.hok.fresh (Nat.le_refl _))⟩
  exact ⟨hle, _, 0, (Vals.evn (r.drop n)), Heap.get?_push_size _ rfl⟩
theorem pe_step0 {e : Expr} {te : TE} {k : Nat} {p1 p3 pos : Pos} (he : PE X e te) : PE X (.Subscript e (.Slice none none (some (.Constant (.int 2) k p1)) p3) pos) (tStep X.K 0 te) :=
  step_core he po_none (fun _ _ _ q => q) (fun items => by rw [evn_pick0, List.drop_zero]) (fun _ _ _ => trivial) (fun _ _ => by with_unfolding_all rfl)
theorem pe_step1 {e : Expr} {te : TE} {k k2 : Nat} {p0 p1 p3 pos : Pos} (he : PE X e te) : PE X (.Subscript e (.Slice (some (.Constant (.int 1) k2 p0)) none (some (.Constant (.int 2) k p1)) p3) pos) (tStep X.K 1 te) :=
  step_core he (po_some pe_int) (fun _ _ _ q => ⟨1, rfl, q⟩) evn_pick1 (fun _ _ _ => trivial) (fun _ _ => by with_unfolding_all rfl)
/-! ### a list or a tuple walked -/
def iSeq (K : PySem.W.Frag) (tl : TE) : TI := fun σ H R => tl σ H fun x H1 => ∃ a, x = .ref a ∧ (((∃ xs, SqL K H1 a xs) ∧ R (Itl K a) H1) ∨ ((∃ xs, SqT K H1 a xs) ∧ R (Itt K a) H1))
theorem pi_seq {tg l : Expr} {tl : TE} (hl : PE X l tl) : PI X tg l (iSeq X.K tl) := by
  refine ⟨fun pins s σ H R I h => ?_⟩
  refine thn (hl.run pins s σ H _ I h) fun v s1 ⟨x, H1, I1, r1, q1⟩ => ?_
  obtain ⟨a, e, q1⟩ := q1
  subst e
  cases r1
  rcases q1 with ⟨⟨xs, hq⟩, q⟩ | ⟨⟨xs, hq⟩, q⟩
  · obtain ⟨its, rv, p, hz⟩ := I1.list hq
    refine wpAny_pyIter_list p.isList ?_
    refine ⟨s1.heap.objs.size, [s1.heap.objs.size], _, _, H1, rfl, I1.kept (t' := s1.toks) fun b o e => Heap.get?_push_of_some _ e, turn_list a _, ⟨_, Heap.get?_push_size _ rfl, rfl, rfl⟩, fun b hb => ?_, q⟩
    have e : b = s1.heap.objs.size := by simpa using hb
    subst e
    exact I1.fpOk (Nat.le_refl _) (I1.hok.fresh (Nat.le_refl _))
  · obtain ⟨its, rv, p, hz⟩ := I1.tuple hq
    refine wpAny_pyIter_tuple (show s1.heap.IsTuple a its.toArray from p) ?_
    refine ⟨s1.heap.objs.size, [s1.heap.objs.size], _, _, H1, rfl, I1.kept (t' := s1.toks) fun b o e => Heap.get?_push_of_some _ e, turn_tuple a _, ⟨_, Heap.get?_push_size _ rfl, rfl, rfl⟩, fun b hb => ?_, q⟩
    have e : b = s1.heap.objs.size := by simpa using hb
    subst e
    exact I1.fpOk (Nat.le_refl _) (I1.hok.fresh (Nat.le_refl _))
end
end L2
namespace DI
open PySem PySem.Spec PyProof.Rows L2 EX
variable [Nm]
theorem RpA.evn {K : PySem.W.Frag} {dr : Option Addr} {G : Hp} : ∀ {vs : List V} {ds : List D}, RpA K dr G vs ds → RpA K dr G (L2.evn vs) (L2.evn ds)
  | _, _, .nil => .nil
  | _, _, .cons r .nil => .cons r .nil
  | _, _, .cons r (.cons _ t) => .cons r (RpA.evn t)
section
variable {X : Cx} {p : Pl} {e tg : Expr} {w : W}
def wStep (n : Nat) (w : W) : W := ⟨fun s P => w.f s fun d s1 => get (lstD d) fun ds => P (.lst (evn (ds.drop n))) s1, fun s P P' h q => w.mono _ _ _ (fun d s1 q => get_mono (fun ds q => h _ _ q) q) q⟩
theorem f_wStep {n : Nat} {s P} : (wStep n w).f s P = (w.f s fun d s1 => get (lstD d) fun ds => P (.lst (evn (ds.drop n))) s1) := rfl
theorem step_lift {n : Nat} (hK : p.K = X.K) (σ : L2.St) (H : Hp) (Q : VK) (h : lift p (wStep n w) σ H Q) : tStep X.K n (lift p w) σ H Q := by
  obtain ⟨G, s, R, k⟩ := h
  refine ⟨G, s, R, w.mono _ _ _ (fun d s1 k1 x H1 G1 e1 R1 r1 => ?_) k⟩
  obtain ⟨ds, ed, k2⟩ := get_of k1
  cases d <;> cases ed
  cases r1 with
  | lst h ha =>
    refine ⟨_, _, rfl, SqL.of (R1.sub _ _ h), fun q hq => ?_⟩
    have sm := Same.upd (o := .lst (evn (List.drop n ‹List V›))) (R1.sub.none hq)
    exact k2 _ _ _ (e1.trans sm) (R1.alloc hq) (.lst upd_same (((ha.drop n).evn).mono sm))
theorem pd_step0 {k : Nat} {p1 p3 pos : Pos} (he : PE X e (lift p w)) (hK : p.K = X.K := by rfl) : PE X (.Subscript e (.Slice none none (some (.Constant (.int 2) k p1)) p3) pos) (lift p (wStep 0 w)) := PE.imp (pe_step0 he) (step_lift hK)
theorem pd_step1 {k k2 : Nat} {p0 p1 p3 pos : Pos} (he : PE X e (lift p w)) (hK : p.K = X.K := by rfl) : PE X (.Subscript e (.Slice (some (.Constant (.int 1) k2 p0)) none (some (.Constant (.int 2) k p1)) p3) pos) (lift p (wStep 1 w)) := PE.imp (pe_step1 he) (step_lift hK)
/-! a list or a tuple walked -/
def seqD : D → Option (List D)
  | .lst ds => some ds
  | .tup ds => some ds
  | _ => none
def wiQ (w : W) : WI := ⟨fun s P => w.f s fun d s1 => get (seqD d) fun ds => P ds s1, fun s P P' h q => w.mono _ _ _ (fun d s1 q => get_mono (fun ds q => h _ _ q) q) q⟩
theorem f_wiQ {s P} : (wiQ w).f s P = (w.f s fun d s1 => get (seqD d) fun ds => P ds s1) := rfl
theorem id_seq (h : PE X e (lift p w)) (hK : p.K = X.K := by rfl) : PI X tg e (liftI p (wiQ w)) := PI.imp (pi_seq h) fun σ H Rr ⟨G, s, R, k⟩ => ⟨G, s, R, w.mono _ _ _ (fun d s1 k1 x H1 G1 e1 R1 r1 => by
  obtain ⟨ds, ed, k2⟩ := get_of k1
  cases d <;> cases ed
  · cases r1 with
    | lst h k => exact ⟨_, rfl, .inl ⟨⟨_, SqL.of (R1.sub _ _ h)⟩, k2 _ H1 G1 e1 R1 (src_list h k)⟩⟩
  · cases r1 with
    | tup h k => exact ⟨_, rfl, .inr ⟨⟨_, hK ▸ Same.tup R1.sub h⟩, k2 _ H1 G1 e1 R1 (src_tup hK h k)⟩⟩) k⟩
/-! targets of a comprehension -/
structure LcG (p : Pl) (g : TG) (ge : D → List Sl → Option (List Sl)) (vs : List Nat) : Prop where
  run : ∀ (σ0 : L2.St) (H0 G0 H G : Hp) (v : V) (d : D) (n : Nat) (env env' : List Sl), (⟨p.K, p.dr, H0, G0⟩ : Pl).Rs σ0 H G ⟨env, n⟩ → p.Rp G v d → ge d env = some env' →
    ∃ σ2, wipe σ2 vs = wipe σ0 vs ∧ (⟨p.K, p.dr, H0, G0⟩ : Pl).Rs σ2 H G ⟨env', n⟩ ∧ ∀ Q : L2.St → Hp → Prop, Q σ2 H → g v σ0 H Q
structure LcGs (p : Pl) (g : TGs) (ge : List D → List Sl → Option (List Sl)) (vs : List Nat) : Prop where
  run : ∀ (σ0 : L2.St) (H0 G0 H G : Hp) (v : List V) (d : List D) (n : Nat) (env env' : List Sl), (⟨p.K, p.dr, H0, G0⟩ : Pl).Rs σ0 H G ⟨env, n⟩ → p.RpA G v d → ge d env = some env' →
    ∃ σ2, wipe σ2 vs = wipe σ0 vs ∧ (⟨p.K, p.dr, H0, G0⟩ : Pl).Rs σ2 H G ⟨env', n⟩ ∧ ∀ Q : L2.St → Hp → Prop, Q σ2 H → g v σ0 H Q
theorem LcG.t {g : TG} {ge : D → List Sl → Option (List Sl)} {vs : List Nat} (L : LcG p g ge vs) : LcT p g ge vs := ⟨fun σ0 H0 G0 H G v d n env env' R r e => by
  obtain ⟨σ2, h1, h2, h3⟩ := L.run (wipe σ0 vs) H0 G0 H G v d n env env' R r e
  exact ⟨σ2, by rw [h1, wipe_twice], h2, h3⟩⟩
theorem lcg_name {j : Nat} {vs : List Nat} (h : j ∈ vs := by decide) : LcG p (gName j) (gNm j) vs := ⟨fun σ0 H0 G0 H G v d n env env' R r e => by
  unfold gNm at e
  split at e
  · cases e
    exact ⟨σ0.set j (some v), wipe_set_in h, Rs.set R (by rw [← R.len]; assumption) r, fun Q q => q⟩
  · cases e⟩
theorem lcg_nil {vs : List Nat} : LcGs p gNil gsNil vs := ⟨fun σ0 H0 G0 H G v d n env env' R r e => by
  cases r with
  | nil =>
    cases e
    exact ⟨σ0, rfl, R, fun Q q => ⟨rfl, q⟩⟩
  | cons _ _ => cases e⟩
theorem lcg_cons {g : TG} {gs : TGs} {ge : D → List Sl → Option (List Sl)} {ges : List D → List Sl → Option (List Sl)} {vs : List Nat} (h1 : LcG p g ge vs) (h2 : LcGs p gs ges vs) : LcGs p (gCons g gs) (gsCons ge ges) vs := ⟨fun σ0 H0 G0 H G v d n env env' R r e => by
  cases r with
  | nil => cases e
  | cons r t =>
    simp only [gsCons, Option.bind_eq_some_iff] at e
    obtain ⟨env1, g1, g2⟩ := e
    obtain ⟨σ1, a1, a2, a3⟩ := h1.run σ0 H0 G0 H G _ _ n env env1 R r g1
    obtain ⟨σ2, b1, b2, b3⟩ := h2.run σ1 H0 G0 H G _ _ n env1 env' a2 t g2
    exact ⟨σ2, by rw [b1, a1], b2, fun Q q => ⟨_, _, rfl, a3 _ (b3 _ q)⟩⟩⟩
theorem lcg_tup {n : Nat} {gs : TGs} {ges : List D → List Sl → Option (List Sl)} {vs : List Nat} {K : PySem.W.Frag} (h : LcGs p gs ges vs) (hK : p.K = K := by rfl) : LcG p (gTup K n gs) (gTp n ges) vs := ⟨fun σ0 H0 G0 H G v d m env env' R r e => by
  cases d <;> simp only [gTp] at e <;> try cases e
  split at e
  · cases r with
    | tup h1 r1 =>
      obtain ⟨σ2, b1, b2, b3⟩ := h.run σ0 H0 G0 H G _ _ m env env' R r1 e
      exact ⟨σ2, b1, b2, fun Q q => ⟨_, _, rfl, hK ▸ Same.tup R.sub h1, by rw [r1.length]; assumption, b3 Q q⟩⟩
  · cases e⟩
end
end DI
/-! Loops by an invariant, comprehensions by what each item gives. -/
namespace DI
open PySem PySem.Spec PyProof.Rows L2 EX
variable [Nm]
section
variable {g : D → List Sl → Option (List Sl)} {tb : WS} {E : ED}
theorem forW_ind (I : Nat → S → Prop) : ∀ (ds : List D) (k : Nat) (s : S), I k s →
    (∀ i d s, ds[i]? = some d → I (k + i) s → get (g d s.env) fun env' => tb.f { nx := I (k + i + 1), rt := E.rt, bk := E.nx, ct := I (k + i + 1) } { s with env := env' }) → (∀ s, I (k + ds.length) s → E.nx s) → forW g tb E ds s
  | [], k, s, h0, _, hE => hE s h0
  | d :: ds, k, s, h0, hs, hE => by
    have step := hs 0 d s rfl h0
    have next : ∀ s', I (k + 1) s' → forW g tb E ds s' := fun s' h => forW_ind I ds (k + 1) s' h (fun i d' s2 hd hI => by
      have z := hs (i + 1) d' s2 (by simpa using hd) (by rw [show k + (i + 1) = k + 1 + i from by omega]; exact hI)
      rw [show k + (i + 1) = k + 1 + i from by omega] at z
      exact z) (fun s2 h2 => hE s2 (by rw [show k + (d :: ds).length = k + 1 + ds.length from by simp only [List.length_cons]; omega]; exact h2))
    exact get_mono (fun env' q => tb.mono { nx := I (k + 0 + 1), rt := E.rt, bk := E.nx, ct := I (k + 0 + 1) } { nx := forW g tb E ds, rt := E.rt, bk := E.nx, ct := forW g tb E ds } _ (ED.Le.mk next (fun _ _ h => h) (fun _ h => h) next) q) step
/-- over typed items -/
theorem forW_ty {α : Type} {inj : α → D} (I : List α → S → Prop) : ∀ (xs : List α) (s : S), I xs s →
    (∀ x t s, (∃ pre, xs = pre ++ x :: t) → I (x :: t) s → get (g (inj x) s.env) fun env' => tb.f { nx := I t, rt := E.rt, bk := E.nx, ct := I t } { s with env := env' }) → (∀ s, I [] s → E.nx s) → forW g tb E (xs.map inj) s
  | [], s, h0, _, hE => hE s h0
  | x :: t, s, h0, hs, hE => by
    have step := hs x t s ⟨[], rfl⟩ h0
    have next : ∀ s', I t s' → forW g tb E (t.map inj) s' := fun s' h => forW_ty I t s' h (fun y u s2 hp hI => by
      obtain ⟨pre, e⟩ := hp
      exact hs y u s2 ⟨x :: pre, by rw [e]; rfl⟩ hI) hE
    exact get_mono (fun env' q => tb.mono { nx := I t, rt := E.rt, bk := E.nx, ct := I t } { nx := forW g tb E (t.map inj), rt := E.rt, bk := E.nx, ct := forW g tb E (t.map inj) } _ (ED.Le.mk next (fun _ _ h => h) (fun _ h => h) next) q) step
end
section
variable {ge : D → List Sl → Option (List Sl)} {vs : List Nat} {tt : WT} {te : W} {env : List Sl}
/-- what an item of a comprehension gives: nothing, or a value -/
def lcOne (ge : D → List Sl → Option (List Sl)) (vs : List Nat) (tt : WT) (te : W) (env : List Sl) (d : D) (n : Nat) (P : Option D → Nat → Prop) : Prop :=
  get (ge d (innE vs env)) fun env' => tt.f ⟨env', n⟩ fun b s1 => if b = true then te.f s1 fun y s2 => P (some y) s2.n else P none s1.n
theorem lcGo_one {d : D} {ds acc : List D} {n : Nat} {P : List D → Nat → Prop} (hz : acc.length < sizeLine) (h : lcOne ge vs tt te env d n fun o m => match o with
    | some y => lcGo ge vs tt te env ds (acc ++ [y]) m P
    | none => lcGo ge vs tt te env ds acc m P) : lcGo ge vs tt te env (d :: ds) acc n P :=
  get_mono (fun env' q => tt.mono _ _ _ (fun b s1 q => by
    cases b with
    | true => exact te.mono _ _ _ (fun y s2 q => ⟨hz, q⟩) q
    | false => exact q) q) h
/-- each item gives what f says -/
theorem lcGo_fn {α : Type} {inj : α → D} (f : α → Option D) {P : List D → Nat → Prop} : ∀ (xs : List α) (acc : List D) (n : Nat), acc.length + xs.length ≤ sizeLine →
    (∀ x ∈ xs, ∀ (P : Option D → Nat → Prop), P (f x) n → lcOne ge vs tt te env (inj x) n P) → P (acc ++ xs.filterMap f) n → lcGo ge vs tt te env (xs.map inj) acc n P
  | [], acc, n, _, _, q => by
    rw [List.filterMap_nil, List.append_nil] at q
    exact q
  | x :: xs, acc, n, hz, h, q => by
    simp only [List.length_cons] at hz
    have h2 : ∀ y ∈ xs, ∀ (P : Option D → Nat → Prop), P (f y) n → lcOne ge vs tt te env (inj y) n P := fun y m => h y (List.mem_cons_of_mem _ m)
    refine lcGo_one (by omega) (h x List.mem_cons_self _ ?_)
    cases e : f x with
    | none =>
      refine lcGo_fn f xs acc n (by omega) h2 ?_
      rw [List.filterMap_cons, e] at q
      exact q
    | some y =>
      refine lcGo_fn f xs (acc ++ [y]) n (by simp only [List.length_append, List.length_cons, List.length_nil]; omega) h2 ?_
      rw [List.filterMap_cons, e] at q
      rw [List.append_assoc]
      exact q
/-- no test: each item gives f's value -/
theorem lcGo_mp {α : Type} {inj : α → D} (f : α → D) {P : List D → Nat → Prop} (xs : List α) (n : Nat) (hz : xs.length ≤ sizeLine)
    (h : ∀ x ∈ xs, ∀ (P : D → S → Prop), (∀ s, s.n = n → P (f x) s) → get (ge (inj x) (innE vs env)) fun env' => te.f ⟨env', n⟩ P) (q : P (xs.map f) n) : lcGo ge vs wtYes te env (xs.map inj) [] n P := by
  refine lcGo_fn (fun x => some (f x)) xs [] n (by simpa using hz) (fun x m P hP => ?_) ?_
  · refine get_mono (fun env' q => ?_) (h x m (fun y s => P (some y) s.n) fun s e => by rw [e]; exact hP)
    simp only [wtYes, if_true]
    exact q
  · rw [List.nil_append]
    have e : xs.filterMap (fun x => some (f x)) = xs.map f := by
      induction xs with
      | nil => rfl
      | cons x t ih => simp
    rw [e]
    exact q
end
end DI
/-! Further equations; small lemmas. -/
namespace DI
open PySem PySem.Spec PyProof.Rows L2 EX
variable [Nm]
/-- the rest is left alone until the value is known: what stands in a type is not looked into -/
inductive Tg {α : Type} (P : α) : Type
  | mk
def gt {α : Type} (o : Option α) (P : α → Prop) (_ : Tg P) : Prop := get o P
def fl (F : FT) (ds : List D) (n : Nat) (Q : D → Nat → Prop) (_ : Tg Q) : Prop := F.f ds n Q
theorem get_lazy {α : Type} {o : Option α} {P : α → Prop} : get o P = gt o P .mk := rfl
theorem ft_lazy {F : FT} {ds : List D} {n : Nat} {Q : D → Nat → Prop} : F.f ds n Q = fl F ds n Q .mk := rfl
theorem gt_some {α : Type} {d : α} {P : α → Prop} {t : Tg P} : gt (some d) P t = P d := rfl
theorem gt_if {α : Type} {c : Prop} [Decidable c] {x y : Option α} {P : α → Prop} {t : Tg P} : gt (if c then x else y) P t = if c then get x P else get y P := by split <;> rfl
/-- what a name gives -/
def vtake (env : List Sl) (i : Nat) : Option (D × List Sl) := match env[i]? with
  | some (.val d) => some (d, env)
  | some (.own ds) => some (.lst ds, env.set i (.val (.lst ds)))
  | some (.dic ks ds) => some (.dct ks ds, env.set i (.val (.dct ks ds)))
  | _ => none
theorem g_wVar {i : Nat} {env : List Sl} {n : Nat} {P : D → S → Prop} : (wVar i).f ⟨env, n⟩ P = get (vtake env i) fun r => P r.1 ⟨r.2, n⟩ := by
  rw [f_wVar]
  unfold vtake
  cases env[i]? with
  | none => rfl
  | some x => cases x <;> rfl
theorem f_wG {g : D → Option D} {w : W} {s P} : (wG g w).f s P = (w.f s fun d s1 => get (g d) fun z => P z s1) := rfl
theorem f_wiE {w : W} {s P} : (wiE w).f s P = (w.f s fun d s1 => get (lstD d) fun ds => P (enumD ds) s1) := rfl
theorem f_wiET {w : W} {s P} : (wiET w).f s P = (w.f s fun d s1 => get (tupD d) fun ds => P (enumD ds) s1) := rfl
theorem f_wiZ {wa wb : W} {s P} : (wiZ wa wb).f s P = (wa.f s fun d1 s1 => wb.f s1 fun d2 s2 => get (lstD d1) fun ds => get (lstD d2) fun es => P (zipD ds es) s2) := rfl
theorem f_wCopy {w : W} {s P} : (wCopy w).f s P = (w.f s fun d s1 => get (lstD d) fun ds => P ds s1) := rfl
theorem f_wPut {i : Nat} {wi wv : W} {E s} : (wPut i wi wv).f E s = (wv.f s fun d s1 => get (ownE s1.env i) fun _ => wi.f s1 fun k s2 => get (wPut.intD0 k) fun k => get (ownE s2.env i) fun ds => get (ixN ds.length k) fun j => E.nx { s2 with env := s2.env.set i (.own (ds.set j d)) }) := rfl
theorem f_wUnl {w : W} {s P} : (wUnl w).f s P = (w.f s fun d s1 => cUnl d ∧ get (gUnl d) fun z => P z s1) := rfl
theorem f_wRev {w : W} {s P} : (wRev w).f s P = (w.f s fun d s1 => get (gRev d) fun z => P z s1) := rfl
theorem f_wRevV {i : Nat} {s P} : (wRevV i).f s P = (get (vget s.env i) fun d => get (gRev d) fun z => P z s) := rfl
theorem f_wDic {i : Nat} {s P} : (wDic i).f s P = (vget s.env i = some .drw ∧ P .dic0 s) := rfl
theorem f_wNever {E s} : wNever.f E s = False := rfl
theorem e_rev {ds : List D} : gRev (.lst ds) = some (.lst ds.reverse) := rfl
theorem f_down {w : W} {s P} : (wiDown w).f s P = (w.f s fun d s1 => ∃ j : Int, d = .int j ∧ 0 ≤ j ∧ j < 2 ^ 62 ∧ P (dwnD j.toNat) s1) := rfl
theorem f_iR2 {t : WA} {s P} : (wiR2 t).f s P = (t.f s fun ds s1 => ∃ i j, ds = [.int i, .int j] ∧ (-(2 ^ 62) ≤ i ∧ i < 2 ^ 62 ∧ -(2 ^ 62) ≤ j ∧ j < 2 ^ 62) ∧ P (rngD i (j - i).toNat) s1) := rfl
theorem f_while {tc : WT} {tb : WS} {E s} : (wWhile tc tb).f E s = ∃ I : Nat → S → Prop, (∃ m, I m s) ∧ ∀ m s, I m s → tc.f s fun b s1 => if b = true then tb.f { nx := fun s' => ∃ m', m' < m ∧ I m' s', rt := E.rt, bk := E.nx, ct := fun s' => ∃ m', m' < m ∧ I m' s' } s1 else E.nx s1 := rfl
section
variable {i j : Int} {x y : Str} {ds es : List D} {a b : D} {u v : Bool}
theorem e_ltI : gLt (.int i) (.int j) = some (.bl (decide (i < j))) := rfl
theorem e_leI : gLe (.int i) (.int j) = some (.bl (decide (i ≤ j))) := rfl
theorem e_gtI : gGt (.int i) (.int j) = some (.bl (decide (i > j))) := rfl
theorem e_geI : gGe (.int i) (.int j) = some (.bl (decide (i ≥ j))) := rfl
theorem e_ltS : gLt (.str x) (.str y) = some (.bl (strLt x y)) := rfl
theorem e_leS : gLe (.str x) (.str y) = some (.bl (!strLt y x)) := rfl
theorem e_addI : gAdd (.int i) (.int j) = some (.int (i + j)) := rfl
theorem e_addS : gAdd (.str x) (.str y) = some (.str (x ++ y)) := rfl
theorem e_addT : gAdd (.tup ds) (.tup es) = some (.tup (ds ++ es)) := rfl
theorem e_addL : gAdd (.lst ds) (.lst es) = some (.lst (ds ++ es)) := rfl
theorem e_subI : gI (fun i j => D.int (i - j)) (.int i) (.int j) = some (.int (i - j)) := rfl
theorem e_modI : gI (fun i j => D.int (i % j)) (.int i) (.int j) = some (.int (i % j)) := rfl
theorem e_divI : gI (fun i j => D.int (i / j)) (.int i) (.int j) = some (.int (i / j)) := rfl
theorem e_mulI : gI (fun i j => D.int (i * j)) (.int i) (.int j) = some (.int (i * j)) := rfl
theorem e_eq : gEq a b = some (.bl (eqD a b)) := rfl
theorem e_ne : gNe a b = some (.bl (!eqD a b)) := rfl
theorem e_ixL : gIx (.lst ds) (.int i) = atI ds i := rfl
theorem e_ixT : gIx (.tup ds) (.int i) = atI ds i := rfl
theorem e_ixS : gIx (.str x) (.int i) = (atI x.cps.toList i).map fun c => .str ⟨#[c]⟩ := rfl
theorem e_lenL : gLen [.lst ds] = some (.int ds.length) := rfl
theorem e_lenT : gLen [.tup ds] = some (.int ds.length) := rfl
theorem e_lenS : gLen [.str x] = some (.int x.length) := rfl
theorem c_lenL : cLen [.lst ds] = True := rfl
theorem c_lenT : cLen [.tup ds] = True := rfl
theorem c_lenS : cLen [.str x] = (x.length ≤ sizeLine) := rfl
theorem c_ixL {k : D} : cIx (.lst ds) k = True := rfl
theorem c_ixT {k : D} : cIx (.tup ds) k = True := rfl
theorem c_ixS {k : D} : cIx (.str x) k = (x.length ≤ sizeLine) := rfl
theorem c_addI : cAdd (.int i) (.int j) = True := rfl
theorem c_addS : cAdd (.str x) (.str y) = (x.length + y.length ≤ sizeLine) := rfl
theorem c_addT : cAdd (.tup ds) (.tup es) = (ds.length + es.length ≤ sizeLine) := rfl
theorem c_addL : cAdd (.lst ds) (.lst es) = (ds.length + es.length ≤ sizeLine) := rfl
theorem c_modI : cMod (.int i) (.int j) = (0 < j) := rfl
theorem c_divI : cDiv (.int i) (.int j) = CDiv i j := rfl
theorem c_mulI : cMul (.int i) (.int j) = CMul i j := rfl
theorem c_slL : cSl (.lst ds) = True := rfl
theorem c_slT : cSl (.tup ds) = True := rfl
theorem c_slS : cSl (.str x) = (x.length ≤ sizeLine) := rfl
theorem e_slL {l h : Option Int} : gSl (.lst ds) l h = some (.lst (cutL ds l h)) := rfl
theorem e_slT {l h : Option Int} : gSl (.tup ds) l h = some (.tup (cutL ds l h)) := rfl
theorem e_slS {l h : Option Int} : gSl (.str x) l h = some (.str (cutS x l h)) := rfl
theorem e_tupL : gTuple [.lst ds] = some (.tup ds) := rfl
theorem e_tupT : gTuple [.tup ds] = some (.tup ds) := rfl
theorem e_int : gInt [.int i] = some (.int i) := rfl
theorem e_ord : gOrd [.str x] = some (.int (x.cps.getD 0 0 : Nat)) := rfl
theorem c_ord : cOrd [.str x] = (x.length = 1) := rfl
theorem e_strI : gStr [.int i] = some (.str (toString i)) := rfl
theorem c_strI : cStr [.int i] = (i.natAbs.log2 < 1920) := rfl
theorem e_inS : gIn (.str x) (.str y) = some (.bl (inStr x y)) := rfl
theorem e_ninS : gNin (.str x) (.str y) = some (.bl (!inStr x y)) := rfl
theorem e_all : gAll [.lst ds] = (blsOf ds).map fun bs => .bl (bs.all (fun b => b)) := rfl
theorem e_any : gAny [.lst ds] = (blsOf ds).map fun bs => .bl (bs.any (fun b => b)) := rfl
theorem c_eqI : cEq (.int i) (.int j) = True := eq_true (.inl rfl)
theorem c_eqS : cEq (.str x) (.str y) = True := eq_true (.inl rfl)
theorem c_eqB : cEq (.bl u) (.bl v) = True := eq_true (.inl rfl)
theorem e_isN : gIsN a .non = some (.bl (DI.isNon a)) := rfl
theorem e_notN : gNotN a .non = some (.bl (!DI.isNon a)) := rfl
theorem n_non : DI.isNon .non = true := rfl
theorem n_int : DI.isNon (.int i) = false := rfl
theorem n_str : DI.isNon (.str x) = false := rfl
theorem n_bl : DI.isNon (.bl u) = false := rfl
theorem n_lst : DI.isNon (.lst ds) = false := rfl
theorem n_tup : DI.isNon (.tup ds) = false := rfl
theorem n_dic0 : DI.isNon .dic0 = false := rfl
theorem n_dct {ks : List Key} : DI.isNon (.dct ks ds) = false := rfl
theorem c_inS : cIn (.str x) (.str y) = True := rfl
end
theorem kit_tuple {K : PySem.W.Frag} : KitT K "tuple" := kit_all K (by intro t ht; simp only [List.mem_cons, List.not_mem_nil, or_false] at ht; rcases ht with h | h | h | h | h | h | h <;> subst h <;> rfl)
theorem kit_int {K : PySem.W.Frag} : KitT K "int" := kit_all K (by intro t ht; simp only [List.mem_cons, List.not_mem_nil, or_false] at ht; rcases ht with h | h | h | h | h | h | h <;> subst h <;> rfl)
theorem kit_bool {K : PySem.W.Frag} : KitT K "bool" := kit_all K (by intro t ht; simp only [List.mem_cons, List.not_mem_nil, or_false] at ht; rcases ht with h | h | h | h | h | h | h <;> subst h <;> rfl)
theorem kit_str {K : PySem.W.Frag} : KitT K "str" := kit_all K (by intro t ht; simp only [List.mem_cons, List.not_mem_nil, or_false] at ht; rcases ht with h | h | h | h | h | h | h <;> subst h <;> rfl)
theorem lstD_lst {ds : List D} : lstD (.lst ds) = some ds := rfl
theorem tupD_tup {ds : List D} : tupD (.tup ds) = some ds := rfl
theorem seqD_lst {ds : List D} : seqD (.lst ds) = some ds := rfl
theorem seqD_tup {ds : List D} : seqD (.tup ds) = some ds := rfl
theorem line_of {n : Nat} (h : n ≤ 16000000) : n ≤ sizeLine := Nat.le_trans h (by decide)
theorem line_lt {n : Nat} (h : n < 16000000) : n < sizeLine := Nat.lt_of_lt_of_le h (by decide)
theorem cm_mod {a b m : Int} (h0 : 0 < m) (h1 : m ≤ 2 ^ 64) : CMul (a % m) b := by
  have h2 := Int.emod_nonneg a (Int.ne_of_gt h0)
  have h3 := Int.emod_lt_of_pos a h0
  exact .inl ⟨by omega, by omega⟩
theorem atI_lt {α : Type} {xs : List α} {i : Int} (h0 : 0 ≤ i) (h1 : i < (xs.length : Int)) : ∃ a, atI xs i = some a ∧ a ∈ xs := by
  have h2 : i.toNat < xs.length := by omega
  refine ⟨xs[i.toNat], ?_, List.getElem_mem h2⟩
  unfold atI ixN
  have e : (if i < 0 then i + (xs.length : Int) else i) = i := if_neg (by omega)
  simp [h0, h1, h2]
  try omega
theorem ixN_nat {n : Nat} {p : Int} (h0 : 0 ≤ p) (h1 : p < n) : ixN n p = some p.toNat := by
  unfold ixN
  have e : (if p < 0 then p + (n : Int) else p) = p := if_neg (by omega)
  simp [h0, h1]
  try omega
theorem atI_nat {α : Type} {xs : List α} {i : Nat} : atI xs (i : Int) = xs[i]? := by
  unfold atI ixN
  by_cases h : i < xs.length
  · have e : (if (i : Int) < 0 then (i : Int) + (xs.length : Int) else (i : Int)) = (i : Int) := if_neg (by omega)
    simp [h]
    try omega
  · have e : (if (i : Int) < 0 then (i : Int) + (xs.length : Int) else (i : Int)) = (i : Int) := if_neg (by omega)
    have e2 : xs[i]? = none := List.getElem?_eq_none (by omega)
    rw [e2]
    simp [h]
    try omega
theorem pick_of {xs : List D} {P : D → Prop} {r : Int} {Q : D → Prop} (h0 : 0 ≤ r) (h1 : r < (xs.length : Int)) (h : ∀ x ∈ xs, P x) (q : ∀ x, P x → Q x) : get (atI xs r) Q := by
  obtain ⟨a, e, m⟩ := atI_lt h0 h1
  rw [e]
  exact q a (h a m)
theorem rng_len (lo : Int) (n : Nat) : (rngD lo n).length = n := by
  unfold rngD
  simp
theorem rng_map (lo : Int) (n : Nat) : rngD lo n = (List.range n).map fun (i : Nat) => D.int (lo + (i : Int)) := rfl
theorem beq_int (x y : Int) : (x == y) = decide (x = y) := by
  by_cases h : x = y
  · subst h
    simp
  · simp [h]
theorem eqD_int (x y : Int) : eqD (.int x) (.int y) = decide (x = y) := by
  unfold eqD
  simp only [toPy, PyData.eqv, beq_int]
theorem eqD_bl (x y : Bool) : eqD (.bl x) (.bl y) = decide (x = y) := by
  unfold eqD
  cases x <;> cases y <;> simp [toPy, PyData.eqv]
theorem eqD_str (x y : Str) : eqD (.str x) (.str y) = decide (x = y) := by
  unfold eqD
  simp only [toPy, PyData.eqv]
  by_cases h : x = y
  · subst h
    simp
  · simp [h]
theorem zip_ints (as bs : List Int) : zipD (as.map D.int) (bs.map D.int) = (as.zip bs).map fun p => .tup [.int p.1, .int p.2] := by
  unfold zipD
  induction as generalizing bs with
  | nil => simp
  | cons a t ih =>
    cases bs with
    | nil => simp
    | cons b u => simp [ih u]
theorem evn_map {α β : Type} (f : α → β) : ∀ l : List α, evn (l.map f) = (evn l).map f
  | [] => by simp [evn]
  | [a] => by simp [evn]
  | a :: b :: t => by simp [evn, evn_map f t]
end DI
/-! Dicts whose keys are ints and texts, by data. -/
namespace DI
open PySem PySem.Spec PyProof.Rows L2 EX
variable [Nm]
def keyD : D → Option Key
  | .int n => some (Sum.inl n)
  | .str z => some (Sum.inr z)
  | _ => none
def unK : Key → D
  | Sum.inl n => .int n
  | Sum.inr z => .str z
def hasK : List Key → Key → Bool
  | [], _ => false
  | k' :: ks, k => decide (k' = k) || hasK ks k
theorem e_keyI {n : Int} : keyD (.int n) = some (Sum.inl n) := rfl
theorem e_keyS {z : Str} : keyD (.str z) = some (Sum.inr z) := rfl
/-- what stands at a key -/
def dGet : List Key → List D → Key → Option D
  | k' :: ks, d :: ds, k => if k' = k then some d else dGet ks ds k
  | _, _, _ => none
def dPutK (ks : List Key) (k : Key) : List Key := if hasK ks k = true then ks else ks ++ [k]
def dRep : List Key → List D → Key → D → List D
  | k' :: ks, d :: ds, k, e => (if k' = k then e else d) :: dRep ks ds k e
  | _, ds, _, _ => ds
def dPut (ks : List Key) (ds : List D) (k : Key) (d : D) : List D := if hasK ks k = true then dRep ks ds k d else ds ++ [d]
section
variable {K : PySem.W.Frag} {dr : Option Addr} {G H : Hp} {p : Pl}
theorem key_rb {d : D} {k : Key} {x : V} (h : keyD d = some k) (r : RpB p H G x d) : x = kV k := by
  cases d <;> cases h
  · exact rb_int r
  · exact rb_str r
theorem kV_rp (k : Key) : Rp K dr G (kV k) (unK k) := by
  cases k with
  | inl n => exact .int n
  | inr z => exact .str z
theorem valV_get (k : Key) : ∀ {kvs : List (Key × V)} {ds : List D}, RpA K dr G (kvs.map (·.2)) ds → ∀ {d : D}, dGet (kvs.map (·.1)) ds k = some d → ∃ v, valV kvs k = some v ∧ Rp K dr G v d
  | [], _, .nil, _, h => by cases h
  | (k', v) :: kvs, _, .cons (d := d') (ds := ds) r t, d, h => by
    have h' : (if k' = k then some d' else dGet (kvs.map (·.1)) ds k) = some d := h
    by_cases e : k' = k
    · rw [if_pos e] at h'
      cases h'
      exact ⟨v, valV_pos e, r⟩
    · rw [if_neg e] at h'
      obtain ⟨u, h1, h2⟩ := valV_get k t h'
      exact ⟨u, by rw [valV_neg (p := (k', v)) e]; exact h1, h2⟩
theorem valV_some (k : Key) : ∀ kvs : List (Key × V), (valV kvs k).isSome = hasK (kvs.map (·.1)) k
  | [] => rfl
  | (k', v) :: kvs => by
    show _ = (decide (k' = k) || hasK (kvs.map (·.1)) k)
    by_cases e : k' = k
    · rw [valV_pos (p := (k', v)) e]
      simp [e]
    · rw [valV_neg (p := (k', v)) e, valV_some k kvs]
      simp [e]
theorem any_mem (k : Key) (kvs : List (Key × V)) : (kvs.any fun kv => decide (kv.1 = k)) = hasK (kvs.map (·.1)) k := by
  rw [valV_any, valV_some]
theorem putK_keys (k : Key) (v : V) (kvs : List (Key × V)) : (putK kvs k v).map (·.1) = dPutK (kvs.map (·.1)) k := by
  unfold putK dPutK
  rw [any_mem]
  by_cases h : hasK (kvs.map (·.1)) k = true
  · rw [if_pos h, if_pos h, List.map_map]
    apply List.map_congr_left
    intro q _
    show (if q.1 = k then (q.1, v) else q).1 = q.1
    split <;> rfl
  · rw [if_neg h, if_neg h, List.map_append]
    rfl
theorem rep_vals {k : Key} {v : V} {d : D} (r : Rp K dr G v d) : ∀ {kvs : List (Key × V)} {ds : List D}, RpA K dr G (kvs.map (·.2)) ds → RpA K dr G ((kvs.map fun kv => if kv.1 = k then (kv.1, v) else kv).map (·.2)) (dRep (kvs.map (·.1)) ds k d)
  | [], _, .nil => .nil
  | (k', u) :: kvs, _, .cons (d := d') (ds := ds) r' t => by
    show RpA K dr G ((if k' = k then (k', v) else (k', u)).2 :: _) ((if k' = k then d else d') :: _)
    by_cases e : k' = k
    · rw [if_pos e, if_pos e]
      exact .cons r (rep_vals r t)
    · rw [if_neg e, if_neg e]
      exact .cons r' (rep_vals r t)
theorem putK_vals {k : Key} {v : V} {d : D} (r : Rp K dr G v d) {kvs : List (Key × V)} {ds : List D} (h : RpA K dr G (kvs.map (·.2)) ds) : RpA K dr G ((putK kvs k v).map (·.2)) (dPut (kvs.map (·.1)) ds k d) := by
  unfold putK dPut
  rw [any_mem]
  by_cases e : hasK (kvs.map (·.1)) k = true
  · rw [if_pos e, if_pos e]
    exact rep_vals r h
  · rw [if_neg e, if_neg e, List.map_append]
    exact h.append (.cons r .nil)
/-! ### a dict given as data -/
def dctD : D → Option (List Key × List D)
  | .dct ks ds => some (ks, ds)
  | _ => none
theorem dctD_dct {ks : List Key} {ds : List D} : dctD (.dct ks ds) = some (ks, ds) := rfl
def gDGet : D → D → Option D
  | .dct ks ds, d => (keyD d).bind (dGet ks ds)
  | _, _ => none
def gDIn : D → D → Option D
  | d, .dct ks _ => (keyD d).map fun k => .bl (hasK ks k)
  | _, _ => none
theorem rp_dct {ks : List Key} {ds : List D} {x : V} (hs : Sub G H) (r : p.Rp G x (.dct ks ds)) : ∃ a o kvs, x = .ref a ∧ H a = some (.frz o (.dK kvs)) ∧ kvs.map (·.1) = ks ∧ p.RpA G (kvs.map (·.2)) ds := by
  cases r with
  | dct h e k => exact ⟨_, _, _, rfl, hs _ _ h, e, k⟩
theorem dget_of {kvs : List (Key × V)} {a : Addr} {y : V} {d2 : D} {ds : List D} {d : D} (h : Rd H a (.dK kvs)) (k : p.RpA G (kvs.map (·.2)) ds) (r : RpB p H G y d2) (e : (keyD d2).bind (dGet (kvs.map (·.1)) ds) = some d) : ∃ v, DGet H a y (some v) ∧ p.Rp G v d := by
  obtain ⟨kk, e1, e2⟩ := Option.bind_eq_some_iff.mp e
  obtain ⟨v, h1, h2⟩ := valV_get kk k e2
  exact ⟨v, .inl ⟨kvs, kk, h, key_rb e1 r, h1.symm⟩, h2⟩
theorem dhas_of {kvs : List (Key × V)} {a : Addr} {y : V} {d2 : D} {kk : Key} (h : Rd H a (.dK kvs)) (r : RpB p H G y d2) (e : keyD d2 = some kk) : ∃ o, DGet H a y o ∧ o.isSome = hasK (kvs.map (·.1)) kk :=
  ⟨valV kvs kk, .inl ⟨kvs, kk, h, key_rb e r, rfl⟩, valV_some kk kvs⟩
end
section
variable {X : Cx} {p : Pl} {o i e k v : Expr} {pos pos' : Pos} {w wk wv wa wb : W} {j : Nat}
/-- d[k], d a value -/
theorem pd_dget {m : Nat} (hr : Room m X.A) (ho : PE X o (lift p w)) (hi : PE X i (lift p wk)) (hs : NoSl i := by intro _ _; rfl) : PE X (.Subscript o i pos) (lift p (wBin cT gDGet w wk)) :=
  PE.imp (pe_dget (by have := hr.un; omega) ho hi hs) fun σ H Q ⟨G, s, R, q⟩ => ⟨G, s, R, w.mono _ _ _ (fun d1 s1 k1 x H1 G1 e1 R1 r1 => ⟨G1, s1, R1, wk.mono _ _ _ (fun d2 s2 k2 y H2 G2 e2 R2 r2 => by
    obtain ⟨_, k3⟩ := k2
    obtain ⟨d, ed, k4⟩ := get_of k3
    cases d1 <;> simp only [gDGet] at ed <;> try cases ed
    obtain ⟨a, od, kvs, rfl, h, ek, ra⟩ := rp_dct R2.sub (r1.mono e2)
    subst ek
    obtain ⟨u, g, ru⟩ := dget_of (.inr ⟨_, h⟩) ra (.of R2.sub r2) ed
    exact ⟨a, u, rfl, g, k4 _ H2 G2 (e1.trans e2) R2 ru⟩) k1⟩) q⟩
def rDIn : R2 := fun y x H Q => ∃ a o, x = .ref a ∧ DGet H a y o ∧ Q (.bl o.isSome) H
theorem op_din (hu : X.A.units + 1 < cLine) : OpR X (compareOp .In) rDIn := by
  intro pins s σ H x y v u Q I rx ry h
  obtain ⟨a, o, rfl, g, q⟩ := h
  cases ry
  exact d_in hu I g rx fun s3 I3 => ⟨.bl o.isSome, H, I3, rfl, q⟩
/-- k in d, d a value -/
theorem cm_din {m : Nat} (hr : Room m X.A) : CmpR X p .In cT gDIn := ⟨_, op_din (by have := hr.un; omega), fun G H x y d1 d2 d Q hs r1 r2 hc hg k1 k2 => by
  cases d2 <;> simp only [gDIn] at hg <;> try cases hg
  obtain ⟨kk, ek, rfl⟩ := Option.map_eq_some_iff.mp hg
  obtain ⟨a, od, kvs, rfl, h, e2, ra⟩ := rp_dct hs (show p.Rp G y _ from r2)
  subst e2
  obtain ⟨o, g, eo⟩ := dhas_of (.inr ⟨_, h⟩) r1 ek
  exact ⟨a, o, rfl, g, by rw [eo]; exact k1 _ (.bl _)⟩⟩
/-! ### a slot's own dict -/
def dicE (env : List Sl) (j : Nat) : Option (List Key × List D) := match env[j]? with
  | some (.dic ks ds) => some (ks, ds)
  | _ => none
theorem dicE_of {env : List Sl} {j : Nat} {ks : List Key} {ds : List D} (h : dicE env j = some (ks, ds)) : env[j]? = some (.dic ks ds) := by
  unfold dicE at h
  cases e : env[j]? with
  | none => rw [e] at h; cases h
  | some x =>
    rw [e] at h
    cases x <;> cases h
    rfl
/-- d[k] -/
def wDGetV (j : Nat) (wk : W) : W := ⟨fun s P => get (dicE s.env j) fun _ => wk.f s fun d2 s2 => get (dicE s2.env j) fun m => get ((keyD d2).bind (dGet m.1 m.2)) fun d => P d s2,
  fun s P P' h q => get_mono (fun _ q => wk.mono _ _ _ (fun d2 s2 q => get_mono (fun m q => get_mono (fun d q => h _ _ q) q) q) q) q⟩
theorem f_wDGetV {s P} : (wDGetV j wk).f s P = (get (dicE s.env j) fun _ => wk.f s fun d2 s2 => get (dicE s2.env j) fun m => get ((keyD d2).bind (dGet m.1 m.2)) fun d => P d s2) := rfl
/-- k in d, k not in d -/
def wDInV (b : Bool) (wk : W) (j : Nat) : W := ⟨fun s P => wk.f s fun d1 s1 => get (dicE s1.env j) fun m => get (keyD d1) fun k => P (.bl (if b then hasK m.1 k else !hasK m.1 k)) s1,
  fun s P P' h q => wk.mono _ _ _ (fun d1 s1 q => get_mono (fun m q => get_mono (fun k q => h _ _ q) q) q) q⟩
theorem f_wDInV {b : Bool} {s P} : (wDInV b wk j).f s P = (wk.f s fun d1 s1 => get (dicE s1.env j) fun m => get (keyD d1) fun k => P (.bl (if b then hasK m.1 k else !hasK m.1 k)) s1) := rfl
/-- x = {} -/
def wDNew (j : Nat) : WS := ⟨fun E s => j < s.env.length ∧ E.nx { s with env := s.env.set j (.dic [] []) }, fun E E' s h q => ⟨q.1, h.nx _ q.2⟩⟩
theorem f_wDNew {E s} : (wDNew j).f E s = (j < s.env.length ∧ E.nx { s with env := s.env.set j (.dic [] []) }) := rfl
theorem sd_dnew (j : Nat) {x : Str} {dpos : Pos} (hN : X.N.Nodup) (hi : X.N[j]? = some x := by rfl) (hx : Loc X.env.scope x := by first | exact .inl rfl | exact .inr rfl) (hs : swapsWith (.Dict [] [] dpos) (some (.Name x pos')) pos.line X.env = pure false := by rfl)
    (hf : X.fn x = true ∨ X.env.scope.names.lookup x = some .local := by first | exact .inl rfl | exact .inr rfl) : PS X (.Assign [.Name x pos'] (.Dict [] [] dpos) pos) (liftS p (wDNew j)) :=
  PS.imp (ps_set hN hi hx pe_dnewK hs hf) fun D σ H ⟨G, s, E, R, q, c⟩ a ha => c.nx _ _ G _ (Same.refl G) (R.setDic (kvs := []) (by rw [← R.len]; exact q.1) ha rfl .nil) q.2
/-- d[k] = v -/
def wDPut (j : Nat) (wk wv : W) : WS := ⟨fun E s => wv.f s fun d s1 => get (dicE s1.env j) fun _ => wk.f s1 fun k s2 => get (dicE s2.env j) fun m => get (keyD k) fun k => m.1.length < sizeLine ∧ E.nx { s2 with env := s2.env.set j (.dic (dPutK m.1 k) (dPut m.1 m.2 k d)) },
  fun E E' s h q => wv.mono _ _ _ (fun d s1 q => get_mono (fun _ q => wk.mono _ _ _ (fun k s2 q => get_mono (fun m q => get_mono (fun k q => ⟨q.1, h.nx _ q.2⟩) q) q) q) q) q⟩
theorem f_wDPut {E s} : (wDPut j wk wv).f E s = (wv.f s fun d s1 => get (dicE s1.env j) fun _ => wk.f s1 fun k s2 => get (dicE s2.env j) fun m => get (keyD k) fun k => m.1.length < sizeLine ∧ E.nx { s2 with env := s2.env.set j (.dic (dPutK m.1 k) (dPut m.1 m.2 k d)) }) := rfl
theorem sd_dput {m : Nat} (hr : Room m X.A) (j : Nat) (ho : PE X o (tVar j)) (hi : PE X i (lift p wk)) (he : PE X e (lift p wv)) (hs : swapsWith e (some (.Subscript o i pos')) pos.line X.env = pure false := by rfl) :
    PS X (.Assign [.Subscript o i pos'] e pos) (liftS p (wDPut j wk wv)) :=
  PS.imp (ps_dput (by have := hr.un; omega) ho hi he hs) fun D σ H ⟨G, s, E, R, q, c⟩ => ⟨G, s, R, wv.mono _ _ _ (fun d s1 k1 v H1 G1 e1 R1 r1 => by
    obtain ⟨m0, e0, k2⟩ := get_of k1
    obtain ⟨a, kvs0, ev, h1, _⟩ := R1.slot j _ (dicE_of (ks := m0.1) (ds := m0.2) e0)
    refine ⟨_, ev, G1, s1, R1, wk.mono _ _ _ (fun kk s2 k3 y H2 G2 e2 R2 r2 => ?_) k2⟩
    obtain ⟨m1, em, k4⟩ := get_of k3
    obtain ⟨kz, ek, hz, k5⟩ := get_of k4
    obtain ⟨a', kvs, ev', g1, g2, g3, g4, g5, ra⟩ := R2.slot j _ (dicE_of (ks := m1.1) (ds := m1.2) em)
    rw [ev] at ev'
    cases ev'
    have ey := key_rb (p := p) (G := G2) (H := H2) ek (.of R2.sub r2)
    subst ey
    have hlen : kvs.length < sizeLine := by
      rw [← g5, List.length_map] at hz
      exact hz
    have pv := putK_vals (k := kz) (r1.mono e2) ra
    rw [g5] at pv
    exact ⟨a, _, rfl, .inl ⟨kvs, kz, g1, rfl, hlen, rfl⟩, c.nx σ _ G2 _ (e1.trans e2) (R2.writeD (dicE_of (ks := m1.1) (ds := m1.2) em) ev (by rw [putK_keys, g5]) pv) k5⟩) q⟩
/-! ### walks over a dict -/
def itemsD (ks : List Key) (ds : List D) : List D := List.zipWith (fun k d => .tup [unK k, d]) ks ds
def wiItems (w : W) : WI := ⟨fun s P => w.f s fun d s1 => get (dctD d) fun m => P (itemsD m.1 m.2) s1, fun s P P' h q => w.mono _ _ _ (fun d s1 q => get_mono (fun m q => h _ _ q) q) q⟩
def wiVals (w : W) : WI := ⟨fun s P => w.f s fun d s1 => get (dctD d) fun m => P m.2 s1, fun s P P' h q => w.mono _ _ _ (fun d s1 q => get_mono (fun m q => h _ _ q) q) q⟩
def wiKeys (w : W) : WI := ⟨fun s P => w.f s fun d s1 => get (dctD d) fun m => P (m.1.map unK) s1, fun s P P' h q => w.mono _ _ _ (fun d s1 q => get_mono (fun m q => h _ _ q) q) q⟩
theorem f_wiItems {s P} : (wiItems w).f s P = (w.f s fun d s1 => get (dctD d) fun m => P (itemsD m.1 m.2) s1) := rfl
theorem f_wiVals {s P} : (wiVals w).f s P = (w.f s fun d s1 => get (dctD d) fun m => P m.2 s1) := rfl
theorem f_wiKeys {s P} : (wiKeys w).f s P = (w.f s fun d s1 => get (dctD d) fun m => P (m.1.map unK) s1) := rfl
variable {tg : Expr} {apos cpos : Pos}
theorem items_get : ∀ {ks : List Key} {ds : List D} {i : Nat} {d : D}, (itemsD ks ds)[i]? = some d → ∃ k e, ks[i]? = some k ∧ ds[i]? = some e ∧ d = .tup [unK k, e] := fun {ks ds i d} h => by
  unfold itemsD at h
  rw [List.getElem?_zipWith] at h
  cases q : ks[i]? with
  | none => rw [q] at h; simp at h
  | some y =>
    cases q2 : ds[i]? with
    | none => rw [q, q2] at h; simp at h
    | some z =>
      rw [q, q2] at h
      simp at h
      exact ⟨y, z, rfl, rfl, h.symm⟩
theorem kvs_at {K : PySem.W.Frag} {dr : Option Addr} {G : Hp} {kvs : List (Key × V)} {ds : List D} {i : Nat} {k : Key} {d : D} (ra : RpA K dr G (kvs.map (·.2)) ds) (h1 : (kvs.map (·.1))[i]? = some k) (h2 : ds[i]? = some d) : ∃ v, kvs[i]? = some (k, v) ∧ Rp K dr G v d := by
  obtain ⟨v, hv, rv⟩ := ra.get h2
  rw [List.getElem?_map] at h1 hv
  cases e : kvs[i]? with
  | none => rw [e] at h1; cases h1
  | some q =>
    rw [e] at h1 hv
    cases h1
    cases hv
    exact ⟨q.2, rfl, rv⟩
theorem id_items {elts : List Expr} {kk : Nat} {tpos : Pos} (h : PE X e (lift p w)) (hbase : attributeBase e "items" X.env (eval e X.env) = eval e X.env := by rfl) (hline : (apos.endLine == cpos.line) = true := by rfl) :
    PI X (.Tuple elts kk tpos) (.Call (.Attribute e "items" apos) [] [] cpos) (liftI p (wiItems w)) :=
  PI.imp (pi_items h hbase hline) fun σ H Rr ⟨G, s, R, q⟩ => ⟨G, s, R, w.mono _ _ _ (fun d s1 k1 x H1 G1 e1 R1 r1 => by
    obtain ⟨m, em, k2⟩ := get_of k1
    cases d <;> cases em
    cases r1 with
    | dct hf ek ra =>
      subst ek
      refine ⟨_, _, _, rfl, R1.sub _ _ hf, k2 _ H1 G1 e1 R1 fun i H' G' e2 hs => ⟨fun d hd => ?_, fun hi => ⟨hs _ _ (e2 _ _ hf), ?_⟩⟩⟩
      · obtain ⟨k, e', hk, he, rfl⟩ := items_get hd
        obtain ⟨v, hv, rv⟩ := kvs_at ra hk he
        refine ⟨⟨hs _ _ (e2 _ _ hf), (List.getElem?_eq_some_iff.mp hv).1⟩, fun x H'' ⟨T, k', v', hkv, ex, hT, eH⟩ => .inr ⟨T, _, hT, eH, ex, ?_⟩⟩
        rw [hv] at hkv
        cases hkv
        subst ex
        have sm : Same G' (L2.upd G' T (.tup [kV k, v])) := Same.upd (hs.none hT)
        exact .tup (.inl (.inl upd_same)) (.cons (kV_rp k) (.cons ((rv.mono e2).mono sm) .nil))
      · have hl := ra.length
        unfold itemsD at hi
        rw [List.length_zipWith, ← hl] at hi
        simpa using hi) q⟩
theorem id_vals (h : PE X e (lift p w)) (hbase : attributeBase e "values" X.env (eval e X.env) = eval e X.env := by rfl) (hline : (apos.endLine == cpos.line) = true := by rfl) :
    PI X tg (.Call (.Attribute e "values" apos) [] [] cpos) (liftI p (wiVals w)) :=
  PI.imp (pi_values h hbase hline) fun σ H Rr ⟨G, s, R, q⟩ => ⟨G, s, R, w.mono _ _ _ (fun d s1 k1 x H1 G1 e1 R1 r1 => by
    obtain ⟨m, em, k2⟩ := get_of k1
    cases d <;> cases em
    cases r1 with
    | dct hf ek ra =>
      subst ek
      have hl := ra.length
      refine ⟨_, _, _, rfl, R1.sub _ _ hf, k2 _ H1 G1 e1 R1 fun i H' G' e2 hs => ⟨fun d hd => ?_, fun hi => ⟨hs _ _ (e2 _ _ hf), ?_⟩⟩⟩
      · obtain ⟨v, hv, rv⟩ := ra.get hd
        rw [List.getElem?_map] at hv
        obtain ⟨q, hq, eq⟩ := Option.map_eq_some_iff.mp hv
        refine ⟨⟨hs _ _ (e2 _ _ hf), (List.getElem?_eq_some_iff.mp hq).1⟩, fun x H'' ⟨e3, k, hx⟩ => .inl ⟨e3, ?_⟩⟩
        rw [hq] at hx
        cases hx
        subst eq
        exact rv.mono e2
      · rw [← hl] at hi
        simpa using hi) q⟩
theorem id_keys (h : PE X e (lift p w)) : PI X tg e (liftI p (wiKeys w)) :=
  PI.imp (pi_keys h) fun σ H Rr ⟨G, s, R, q⟩ => ⟨G, s, R, w.mono _ _ _ (fun d s1 k1 x H1 G1 e1 R1 r1 => by
    obtain ⟨m, em, k2⟩ := get_of k1
    cases d <;> cases em
    cases r1 with
    | dct hf ek ra =>
      subst ek
      refine ⟨_, _, rfl, .inl ⟨_, R1.sub _ _ hf, k2 _ H1 G1 e1 R1 fun i H' G' e2 hs => ⟨fun d hd => ?_, fun hi => ⟨hs _ _ (e2 _ _ hf), by simpa using hi⟩⟩⟩⟩
      rw [List.getElem?_map] at hd
      obtain ⟨k, hk, rfl⟩ := Option.map_eq_some_iff.mp hd
      rw [List.getElem?_map] at hk
      obtain ⟨q, hq, rfl⟩ := Option.map_eq_some_iff.mp hk
      refine ⟨⟨hs _ _ (e2 _ _ hf), (List.getElem?_eq_some_iff.mp hq).1⟩, fun x H'' ⟨e3, k, v, hx, ex⟩ => .inl ⟨e3, ?_⟩⟩
      rw [hq] at hx
      cases hx
      subst ex
      exact kV_rp _) q⟩
end
end DI
/-! extend by a list or a tuple, list(x) of a tuple, sorted ints, x += n, text.index, a list repeated for a name of its own. -/
namespace L2
open PySem PySem.Spec PyProof.Rows
section
variable {prog : Program} {w : World} {A : Around} {s : Shared} {R : Result → Shared → Prop}
end
end L2
namespace DI
open PySem PySem.Spec PyProof.Rows L2 EX
variable [Nm]
section
variable {X : Cx} {p : Pl} {a b e : Expr} {pf pos pos' : Pos} {w wa wb : W}
/-! x.extend(e), x a list of its own -/
def wExt (i : Nat) (w : W) : WS := ⟨fun E s => get (ownE s.env i) fun _ => w.f s fun d s1 => get (seqD d) fun es => get (ownE s1.env i) fun ds => ds.length + es.length ≤ sizeLine ∧ E.nx { s1 with env := s1.env.set i (.own (ds ++ es)) },
  fun E E' s h q => get_mono (fun _ q => w.mono _ _ _ (fun d s1 q => get_mono (fun es q => get_mono (fun ds q => ⟨q.1, h.nx _ q.2⟩) q) q) q) q⟩
theorem f_wExt {i : Nat} {E s} : (wExt i w).f E s = (get (ownE s.env i) fun _ => w.f s fun d s1 => get (seqD d) fun es => get (ownE s1.env i) fun ds => ds.length + es.length ≤ sizeLine ∧ E.nx { s1 with env := s1.env.set i (.own (ds ++ es)) }) := rfl
/-! list(x) of a list or a tuple, for a name of its own -/
def wCopyQ (w : W) : WA := ⟨fun s P => w.f s fun d s1 => get (seqD d) fun ds => P ds s1, fun s P P' h q => w.mono _ _ _ (fun d s1 q => get_mono (fun ds q => h _ _ q) q) q⟩
theorem f_wCopyQ {s P} : (wCopyQ w).f s P = (w.f s fun d s1 => get (seqD d) fun ds => P ds s1) := rfl
/-! [x] * n, for a name of its own -/
def wRepL (wa wb : W) : WA := ⟨fun s P => wa.f s fun d1 s1 => wb.f s1 fun d2 s2 => cRep d1 d2 ∧ get (gRep d1 d2) fun d => get (lstD d) fun ds => P ds s2,
  fun s P P' h q => wa.mono _ _ _ (fun d1 s1 q => wb.mono _ _ _ (fun d2 s2 q => ⟨q.1, get_mono (fun d q => get_mono (fun ds q => h _ _ q) q) q.2⟩) q) q⟩
theorem f_wRepL {s P} : (wRepL wa wb).f s P = (wa.f s fun d1 s1 => wb.f s1 fun d2 s2 => cRep d1 d2 ∧ get (gRep d1 d2) fun d => get (lstD d) fun ds => P ds s2) := rfl
theorem ld_rep (ha : PE X a (lift p wa)) (hb : PE X b (lift p wb)) : PE X (.BinOp a .Mult b pos) (liftL p (wRepL wa wb)) :=
  PE.imp (pe_op op_rep ha hb) fun σ H Q ⟨G, s, R, k⟩ => ⟨G, s, R, wa.mono _ _ _ (fun d1 s1 k1 x H1 G1 e1 R1 r1 => ⟨G1, s1, R1, wb.mono _ _ _ (fun d2 s2 k2 y H2 G2 e2 R2 r2 => by
    obtain ⟨hc, k3⟩ := k2
    obtain ⟨d, ed, k4⟩ := get_of k3
    obtain ⟨ds, el, k5⟩ := get_of k4
    cases d1 <;> cases d2 <;> simp only [gRep] at ed <;> cases ed
    cases el
    obtain ⟨h1, h2, h3⟩ := hc
    cases r2
    cases r1 with
    | lst hq ra =>
      have ra' := ra.mono e2
      exact ⟨_, _, _, rfl, rfl, R2.sub _ _ (e2 _ _ hq), h1, h2, by rw [ra.length]; exact h3, fun z hz => k5 z _ H2 G2 (e1.trans e2) R2 (rep_rp ra' _) hz⟩) k1⟩) k⟩
/-! x += e, ints -/
def wAugI (i : Nat) (w : W) : WS := ⟨fun E s => get (vget s.env i) fun d1 => w.f s fun d2 s1 => get (intD d1) fun x => get (intD d2) fun y => i < s1.env.length ∧ E.nx { s1 with env := s1.env.set i (.val (.int (x + y))) },
  fun E E' s h q => get_mono (fun d1 q => w.mono _ _ _ (fun d2 s1 q => get_mono (fun x q => get_mono (fun y q => ⟨q.1, h.nx _ q.2⟩) q) q) q) q⟩
theorem f_wAugI {i : Nat} {E s} : (wAugI i w).f E s = (get (vget s.env i) fun d1 => w.f s fun d2 s1 => get (intD d1) fun x => get (intD d2) fun y => i < s1.env.length ∧ E.nx { s1 with env := s1.env.set i (.val (.int (x + y))) }) := rfl
/-! sorted(ints) -/
def wSorted (w : W) : W := ⟨fun s P => w.f s fun d s1 => get (lstD d) fun ds => get (intsD ds) fun ns => ∀ ns' : List Int, ns'.Perm ns → ns'.Pairwise (· ≤ ·) → P (.lst (ns'.map D.int)) s1,
  fun s P P' h q => w.mono _ _ _ (fun d s1 q => get_mono (fun ds q => get_mono (fun ns q ns' a b => h _ _ (q ns' a b)) q) q) q⟩
theorem f_wSorted {s P} : (wSorted w).f s P = (w.f s fun d s1 => get (lstD d) fun ds => get (intsD ds) fun ns => ∀ ns' : List Int, ns'.Perm ns → ns'.Pairwise (· ≤ ·) → P (.lst (ns'.map D.int)) s1) := rfl
theorem pd_sorted (h : PE X e (lift p w)) (hm : X.mg "sorted" = none) (hg : Gl X "sorted" := by rfl) (hs : starEach (e :: []) X.env = (false, eval e X.env) :: starEach [] X.env := by rfl) (hpl : (backTo pos (starEach [] X.env)).any (·.1) = false := by rfl) :
    PE X (.Call (.Name "sorted" pf) [e] [] pos) (lift p (wSorted w)) :=
  PE.imp (pe_callB cr_sortedI hg hm (by decide +kernel) (pa_cons h pa_nil hs) (by decide) (by decide) hs hpl) fun σ H Q ⟨G, s, R, k⟩ => ⟨G, s, R, w.mono _ _ _ (fun d s1 k1 x H1 G1 e1 R1 r1 => by
    obtain ⟨ds, ed, k2⟩ := get_of k1
    obtain ⟨ns, en, k3⟩ := get_of k2
    cases d <;> cases ed
    cases r1 with
    | lst h ha =>
      have ex := intsD_of ha en
      subst ex
      refine ⟨_, ns, rfl, SqL.of (R1.sub _ _ h), fun ns' q h1 h2 hq => ?_⟩
      have sm : Same G1 (L2.upd G1 q (.lst (ns'.map V.int))) := Same.upd (R1.sub.none hq)
      exact k3 ns' h1 h2 _ _ _ (e1.trans sm) (R1.alloc hq) (.lst upd_same (RpA.ints ns'))) k⟩
/-! text.index(text), found -/
def gIndex : Str → D → Option D
  | z, .str y => match Builtin.Str.occurrences z y 0 z.length 1 with
    | i :: _ => some (.int (i : Nat))
    | [] => none
  | _, _ => none
theorem mt_idx : MtD X p "index" cZ gIndex := ⟨_, _, F.slot_str_index, F.type_str_index, mt_sindex, fun G H z y d2 d Q hs r hc hg k1 k2 => by
  cases d2 <;> simp only [gIndex] at hg <;> try cases hg
  cases rb_str r
  split at hg
  · cases hg
    rename_i i rest e
    exact ⟨_, _, i, rest, rfl, rfl, e, k1 _ (.int _)⟩
  · cases hg⟩
end
end DI
/-! Dict comprehensions. -/
namespace DI
open PySem PySem.Spec PyProof.Rows L2 EX
variable [Nm]
section
variable {X : Cx} {p : Pl}
/-- {k: v for target in ds if ..} -/
def dcGo (ge : D → List Sl → Option (List Sl)) (vs : List Nat) (tt : WT) (tk tv : W) (env : List Sl) : List D → List Key → List D → Nat → (List Key → List D → Nat → Prop) → Prop
  | [], ks, es, n, P => P ks es n
  | d :: ds, ks, es, n, P => get (ge d (innE vs env)) fun env' => tt.f ⟨env', n⟩ fun b s1 => if b = true then tk.f s1 fun y s2 => tv.f s2 fun z s3 => get (keyD y) fun k => ks.length < sizeLine ∧ dcGo ge vs tt tk tv env ds (dPutK ks k) (dPut ks es k z) s3.n P else dcGo ge vs tt tk tv env ds ks es s1.n P
theorem dcGo_mono {ge : D → List Sl → Option (List Sl)} {vs : List Nat} {tt : WT} {tk tv : W} {env : List Sl} {P P' : List Key → List D → Nat → Prop} (h : ∀ a b n, P a b n → P' a b n) : ∀ (ds : List D) (ks : List Key) (es : List D) (n : Nat), dcGo ge vs tt tk tv env ds ks es n P → dcGo ge vs tt tk tv env ds ks es n P'
  | [], ks, es, n, q => h _ _ _ q
  | d :: ds, ks, es, n, q => get_mono (fun env' q => tt.mono _ _ _ (fun b s1 q => by
    cases b with
    | true => exact tk.mono _ _ _ (fun y s2 q => tv.mono _ _ _ (fun z s3 q => get_mono (fun k q => ⟨q.1, dcGo_mono h ds _ _ _ q.2⟩) q) q) q
    | false => exact dcGo_mono h ds _ _ _ q) q) q
def wDc (wi : WI) (ge : D → List Sl → Option (List Sl)) (vs : List Nat) (tt : WT) (tk tv : W) : W := ⟨fun s P => wi.f s fun ds s1 => dcGo ge vs tt tk tv s1.env ds [] [] s1.n fun ks es n => P (.dct ks es) { s1 with n := n },
  fun s P P' h q => wi.mono _ _ _ (fun ds s1 q => dcGo_mono (fun a b n q => h _ _ q) _ _ _ _ q) q⟩
theorem f_wDc {wi : WI} {ge : D → List Sl → Option (List Sl)} {vs : List Nat} {tt : WT} {tk tv : W} {s P} : (wDc wi ge vs tt tk tv).f s P = (wi.f s fun ds s1 => dcGo ge vs tt tk tv s1.env ds [] [] s1.n fun ks es n => P (.dct ks es) { s1 with n := n }) := rfl
theorem dc_lift {wi : WI} {g : TG} {ge : D → List Sl → Option (List Sl)} {vs : List Nat} {tt : WT} {tk tv : W} (T : LcT p g ge vs) (σ : L2.St) (H : Hp) (Q : VK) (h : lift p (wDc wi ge vs tt tk tv) σ H Q) : tFrz (tDc (liftI p wi) g (liftXT p tt) (liftX p tk) (liftX p tv) vs) σ H Q := by
  obtain ⟨G, s, R, k⟩ := h
  refine ⟨G, s, R, wi.mono _ _ _ (fun ds s1 k1 J H1 G1 e1 R1 src L hL => ?_) k⟩
  have gL : G1 L = none := R1.sub.none hL
  have dL : p.dr ≠ some L := R1.drw.ne hL
  have h0L : p.H0 L = none := R1.base.free dL hL
  have aw := Rs.away R1 hL
  refine ⟨fun i m H' => m = ds.length - i ∧ i ≤ ds.length ∧ ∃ G' n kvs es, Same G1 G' ∧ p.Rs σ H' G' { s1 with n := n } ∧ G' L = none ∧ H' L = some (.dK kvs) ∧ p.RpA G' (kvs.map (·.2)) es ∧
    dcGo ge vs tt tk tv s1.env (ds.drop i) (kvs.map (·.1)) es n (fun ks es n => ∀ v H' G', Same G G' → p.Rs σ H' G' { s1 with n := n } → p.Rp G' v (.dct ks es) → Q v H'),
    ⟨ds.length, by simp, Nat.zero_le _, G1, s1.n, [], [], Same.refl G1, Rs.poke R1 (fun a ha => upd_ne ha) aw gL dL h0L (Soft.none hL), gL, upd_same, .nil, by simpa using k1⟩, ?_⟩
  rintro i m H' ⟨rfl, hi, G', n, kvs, es, e2, R2, g2, l2, ra, k2⟩
  obtain ⟨s1', s2'⟩ := src i H' G' e2 R2.sub
  by_cases hlt : i < ds.length
  · right
    have hd : ds[i]? = some ds[i] := List.getElem?_eq_getElem hlt
    obtain ⟨go, yl⟩ := s1' _ hd
    rw [List.drop_eq_getElem_cons hlt] at k2
    obtain ⟨env', eg, k3⟩ := get_of k2
    let Nx : Hp → Prop := fun H' => i + 1 ≤ ds.length ∧ ∃ G' n kvs es, Same G1 G' ∧ p.Rs σ H' G' { s1 with n := n } ∧ G' L = none ∧ H' L = some (.dK kvs) ∧ p.RpA G' (kvs.map (·.2)) es ∧
      dcGo ge vs tt tk tv s1.env (ds.drop (i + 1)) (kvs.map (·.1)) es n (fun ks es n => ∀ v H' G', Same G G' → p.Rs σ H' G' { s1 with n := n } → p.Rp G' v (.dct ks es) → Q v H')
    refine ⟨go, Nx, fun H2 ⟨z0, z⟩ => ⟨ds.length - (i + 1), by omega, rfl, z0, z⟩, fun x H'' y => ?_⟩
    have turn : ∀ (H3 G3 : Hp), Same G' G3 → p.Rs σ H3 G3 { s1 with n := n } → G3 L = none → H3 L = some (.dK kvs) → p.Rp G3 x ds[i] → g x (wipe σ vs) H3 fun σ2 H2 => wipe σ2 vs = wipe σ vs ∧ liftXT p tt σ2 H2 fun b H3 =>
        if b = true then liftX p tk σ2 H3 fun y H4 => liftX p tv σ2 H4 fun z H5 => ∃ kvs k, y = kV k ∧ H5 L = some (.dK kvs) ∧ kvs.length < sizeLine ∧ Nx (upd H5 L (.dK (putK kvs k z))) else Nx H3 := fun H3 G3 e3 R3 g3 l3 rx => by
      obtain ⟨σ2, w2, R4, kq⟩ := T.run σ H3 G3 H3 G3 x ds[i] n _ env' (Rs.inner R3 vs) rx eg
      have n3 : (⟨p.K, p.dr, H3, G3⟩ : Pl).H0 L ≠ none := by
        rw [show (⟨p.K, p.dr, H3, G3⟩ : Pl).H0 = H3 from rfl, l3]
        exact fun z => by cases z
      refine kq _ ⟨w2, H3, G3, G3, _, R4, tt.mono _ _ _ (fun b sb kb H5 G5 e5 R5 => ?_) k3⟩
      have l5 : H5 L = some (.dK kvs) := R5.base.keep L _ dL l3 nt_dK
      have g5 : G5 L = none := R5.new L g3 n3
      cases b with
      | true =>
        refine ⟨H3, G3, G5, sb, R5, tk.mono _ _ _ (fun y s6 k6 u H6 G6 e6 R6 r6 => ⟨H3, G3, G6, s6, R6, tv.mono _ _ _ (fun z s7 k7 v H7 G7 e7 R7 r7 => ?_) k6⟩) kb⟩
        obtain ⟨kk, ek, hz, k8⟩ := get_of k7
        have l7 : H7 L = some (.dK kvs) := R7.base.keep L _ dL l3 nt_dK
        have g7 : G7 L = none := R7.new L g3 n3
        have e37 := (e5.trans e6).trans e7
        have R8 := Rs.call R3 e37 R7.base R7.sub R7.new R7.drw
        have eu := key_rb (p := p) (G := G6) (H := H6) ek (.of R6.sub r6)
        subst eu
        have hlen : kvs.length < sizeLine := by
          rw [List.length_map] at hz
          exact hz
        have pv := putK_vals (k := kk) r7 (ra.mono (e3.trans e37))
        refine ⟨kvs, kk, rfl, l7, hlen, hlt, G7, s7.n, putK kvs kk v, _, (e2.trans e3).trans e37, Rs.poke R8 (fun a ha => upd_ne ha) aw g7 dL h0L (Soft.dK l7), g7, upd_same, pv, ?_⟩
        rw [putK_keys]
        exact k8
      | false =>
        have R7 := Rs.call R3 e5 R5.base R5.sub R5.new R5.drw
        exact ⟨hlt, G5, sb.n, kvs, es, (e2.trans e3).trans e5, R7, g5, l5, ra.mono (e3.trans e5), kb⟩
    rcases yl x H'' y with ⟨rfl, rx⟩ | ⟨q1, o, hq, rfl, rfl, rx⟩
    · exact turn _ G' (Same.refl G') R2 g2 l2 rx
    · have ne : L ≠ q1 := fun z => by
        subst z
        rw [l2] at hq
        cases hq
      obtain ⟨Gn, en, Rn, gn, rn⟩ := R2.fresh (o := o) hq
      exact turn _ _ en Rn (by rw [gn L ne]; exact g2) (by rw [upd_ne ne]; exact l2) (rn _ _ rx)
  · left
    have e0 : i = ds.length := by omega
    subst e0
    rw [List.drop_length] at k2
    refine ⟨s2' (Nat.le_refl _), .inr ⟨L, _, rfl, l2, True.intro, fun od => ?_⟩⟩
    have R3 : p.Rs σ (fun a => if a = L then none else H' a) G' { s1 with n := n } := Rs.poke R2 (fun a ha => if_neg ha) aw g2 dL h0L (Soft.dK l2)
    have R4 := R3.alloc (p := L) (o := .frz od (.dK kvs)) (if_pos rfl)
    have eH : upd (fun a => if a = L then none else H' a) L (.frz od (.dK kvs)) = upd H' L (.frz od (.dK kvs)) := by
      funext a
      unfold upd
      by_cases h : a = L
      · subst h
        rw [if_pos rfl, if_pos rfl]
      · rw [if_neg h, if_neg h]
        exact if_neg h
    rw [eH] at R4
    have sm : Same G' (upd G' L (.frz od (.dK kvs))) := Same.upd g2
    exact k2 _ _ _ ((e1.trans e2).trans sm) R4 (.dct upd_same rfl (ra.mono sm))
theorem pd_dc {kx vx tg iter : Expr} {ifs : List Expr} {scope : Scope} {own : List (Str × Nat)} {pos : Pos} {wi : WI} {g : TG} {ge : D → List Sl → Option (List Sl)} {tt : WT} {tk tv : W} (hN : X.N.Nodup) (hi : PI X tg iter (liftI p wi)) (T : LcT p g ge (own.map (·.2))) (ok : blkC X.N X.env.scope scope own = true)
    (hg : ∀ (s : Shared) (H : Hp) (C : Addr) (cl : List (Str × Addr)) (fp : List Addr), PG (X.blk s H scope (compEnvC scope cl C X.env) fp) tg g)
    (ht : ∀ (s : Shared) (H : Hp) (C : Addr) (cl : List (Str × Addr)) (fp : List Addr) (H0 G0 : Hp), PTs (X.blk s H scope (compEnvC scope cl C X.env) fp) ifs (liftT ⟨p.K, p.dr, H0, G0⟩ tt))
    (hk : ∀ (s : Shared) (H : Hp) (C : Addr) (cl : List (Str × Addr)) (fp : List Addr) (H0 G0 : Hp), PE (X.blk s H scope (compEnvC scope cl C X.env) fp) kx (lift ⟨p.K, p.dr, H0, G0⟩ tk))
    (he : ∀ (s : Shared) (H : Hp) (C : Addr) (cl : List (Str × Addr)) (fp : List Addr) (H0 G0 : Hp), PE (X.blk s H scope (compEnvC scope cl C X.env) fp) vx (lift ⟨p.K, p.dr, H0, G0⟩ tv))
    (hc : X.calm = true := by rfl) (hs : ∀ x, foldedSetIterable iter X.env x = pure x := by intro _; rfl) : PE X (.DictComp kx vx [⟨tg, iter, ifs, 0⟩] scope pos) (lift p (wDc wi ge (own.map (·.2)) tt tk tv)) :=
  PE.imp (pe_frz (pe_dc (own := own) hc hN hi (blkOk_by ok) hg (fun s H C cl fp => pts_X (ht s H C cl fp)) (fun s H C cl fp => pe_X (hk s H C cl fp)) (fun s H C cl fp => pe_X (he s H C cl fp)) hs)) (dc_lift T)
end
end DI
/-! A law's begin and end. -/
namespace DI
open PySem PySem.Spec PyProof.Rows L2
variable [Nm]
theorem merge_drw (q : Addr) : mergeK [] [((Sum.inr "cells" : Key), V.ref q), (Sum.inr "at", .int 0), (Sum.inr "left", .int 0), (Sum.inr "used", .int 0)] = drwK q 0 0 0 := by
  obtain ⟨h1, h2, h3, h4, h5, h6⟩ := kAt
  simp [mergeK, putK, drwK, h1, h2, h3, h4, h5, h6]
/-! ### the draws are begun -/
def spBegin (K : PySem.W.Frag) : Sp := fun vs H Q _ => ∃ (a : Addr) (ns : List Int), vs = [.ref a] ∧ SqL K H a (ns.map V.int) ∧ ns.length ≤ 63 ∧
  ∀ (p L : Addr) (H' : Hp), H p = none → H L = none → L ≠ p → (∀ b o, H b = some o → H' b = some o) → H' p = some (.dK (drwK L 0 0 0)) → H' L = some (.lst ((ns ++ [0]).map V.int)) → Q (.ref p) H'

def spLaw (K : PySem.W.Frag) : Sp := fun vs H Q _ => ∃ (a : Addr) (ns : List Int), vs = [.ref a] ∧ SqL K H a (ns.map V.int) ∧ ns.length ≤ 63 ∧ One K H ∧ ∀ H', Q (.bl true) H'
def eEnd : ED := { nx := fun _ => False, rt := fun d _ => d = .bl true }
theorem begin_rs {K : PySem.W.Frag} {H H' : Hp} {p L : Addr} {ns : List Int} {σ : L2.St} {m : Nat} (hone : One K H) (hp : H p = none) (hL : H L = none) (nlp : L ≠ p) (hsame : ∀ b o, H b = some o → H' b = some o) (e1 : H' p = some (.dK (drwK L 0 0 0))) (e2 : H' L = some (.lst ((ns ++ [0]).map V.int)))
    (hl : ns.length ≤ 63) (hσ : σ.length = m + 2) (h1 : σ[1]? = some (some (.ref p))) : ∃ G1, (⟨K, some p, H', G1⟩ : Pl).Rs σ H' G1 ⟨.emp :: .val .drw :: List.replicate m .emp, 0⟩ := by
  obtain ⟨o1, nd1, h1s⟩ := hone
  obtain ⟨ms, ms1, ms2, ms3⟩ : ∃ ms : Option HO, (∀ o, ms = some o → H sysModules = some o) ∧ (∀ o u, H sysModules = some (.frz o u) → ms = some (.frz o u)) ∧ ∀ ps, ms ≠ some (.tbl ps) := by
    by_cases t : ∃ o u, H sysModules = some (.frz o u)
    · obtain ⟨o, u, e⟩ := t
      exact ⟨some (.frz o u), fun o' z => (by cases z; exact e), fun o' u' z => (by rw [e] at z; cases z; rfl), fun ps z => (nomatch z)⟩
    · exact ⟨none, fun o z => (nomatch z), fun o u z => absurd ⟨o, u, z⟩ t, fun ps z => (nomatch z)⟩
  let G1 : Hp := fun b => if b = L then some (.lst ((ns ++ [0]).map V.int)) else if b = sysModules then ms else none
  have gL : G1 L = some (.lst ((ns ++ [0]).map V.int)) := if_pos rfl
  have gN : ∀ b, b ≠ L → b ≠ sysModules → G1 b = none := fun b hb h1 => by
    show (if b = L then _ else if b = sysModules then ms else none) = _
    rw [if_neg hb, if_neg h1]
  have gE : sysModules ≠ L → G1 sysModules = ms := fun hb => by
    show (if sysModules = L then _ else if sysModules = sysModules then ms else none) = _
    rw [if_neg hb, if_pos rfl]
  have gS : ∀ o, sysModules ≠ L → G1 sysModules = some o → H' sysModules = some o := fun o hb e => hsame _ _ (ms1 _ (by rw [← gE hb]; exact e))
  have one1 : One K G1 := by
    refine ⟨o1, nd1, h1s.imp (fun z => ?_) id⟩
    have hb : sysModules ≠ L := fun q => by
      rw [← q] at hL
      rw [z] at hL
      cases hL
    rw [gE hb]
    exact ms2 _ _ z
  have pS : p = sysModules → G1 p = none := fun q => by
    have hb : sysModules ≠ L := fun z => nlp (by rw [← z, ← q])
    rw [q, gE hb]
    cases e : ms with
    | none => rfl
    | some o =>
      have z := ms1 o e
      rw [← q, hp] at z
      cases z
  have nt : ∀ a ps, G1 a ≠ some (.tbl ps) := fun a ps z => by
    by_cases hb : a = L
    · subst hb
      rw [gL] at z
      cases z
    · by_cases hs : a = sysModules
      · subst hs
        rw [gE hb] at z
        exact ms3 ps z
      · rw [gN a hb hs] at z
        cases z
  refine ⟨G1, ⟨fun b o e => ?_, nt⟩, Bse.refl, fun b h _ => h, by simp [hσ], ?_, ?_, ?_, ?_⟩
  · by_cases hb : b = L
    · subst hb
      rw [gL] at e
      cases e
      exact e2
    · by_cases hs : b = sysModules
      · subst hs
        exact gS o hb e
      · rw [gN b hb hs] at e
        cases e
  · intro i x hx
    match i, hx with
    | 0, hx => cases hx; trivial
    | 1, hx => cases hx; exact ⟨_, h1, .drw rfl one1⟩
    | i + 2, hx =>
      have e : (List.replicate m Sl.emp)[i]? = some x := by simpa using hx
      rw [List.getElem?_replicate] at e
      split at e <;> cases e
      trivial
  · intro i j q ds es _ h1
    match i, h1 with
    | 0, h1 => cases h1
    | 1, h1 => cases h1
    | i + 2, h1 =>
      have e : (List.replicate m Sl.emp)[i]? = some (.own ds) := by simpa using h1
      rw [List.getElem?_replicate] at e
      split at e <;> cases e
  · intro i j q ks ls ds es _ h1
    match i, h1 with
    | 0, h1 => cases h1
    | 1, h1 => cases h1
    | i + 2, h1 =>
      have e : (List.replicate m Sl.emp)[i]? = some (.dic ks ds) := by simpa using h1
      rw [List.getElem?_replicate] at e
      split at e <;> cases e
  · intro b hb
    cases hb
    refine ⟨?_, L, ns ++ [0], 0, 0, 0, e1, gL, ?_, ?_, ?_, ?_, ?_, ?_⟩
    · by_cases hs : p = sysModules
      · exact pS hs
      · exact gN p nlp.symm hs
    all_goals (simp <;> omega)
theorem dn_mk {P : Program} {w : World} {K : PySem.W.Frag} {mg : Str → Option Value} {base : Heap} {k : Nat} {x : Str} {st : Stmt} {f : Addr} {fd : FuncData} {ps : List Str} {F : FT} (U : Fun K x x st f fd) (hm : mg x = some (.ref f)) (hb : Binds K fd ps []) (hk : ∀ (s : Shared) (us : List Value), us.length = ps.length → BindsTo s fd ⟨[], ps.zip us⟩ (ps.zip us))
    (G : ∀ dr, FnG P w K mg base k f fd ps (SpD K dr (List.replicate ps.length false) F)) : Dn P w K mg base k x ps F := ⟨f, fd, hm, U.kp, hb, hk, G⟩
theorem bk_mk {K : PySem.W.Frag} {h : Heap} {mg : Str → Option Value} (X : K.In h) (G : h.Ns mainGlobals mg) {B N : Addr} {qn : Str} {bs : List Value} {sn : List Str} {sub : List Value} {ab : Bool} {col : Option Bool} {dd : Option Addr} {m0 m1 m2 m3 m5 : Option Value}
    (a : PySem.W.nsIn K mainGlobals "BookError" = some (some (.ref B)))
    (x : K.lookup B = some (excClassObj "BookError" qn B N bs [.type "ValueError", .type "Exception", .type "BaseException", .type "object"] true sn sub ab col dd m0 m1 m2 m3 m5 "ValueError.__new__"))
    (t : PySem.W.typeIn K (.ref B) = some (.type "type")) : Bk K mg := by
  refine ⟨B, a, ⟨{ name := "BookError", bases := bs, mro := .ref B :: [.type "ValueError", .type "Exception", .type "BaseException", .type "object"], ns := N, qualname := qn, hasDict := true, slotNames := sn, subclasses := sub, abstract := ab, collection := col, hasDel := false }, ?_, rfl⟩, t, PySem.W.mg_of X G a⟩
  unfold PySem.W.clsIn
  rw [x] <;> rfl
theorem gc_str {K : PySem.W.Frag} {mg : Str → Option Value} {x : Str} {z : Str} {t : Tok} (h : mg x = some (.str z t)) : Gc K mg x (.str z) := ⟨.str z, _, h, ⟨t, rfl⟩, fun dr G => .str z⟩
theorem gc_int {K : PySem.W.Frag} {mg : Str → Option Value} {x : Str} {z : Int} {t : Tok} (h : mg x = some (.int z t)) : Gc K mg x (.int z) := ⟨.int z, _, h, ⟨t, rfl⟩, fun dr G => .int z⟩
end DI
/-! x, y = [], []: two own lists. -/
namespace DI
open PySem PySem.Spec PyProof.Rows L2
variable [Nm]
def wParO (i j : Nat) : WS := ⟨fun E s => i < s.env.length ∧ j < s.env.length ∧ E.nx { s with env := (s.env.set i (.own [])).set j (.own []) },
  fun E E' s h q => ⟨q.1, q.2.1, h.nx _ q.2.2⟩⟩
section
variable {X : Cx} {p : Pl} {pos : Pos}
theorem sd_parO (i j : Nat) {x y : Str} {px py pt pa pb : Pos} {kt k2 pt2} (hN : X.N.Nodup) (hc : X.calm = true := by rfl) (hi : X.N[i]? = some x := by rfl) (hj : X.N[j]? = some y := by rfl) (hij : i ≠ j := by decide)
    (hx : X.env.scope.names.lookup x = some .local := by rfl) (hy : X.env.scope.names.lookup y = some .local := by rfl)
    (h1 : starEach [.List [] pa, .List [] pb] X.env = (false, eval (.List [] pa) X.env) :: starEach [.List [] pb] X.env := by rfl)
    (h2 : starEach [.List [] pb] X.env = (false, eval (.List [] pb) X.env) :: starEach [] X.env := by rfl)
    (hw : swappedStores [.Tuple [.Name x px, .Name y py] kt pt] (.Tuple [.List [] pa, .List [] pb] k2 pt2) X.env = pure (some [x, y]) := by rfl)
    (hs : swapsWithSole [.Tuple [.Name x px, .Name y py] kt pt] (.Tuple [.List [] pa, .List [] pb] k2 pt2) pos.line X.env = pure false := by rfl) : PS X (.Assign [.Tuple [.Name x px, .Name y py] kt pt] (.Tuple [.List [] pa, .List [] pb] k2 pt2) pos) (liftS p (wParO i j)) :=
  PS.imp (ps_par hc hN hi hj hij hx hy (pa_cons (pe_lst pa_nil) (pa_cons (pe_lst pa_nil) pa_nil h2) h1) hw hs) fun D σ H ⟨G, s, E, R, k, q⟩ => by
    refine ⟨Nat.zero_le _, fun a ha => ⟨Nat.zero_le _, fun b hb => ?_⟩⟩
    obtain ⟨l1, l2, k⟩ := k
    have R1 := R.setOwn (i := i) (by rw [← R.len]; exact l1) ha .nil
    have R2 := R1.setOwn (i := j) (by rw [List.length_set, ← R.len]; exact l2) hb .nil
    exact ⟨_, _, rfl, q.nx _ _ G _ (Same.refl _) R2 k⟩
end
theorem f_wParO {E s} : (wParO i j).f E s = (i < s.env.length ∧ j < s.env.length ∧ E.nx { s with env := (s.env.set i (.own [])).set j (.own []) }) := rfl
end DI
/-! range with -1, zip of two tuples. -/
namespace DI
open PySem PySem.Spec PyProof.Rows L2 EX
variable [Nm]
section
variable {X : Cx} {p : Pl} {a b c e e2 tg : Expr} {es : List Expr} {pf pt pos : Pos} {w wa wb : W} {t : WA}
/-- i, i - 1, .., n of them -/
def dw3D (i : Int) (n : Nat) : List D := (List.range n).map fun (k : Nat) => D.int (i - (k : Int))
def wiR3 (t : WA) : WI := ⟨fun s P => t.f s fun ds s1 => ∃ i j : Int, ds = [.int i, .int j, .int (-1)] ∧ (-(2 ^ 62) ≤ i ∧ i < 2 ^ 62 ∧ -(2 ^ 62) ≤ j ∧ j < 2 ^ 62) ∧ P (dw3D i (i - j).toNat) s1, fun s P P' h q => t.mono _ _ _ (fun ds s1 ⟨i, j, e, a, q⟩ => ⟨i, j, e, a, h _ _ q⟩) q⟩
theorem f_iR3 {t : WA} {s P} : (wiR3 t).f s P = (t.f s fun ds s1 => ∃ i j : Int, ds = [.int i, .int j, .int (-1)] ∧ (-(2 ^ 62) ≤ i ∧ i < 2 ^ 62 ∧ -(2 ^ 62) ≤ j ∧ j < 2 ^ 62) ∧ P (dw3D i (i - j).toNat) s1) := rfl
def wiZT (wa wb : W) : WI := ⟨fun s P => wa.f s fun d1 s1 => wb.f s1 fun d2 s2 => get (tupD d1) fun ds => get (tupD d2) fun es => P (zipD ds es) s2,
  fun s P P' h q => wa.mono _ _ _ (fun d1 s1 q => wb.mono _ _ _ (fun d2 s2 q => get_mono (fun ds q => get_mono (fun es q => h _ _ q) q) q) q) q⟩
theorem f_wiZT {wa wb : W} {s P} : (wiZT wa wb).f s P = (wa.f s fun d1 s1 => wb.f s1 fun d2 s2 => get (tupD d1) fun ds => get (tupD d2) fun es => P (zipD ds es) s2) := rfl
/-! is, between two truths -/
def gIsB : D → D → Option D
  | .bl a, .bl b => some (.bl (a == b))
  | _, _ => none
def gIsnB : D → D → Option D
  | .bl a, .bl b => some (.bl (a != b))
  | _, _ => none
theorem e_isB {a b : Bool} : gIsB (.bl a) (.bl b) = some (.bl (a == b)) := rfl
theorem e_isnB {a b : Bool} : gIsnB (.bl a) (.bl b) = some (.bl (a != b)) := rfl
end
end DI
/-! zip of a tuple and a list. -/
namespace EX
open PySem PySem.W PySem.Calls PyProof.Rows
section
variable {prog : Program} {w : World} {A : Around} {E : Value → Shared → Prop} {s : Shared}
end
end EX
namespace L2
open PySem PySem.Spec PyProof.Rows EX
structure ZmAp (z TI TO i1 i2 a b : Addr) : Prop where
  s : ZipSep2 z TI TO i1 i2 [i1, a] [i2, b]
  a1 : a ≠ i1
  b2 : b ≠ i2
end L2
namespace L2
open PySem PySem.Spec PyProof.Rows EX
end L2
namespace DI
open PySem PySem.Spec PyProof.Rows L2 EX
variable [Nm]
section
variable {X : Cx} {p : Pl} {a b c e e2 tg : Expr} {es : List Expr} {pf pt pos : Pos} {w wa wb : W} {t : WA}
def wiZM (wa wb : W) : WI := ⟨fun s P => wa.f s fun d1 s1 => wb.f s1 fun d2 s2 => get (tupD d1) fun ds => get (lstD d2) fun es => P (zipD ds es) s2,
  fun s P P' h q => wa.mono _ _ _ (fun d1 s1 q => wb.mono _ _ _ (fun d2 s2 q => get_mono (fun ds q => get_mono (fun es q => h _ _ q) q) q) q) q⟩
theorem f_wiZM {wa wb : W} {s P} : (wiZM wa wb).f s P = (wa.f s fun d1 s1 => wb.f s1 fun d2 s2 => get (tupD d1) fun ds => get (lstD d2) fun es => P (zipD ds es) s2) := rfl
/-! sum of a list of ints; the least one of a list -/
def gSum : List D → Option D
  | [.lst ds] => (intsD ds).map fun ns => .int ns.sum
  | _ => none
def gMin1 : List D → Option D
  | [.lst ds] => (intsD ds).bind fun ns => ns.min?.map D.int
  | _ => none
theorem e_sum {ds : List D} : gSum [.lst ds] = (intsD ds).map fun ns => .int ns.sum := rfl
theorem e_min1 {ds : List D} : gMin1 [.lst ds] = (intsD ds).bind fun ns => ns.min?.map D.int := rfl
end
end DI
/-! Errors raised: own classes, by data. -/
namespace L2
open PySem PySem.Spec PyProof.Rows EX
section
variable {X : Cx} {B C fI : Addr} {nm : Str} {fs : List Str} {pins : List (Addr × Obj)} {σ : St} {H1 : Hp} {s1 : Shared}
end
end L2
namespace DI
open PySem PySem.Spec PyProof.Rows L2 EX
variable [Nm]
/-- an error: its class and its fields, each a plain value -/
abbrev Er := Str × List (Str × D)
def atom : D → Option V
  | .non => some .non
  | .bl b => some (.bl b)
  | .int i => some (.int i)
  | .str x => some (.str x)
  | _ => none
def ErrR (K : PySem.W.Frag) (mg : Str → Option Value) (er : Er) (cls : Value) (dd : Option Addr) (H : Hp) : Prop :=
  ∃ B C fs, ExK K B er.1 C fs ∧ mg er.1 = some (.ref C) ∧ cls = .ref C ∧ er.2.map (·.1) = fs ∧ (fs ≠ [] → ∃ d, dd = some d ∧ ∃ ws, H d = some (.xd ws) ∧ ∀ f x, er.2.lookup f = some x → ∃ v, atom x = some v ∧ ws.lookup f = some v)
/-- what a def that may raise is wished for -/
structure FX where
  f : List D → (D → Prop) → (Er → Prop) → Prop
  mono : ∀ ds P P' Z Z', (∀ d, P d → P' d) → (∀ e, Z e → Z' e) → f ds P Z → f ds P' Z'
def SpX (K : PySem.W.Frag) (mg : Str → Option Value) (ms : List Bool) (F : FX) : Sp := fun vs H Q E => ∃ (G : Hp) (ds : List D), Sub G H ∧ RpM ⟨K, none, H, G⟩ H G ms vs ds ∧
  F.f ds (fun d => ∀ v H' G', Same G G' → Bse none H H' → Sub G' H' → New H G G' → Rp K none G' v d → Q v H') fun er => ∀ cls dd H', Bse none H H' → ErrR K mg er cls dd H' → E cls dd H'
/-- a def's promise, with errors -/
structure FnX (P : Program) (w : World) (K : PySem.W.Frag) (mg : Str → Option Value) (base : Heap) (k : Nat) (f : Addr) (fd : FuncData) (ps : List Str) (sp : Sp) : Prop where
  len : ∀ vs H Q E, sp vs H Q E → vs.length = ps.length
  go : ∀ (A : Around) (callers : List Env) (st : Shared) (H : Hp) (args : Args) (us : List Value) (vs : List V) (Q : VK) (E : XK), Room k A → A.guards = some [] → Env0 P w K mg base A callers st H →
    BindsTo st fd args (ps.zip us) → Vals vs us → sp vs H Q E → codeAny (model P w) A (.call (.ref f) args) (CR (L2.CX P w) callers P w H st Q E) st
section
variable {P : Program} {w : World} {K : PySem.W.Frag} {mg : Str → Option Value} {base : Heap}
end
end DI
/-! A lambda handed to a def, where no object is being shown. -/
namespace DI
open PySem PySem.Spec PyProof.Rows L2 EX LamX
variable [Nm]
/-- what is known of a lambda's text, at its maker -/
structure LamTx (X : Cx) (prm : Arguments) (body : Expr) (sc : Scope) : Prop where
  sco : LamS X.env.scope sc
  plain : defaultsOf prm X.env = ([], [])
  noArg : ∀ (q : Str) (cl : List (Str × Addr)) (u1 u2 u3 : Value), bindArgs (PySem.W.kla_fn "<lambda>" q prm body sc cl u1 u2 u3) ⟨[], []⟩ = pure []
/-- where its maker's code object and the table lie -/
structure LamTb (X : Cx) (T : List (Addr × Str)) : Prop where
  ex : ∃ c P, TabB X.base X.mg c P ∧ X.env.code = .ref c ∧ (P, X.env.qual ++ "<lambda>") ∈ T ∧ ∀ t ∈ T, t.1 = P → t.2 = X.env.qual ++ "<lambda>"
end DI
/-! Errors by data: a def that may raise, raise, and calls of such defs. -/
namespace DI
open PySem PySem.Spec PyProof.Rows L2 EX LamX
variable [Nm]
/-- raise C(e, ..) -/
def wRaise (nm : Str) (fs : List Str) (Z : Er → Prop) (t : WA) : WS := ⟨fun _ s => t.f s fun ds _ => ds.length = fs.length ∧ (∀ d ∈ ds, (atom d).isSome = true) ∧ Z (nm, fs.zip ds), fun _ _ s _ q => q⟩
theorem f_raise {nm fs Z t E s} : (wRaise nm fs Z t).f E s = t.f s fun ds _ => ds.length = fs.length ∧ (∀ d ∈ ds, (atom d).isSome = true) ∧ Z (nm, fs.zip ds) := rfl
def wCallX (F : FX) (Z : Er → Prop) (t : WA) : W := ⟨fun s P => t.f s fun ds s1 => F.f ds (fun d => P d s1) Z, fun s P P' h q => t.mono _ _ _ (fun ds s1 q => F.mono _ _ _ _ _ (fun d q => h _ _ q) (fun _ z => z) q) q⟩
theorem f_callX {F Z t s P} : (wCallX F Z t).f s P = t.f s fun ds s1 => F.f ds (fun d => P d s1) Z := rfl
section
variable {X : Cx} {p : Pl} {e : Expr} {es : List Expr} {ms : List Bool} {t : WA} {pos pos2 pf : Pos} {Z : Er → Prop} {nm : Str} {fs : List Str}
variable {F : FX} {k : Nat} {f : Addr} {fd : FuncData} {ps : List Str} {x : Str} {sp : Sp} {ta : TA} {E : XK}
end
end DI
/-! The law's call, where tables of code objects are known. -/
namespace DI
open PySem PySem.Spec PyProof.Rows L2 LamX
variable [Nm]
section
variable {P : Program} {w : World} {K : PySem.W.Frag} {mg mb : Str → Option Value} {k : Nat} {fa a : Addr} {fd : FuncData} {x : Str} {sp : Sp} {s₁ : Shared} {vs : List Value} {ns : List Int} {TB : List (Addr × Addr)}
end
end DI
/-! A lambda that calls a def which may raise, told by another def: by data. -/
namespace DI
open PySem PySem.Spec PyProof.Rows L2 EX LamX
variable [Nm]
section
variable {p : Pl} {σ : L2.St} {H G H1 : Hp} {s : S} {T : List (Addr × Str)}
/-- behind an error or a call that knows nothing of the draws -/
theorem Bse.any {dr : Option Addr} {H H' : Hp} (b : Bse none H H') : Bse dr H H' := ⟨fun a o _ h n => b.keep a o (fun z => nomatch z) h n, b.tbl, b.tab⟩
mutual
def noDrw : D → Bool
  | .drw => false
  | .lst ds => noDrwA ds
  | .tup ds => noDrwA ds
  | .dct _ ds => noDrwA ds
  | .exc _ _ ds => noDrwA ds
  | _ => true
def noDrwA : List D → Bool
  | [] => true
  | d :: ds => noDrw d && noDrwA ds
end
mutual
theorem Rp.nodr {K : PySem.W.Frag} {dr dr' : Option Addr} {G : Hp} : ∀ {v : V} {d : D}, Rp K dr G v d → noDrw d = true → Rp K dr' G v d
  | _, _, .non, _ => .non
  | _, _, .bl b, _ => .bl b
  | _, _, .int i, _ => .int i
  | _, _, .str x, _ => .str x
  | _, _, .lst h hs, q => .lst h (RpA.nodr hs (by simpa only [noDrw] using q))
  | _, _, .tup h hs, q => .tup h (RpA.nodr hs (by simpa only [noDrw] using q))
  | _, _, .drw h o, q => by simp only [noDrw] at q; cases q
  | _, _, .dic0 h o, _ => .dic0 h o
  | _, _, .dct h e hs, q => .dct h e (RpA.nodr hs (by simpa only [noDrw] using q))
  | _, _, .exc T hc hv h1 h2 h3 hl hs, q => .exc T hc hv h1 h2 h3 hl (RpA.nodr hs (by simpa only [noDrw] using q))
theorem RpA.nodr {K : PySem.W.Frag} {dr dr' : Option Addr} {G : Hp} : ∀ {vs : List V} {ds : List D}, RpA K dr G vs ds → noDrwA ds = true → RpA K dr' G vs ds
  | _, _, .nil, _ => .nil
  | _, _, .cons r t, q => by
    simp only [noDrwA, Bool.and_eq_true] at q
    exact .cons (Rp.nodr r q.1) (RpA.nodr t q.2)
end
end
end DI
/-! found = []; try: deed() except C as error: found = [error.f]; return found -/
namespace DI
open PySem PySem.Spec PyProof.Rows L2 EX LamX
variable [Nm]
theorem Takes.len {X : Cx} {W : WX} (t : Takes X W) : Takes X (fun c d σ H => σ.length = X.N.length → W c d σ H) := fun u s' ⟨a, B, sI, pins, σ, H, cls, d, e, I, nb, up, sky, na, os, ag, w⟩ =>
  t u s' ⟨a, B, sI, pins, σ, H, cls, d, e, I, nb, up, sky, na, os, ag, w I.len⟩
end DI
/-! _law_told(lambda: f(..)) by data: the field of the error in a list, or an empty list. -/
namespace DI
open PySem PySem.Spec PyProof.Rows L2 EX LamX
variable [Nm]
def wTold (F : FX) (cn fld : Str) (t : WA) : W := ⟨fun s P => t.f s fun ds s1 => noDrwA ds = true ∧ F.f ds (fun _ => P (.lst []) s1) fun er => er.1 = cn ∧ er.2 ≠ [] ∧ ∃ d, er.2.lookup fld = some d ∧ P (.lst [d]) s1,
  fun s P P' h q => t.mono _ _ _ (fun ds s1 q => ⟨q.1, F.mono _ _ _ _ _ (fun _ q => h _ _ q) (fun er ⟨e, ne, d, l, q⟩ => ⟨e, ne, d, l, h _ _ q⟩) q.2⟩) q⟩
theorem f_told {F : FX} {cn fld : Str} {t : WA} {s P} : (wTold F cn fld t).f s P = t.f s fun ds s1 => noDrwA ds = true ∧ F.f ds (fun _ => P (.lst []) s1) fun er => er.1 = cn ∧ er.2 ≠ [] ∧ ∃ d, er.2.lookup fld = some d ∧ P (.lst [d]) s1 := rfl
theorem RpM.nodr {K : PySem.W.Frag} {dr : Option Addr} {H0 G0 H G : Hp} {ms : List Bool} {vs : List V} {ds : List D} (hm : ∀ m ∈ ms, m = false) (r : RpM ⟨K, dr, H0, G0⟩ H G ms vs ds) (h : noDrwA ds = true) : RpM ⟨K, none, H, G⟩ H G ms vs ds := by
  have ra := r.all hm
  have hl := r.length
  have go : ∀ {ms : List Bool} {vs : List V} {ds : List D}, (∀ m ∈ ms, m = false) → RpA K none G vs ds → ms.length = vs.length → RpM ⟨K, none, H, G⟩ H G ms vs ds := by
    intro ms
    induction ms with
    | nil =>
      intro vs ds _ ra hl
      cases ra with
      | nil => exact .nil
      | cons _ _ => simp at hl
    | cons m ms ih =>
      intro vs ds hm ra hl
      obtain rfl := hm m List.mem_cons_self
      cases ra with
      | nil => simp at hl
      | cons r t => exact .val r (ih (fun y my => hm y (List.mem_cons_of_mem _ my)) t (by simpa using hl))
  refine go hm (RpA.nodr ra h) ?_
  first | exact hl.1.symm | (rw [hl.1]) | omega
end DI
/-! A law whose lambdas are told: its entry. -/
namespace DI
open PySem PySem.Spec PyProof.Rows L2 EX LamX
variable [Nm]
end DI
/-! A def that may raise, by its name. -/
namespace DI
open PySem PySem.Spec PyProof.Rows L2 EX LamX
variable [Nm]
structure DnX (P : Program) (w : World) (K : PySem.W.Frag) (mg : Str → Option Value) (base : Heap) (k : Nat) (x : Str) (ps : List Str) (F : FX) : Prop where
  ex : ∃ (f : Addr) (fd : FuncData), mg x = some (.ref f) ∧ PySem.W.keepIn K (.ref f) = true ∧ Binds K fd ps [] ∧ FnX P w K mg base k f fd ps (SpX K mg (List.replicate ps.length false) F)
theorem FnX.mono {P : Program} {w : World} {K : PySem.W.Frag} {mg : Str → Option Value} {base : Heap} {j k : Nat} {f : Addr} {fd : FuncData} {ps : List Str} {sp : Sp} (F : FnX P w K mg base j f fd ps sp) (h : j ≤ k) : FnX P w K mg base k f fd ps sp :=
  ⟨F.len, fun A callers st H args us vs Q E hr => F.go A callers st H args us vs Q E (hr.mono h)⟩
section
variable {X : Cx} {p : Pl} {e : Expr} {es : List Expr} {t : WA} {pos pf : Pos} {x : Str} {ps : List Str} {F : FX} {k j : Nat} {Z : Er → Prop}
end
end DI
/-! Expressions that may raise, by data; a lambda of such an expression, told by another def. -/
namespace DI
open PySem PySem.Spec PyProof.Rows L2 EX LamX
variable [Nm]
/-- a reading that may end with an error -/
structure WE where
  go : (Er → S → Prop) → W
  mono : ∀ Z Z' s P, (∀ er s, Z er s → Z' er s) → (go Z).f s P → (go Z').f s P
def weCall (F : FX) (t : WA) : WE := ⟨fun Z => ⟨fun s P => t.f s fun ds s1 => noDrwA ds = true ∧ F.f ds (fun d => P d s1) fun er => Z er s1, fun s P P' h q => t.mono _ _ _ (fun ds s1 q => ⟨q.1, F.mono _ _ _ _ _ (fun d q => h _ _ q) (fun _ z => z) q.2⟩) q⟩,
  fun Z Z' s P h q => t.mono _ _ _ (fun ds s1 q => ⟨q.1, F.mono _ _ _ _ _ (fun d q => q) (fun _ z => h _ _ z) q.2⟩) q⟩
/-- a def that may raise, by its name, called by position or by keywords -/
structure DnY (P : Program) (w : World) (K : PySem.W.Frag) (mg : Str → Option Value) (base : Heap) (k : Nat) (x : Str) (ps : List Str) (F : FX) : Prop where
  ex : ∃ (f : Addr) (fd : FuncData), mg x = some (.ref f) ∧ PySem.W.keepIn K (.ref f) = true ∧ Binds K fd ps [] ∧ (∀ (s : Shared) (ws : List Value), ws.length = ps.length → BindsTo s fd ⟨[], ps.zip ws⟩ (ps.zip ws)) ∧ FnX P w K mg base k f fd ps (SpX K mg (List.replicate ps.length false) F)
theorem DnY.x {P : Program} {w : World} {K : PySem.W.Frag} {mg : Str → Option Value} {base : Heap} {k : Nat} {x : Str} {ps : List Str} {F : FX} (D : DnY P w K mg base k x ps F) : DnX P w K mg base k x ps F := by
  obtain ⟨f, fd, h1, h2, h3, h4, h5⟩ := D.ex
  exact ⟨f, fd, h1, h2, h3, h5⟩
mutual
theorem Rp.up {K : PySem.W.Frag} {dr : Option Addr} {G : Hp} : ∀ {v : V} {d : D}, Rp K none G v d → Rp K dr G v d
  | _, _, .non => .non
  | _, _, .bl b => .bl b
  | _, _, .int i => .int i
  | _, _, .str x => .str x
  | _, _, .lst h hs => .lst h (RpA.up hs)
  | _, _, .tup h hs => .tup h (RpA.up hs)
  | _, _, .drw h o => nomatch h
  | _, _, .dic0 h o => .dic0 h o
  | _, _, .dct h e hs => .dct h e (RpA.up hs)
  | _, _, .exc T hc hv h1 h2 h3 hl hs => .exc T hc hv h1 h2 h3 hl (RpA.up hs)
theorem RpA.up {K : PySem.W.Frag} {dr : Option Addr} {G : Hp} : ∀ {vs : List V} {ds : List D}, RpA K none G vs ds → RpA K dr G vs ds
  | _, _, .nil => .nil
  | _, _, .cons r t => .cons (Rp.up r) (RpA.up t)
end
section
variable {X : Cx} {p : Pl} {e : Expr} {es : List Expr} {t : WA} {pos pf : Pos} {x : Str} {ps : List Str} {F : FX} {k j : Nat} {V : WX}
end
/-! ### told by another def -/
/-- found = []; .. except C as error: found = [what rd makes of its fields] -/
def TTr (K : PySem.W.Frag) (CS : Addr) (rd : List (Str × V) → Hp → VK → Prop) : (XK → Hp → VK → Prop) → Hp → VK → Prop := fun tl H Q => ∀ L0, H L0 = none →
  tl (fun cls d H' => PySem.W.exmOne K cls (.ref CS) = some true ∧ cls = .ref CS ∧ ∃ dd fs, d = some dd ∧ H' dd = some (.xd fs) ∧ rd fs H' Q) (upd H L0 (.lst [])) fun _ H' => Q (.ref L0) H'
def RdOk (rd : List (Str × V) → Hp → VK → Prop) (mk : List (Str × D) → Option D) : Prop := ∀ (p : Pl) (σ : L2.St) (H G : Hp) (s : S) (er : List (Str × D)) (ws : List (Str × V)) (d : D) (Q : VK), p.Rs σ H G s →
  (∀ f x, er.lookup f = some x → ∃ v, atom x = some v ∧ ws.lookup f = some v) → mk er = some d → (∀ v H' G', Same G G' → p.Rs σ H' G' s → p.Rp G' v d → Q v H') → rd ws H Q
/-- a def like _law_told, by its name: the class it catches, what it makes of the fields -/
structure Td (K : PySem.W.Frag) (mg : Str → Option Value) (nm cn : Str) (mk : List (Str × D) → Option D) : Prop where
  ex : ∃ (a v en : Str) (g CS : Addr) (fd : FuncData) (st : Stmt) (rd : List (Str × V) → Hp → VK → Prop), Fun K nm nm st g fd ∧ mg nm = some (.ref g) ∧ L2.Binds K fd [a] [] ∧ FnScope [a, v, en] [a] (defScope st) ∧ Vis (defScope st) a ∧ ((a == ("__debug__" : Str)) = false ∧ (a == ("__classdict__" : Str)) = false) ∧
    mg cn = some (.ref CS) ∧ PySem.W.exmOne K (.ref CS) (.ref CS) = some true ∧ RdOk rd mk ∧ ∀ (X : Cx) (q : Str) (cdv : Value), X.K = K → X.mg = mg → GivesTo X [a, v, en] nm (defScope st) g cdv (defBody st) a q (TTr K CS rd)
def wTl (cn : Str) (mk : List (Str × D) → Option D) (we : WE) : W := ⟨fun s P => (we.go fun er s1 => er.1 = cn ∧ er.2 ≠ [] ∧ ∃ d, mk er.2 = some d ∧ P d s1).f s fun _ s1 => P (.lst []) s1,
  fun s P P' h q => we.mono _ _ _ _ (fun er s1 ⟨a, b, d, c, q⟩ => ⟨a, b, d, c, h _ _ q⟩) ((we.go _).mono _ _ _ (fun _ s1 q => h _ _ q) q)⟩
end DI
/-! Defs like _law_told found, and the facts of a law with lambdas. -/
namespace DI
open PySem PySem.Spec PyProof.Rows L2 EX LamX
variable [Nm]
end DI
/-! Lambdas of a def whose table of code objects is known: all else stays. -/
namespace DI
open PySem PySem.Spec PyProof.Rows L2 EX LamX
variable [Nm]
/-- a def with lambdas: its code object, and its table, named as it must be -/
structure LamD (K : PySem.W.Frag) (mg : Str → Option Value) (base : Heap) (code : Value) (qual : Str) (P : Addr) : Prop where
  ex : ∃ c, TabB base mg c P ∧ code = .ref c
  nm : Nm.nm P = qual ++ "<lambda>"
end DI
/-! Defs that know tables of code objects. -/
namespace DI
open PySem PySem.Spec PyProof.Rows L2 EX LamX
variable [Nm]
/-- these tables bear the names that they must -/
def Tbs (TB : List Addr) (H : Hp) : Prop := ∀ P ∈ TB, TabS H P (Nm.nm P)
def SpT (K : PySem.W.Frag) (TB : List Addr) (dr : Option Addr) (ms : List Bool) (F : FT) : Sp := fun vs H Q E => Tbs TB H ∧ SpD K dr ms F vs H Q E
structure DnT (P : Program) (w : World) (K : PySem.W.Frag) (mg : Str → Option Value) (base : Heap) (TB : List Addr) (k : Nat) (x : Str) (ps : List Str) (F : FT) : Prop where
  ex : ∃ (f : Addr) (fd : FuncData), mg x = some (.ref f) ∧ PySem.W.keepIn K (.ref f) = true ∧ Binds K fd ps [] ∧ ∀ dr, FnG P w K mg base k f fd ps (SpT K TB dr (List.replicate ps.length false) F)
section
variable {X : Cx} {p : Pl} {e : Expr} {es : List Expr} {ms : List Bool} {t : WA} {pos pf : Pos} {TB : List Addr} {x : Str} {ps : List Str} {F : FT} {k j : Nat}
end
def flX (F : FX) (ds : List D) (P : D → Prop) (Z : Er → Prop) (_ : Tg P) (_ : Tg Z) : Prop := F.f ds P Z
theorem f_wtl {cn : Str} {mk : List (Str × D) → Option D} {F : FX} {t : WA} {s P} : (wTl cn mk (weCall F t)).f s P = t.f s fun ds s1 => noDrwA ds = true ∧ flX F ds (fun _ => P (.lst []) s1) (fun er => er.1 = cn ∧ er.2 ≠ [] ∧ ∃ d, mk er.2 = some d ∧ P d s1) Tg.mk Tg.mk := rfl
end DI
/-! tuple * int and str * int; list + list for a name of its own. -/
namespace DI
open PySem PySem.Spec PyProof.Rows L2 EX
variable [Nm]
section
variable {X : Cx} {p : Pl} {a b e : Expr} {pos : Pos} {wa wb : W}
def wCatO (wa wb : W) : WA := ⟨fun s P => wa.f s fun d1 s1 => wb.f s1 fun d2 s2 => get (lstD d1) fun xs => get (lstD d2) fun ys => xs.length + ys.length ≤ sizeLine ∧ P (xs ++ ys) s2,
  fun s P P' h q => wa.mono _ _ _ (fun d1 s1 q => wb.mono _ _ _ (fun d2 s2 q => get_mono (fun xs q => get_mono (fun ys q => ⟨q.1, h _ _ q.2⟩) q) q) q) q⟩
theorem f_catO {s P} : (wCatO wa wb).f s P = (wa.f s fun d1 s1 => wb.f s1 fun d2 s2 => get (lstD d1) fun xs => get (lstD d2) fun ys => xs.length + ys.length ≤ sizeLine ∧ P (xs ++ ys) s2) := rfl
end
end DI
/-! try: f(..) except C as e: x = e.f, by data. -/
namespace DI
open PySem PySem.Spec PyProof.Rows L2 EX LamX
variable [Nm]
theorem Rs.empty {p : Pl} {σ : L2.St} {H G : Hp} {s : S} {j : Nat} {o : Option V} (R : p.Rs σ H G s) : p.Rs (σ.set j o) H G { s with env := s.env.set j .emp } := by
  have back : ∀ {k : Nat} {x : Sl}, (s.env.set j .emp)[k]? = some x → x ≠ .emp → k ≠ j ∧ s.env[k]? = some x := fun {k x} e ne => by
    by_cases h : j = k
    · subst h
      by_cases hj : j < s.env.length
      · rw [List.getElem?_set_self hj] at e
        cases e
        exact absurd rfl ne
      · rw [List.getElem?_eq_none (by rw [List.length_set]; omega)] at e
        cases e
    · rw [List.getElem?_set_ne h] at e
      exact ⟨fun z => h z.symm, e⟩
  have same : ∀ {k : Nat}, k ≠ j → (σ.set j o)[k]? = σ[k]? := fun {k} h => List.getElem?_set_ne (Ne.symm h)
  refine ⟨R.sub, R.base, R.new, by simp [R.len], fun i x hx => ?_, fun i k q ds es hik e1 e2 e3 => ?_, fun i k q ks ls ds es hik e1 e2 e3 => ?_, R.drw⟩
  · cases x with
    | emp => trivial
    | val d =>
      obtain ⟨n, e⟩ := back hx (fun z => nomatch z)
      rw [same n]
      exact R.slot i _ e
    | own d =>
      obtain ⟨n, e⟩ := back hx (fun z => nomatch z)
      rw [same n]
      exact R.slot i _ e
    | bor d =>
      obtain ⟨n, e⟩ := back hx (fun z => nomatch z)
      rw [same n]
      exact R.slot i _ e
    | dic ks d =>
      obtain ⟨n, e⟩ := back hx (fun z => nomatch z)
      rw [same n]
      exact R.slot i _ e
  · obtain ⟨n1, e1'⟩ := back e1 (fun z => nomatch z)
    obtain ⟨n2, e2'⟩ := back e2 (fun z => nomatch z)
    rw [same n1] at e3
    rw [same n2]
    exact R.inj i k q ds es hik e1' e2' e3
  · obtain ⟨n1, e1'⟩ := back e1 (fun z => nomatch z)
    obtain ⟨n2, e2'⟩ := back e2 (fun z => nomatch z)
    rw [same n1] at e3
    rw [same n2]
    exact R.injD i k q ks ls ds es hik e1' e2' e3
def wTry1 (cn fld : Str) (iv j : Nat) (we : WE) : WS := ⟨fun E s => (we.go fun er s1 => er.1 = cn ∧ er.2 ≠ [] ∧ ∃ d, er.2.lookup fld = some d ∧ iv < s1.env.length ∧ j < s1.env.length ∧ E.nx { s1 with env := ((s1.env.set j .emp).set iv (.val d)).set j .emp }).f s fun _ s1 => E.nx s1,
  fun E E' s h q => we.mono _ _ _ _ (fun er s1 ⟨a, b, d, c, l, l2, q⟩ => ⟨a, b, d, c, l, l2, h.nx _ q⟩) ((we.go _).mono _ _ _ (fun _ s1 q => h.nx _ q) q)⟩
theorem f_try1 {cn fld : Str} {iv j : Nat} {F : FX} {t : WA} {E : ED} {s : S} : (wTry1 cn fld iv j (weCall F t)).f E s = t.f s fun ds s1 => noDrwA ds = true ∧ flX F ds (fun _ => E.nx s1) (fun er => er.1 = cn ∧ er.2 ≠ [] ∧ ∃ d, er.2.lookup fld = some d ∧ iv < s1.env.length ∧ j < s1.env.length ∧ E.nx { s1 with env := ((s1.env.set j .emp).set iv (.val d)).set j .emp }) Tg.mk Tg.mk := rfl
end DI
/-! Lambdas with one parameter that is never passed: lambda x=0: f(..). -/
namespace DI
open PySem PySem.Spec PyProof.Rows L2 EX LamX
variable [Nm]
/-- one name of its own, which no slot bears -/
structure LamS1 (N : List Str) (sc scope : Scope) (px : Str) : Prop where
  kind : scope.kind = .function
  co : scope.isCoroutine = false
  gen : scope.isGenerator = false
  own : ∀ y ∈ scope.names, y.2 ≠ .cell ∧ (y.2 = .local → y.1 = px)
  par : scope.names.lookup px = some .local
  out : px ∉ N
  free : ∀ y ∈ scope.names, y.2 = .free → sc.names.lookup y.1 = some .cell ∨ sc.names.lookup y.1 = some .free
theorem LamS1.has {X : Cx} {N : List Str} {scope : Scope} {px : Str} (L : LamS1 N X.env.scope scope px) (ok : X.Ok) : ∀ y ∈ scope.names, y.2 = .free → ∃ c, X.env.cells.lookup y.1 = some c := fun y hy e => by
  rcases L.free y hy e with k | k
  · exact ok.has _ (.inl k)
  · exact ok.has _ (.inr k)
/-- what is known of the text of a lambda with a default -/
structure LamTx1 (X : Cx) (prm : Arguments) (body : Expr) (sc : Scope) : Prop where
  ex : ∃ (px : Str) (i : Int) (k : Nat) (pp : Pos), LamS1 X.N X.env.scope sc px ∧ prm.defaults = [.Constant (.int i) k pp] ∧ prm.kw_defaults = [] ∧
    ∀ (q : Str) (cl : List (Str × Addr)) (dV u0 u1 u2 u3 : Value), ∃ kk : Option (Array Value) → Sem (List (Str × Value)), bindArgs (PySem.W.kdv_fn "<lambda>" q prm (.expr body) sc cl dV u0 u1 u2 u3) ⟨[], []⟩ = seqItems? dV >>= kk ∧ ∀ v, kk (some #[v]) = pure [(px, v)]
end DI
/-! xs[::-1] of a tuple. -/
namespace HT
open PySem PySem.Spec PyProof.Rows PyProof
section
variable {prog : Program} {w : World} {A : Around} {E : Value → Shared → Prop} {s : Shared}
end
end HT
namespace L2
open PySem PySem.Spec PyProof.Rows
section
variable {X : Cx}
end
end L2
namespace DI
open PySem PySem.Spec PyProof.Rows L2 EX
variable [Nm]
section
variable {X : Cx} {p : Pl} {a : Expr} {wa : W} {pos : Pos}
def wRevT (wa : W) : W := ⟨fun s P => wa.f s fun d s1 => get (tupD d) fun ds => P (.tup ds.reverse) s1, fun s P P' h q => wa.mono _ _ _ (fun d s1 q => get_mono (fun z => h _ s1) q) q⟩
theorem f_wRevT {s P} : (wRevT wa).f s P = wa.f s fun d s1 => get (tupD d) fun ds => P (.tup ds.reverse) s1 := rfl
end
end DI
/-! not in over nested data; a list that a call gives, as a slot's own. -/
namespace L2
open PySem PySem.Spec PyProof.Rows
section
variable {X : Cx}
end
end L2
namespace DI
open PySem PySem.Spec PyProof.Rows L2 EX
variable [Nm]
section
variable {X : Cx} {p : Pl}
end
/-! ### a list that a call gives -/
theorem RpA.flat {K : PySem.W.Frag} {dr dr' : Option Addr} {G G' : Hp} : ∀ {vs : List V} {ds : List D}, ds.all flatD = true → RpA K dr G vs ds → RpA K dr' G' vs ds
  | _, _, _, .nil => .nil
  | _ :: _, d :: _, h, .cons r t => by
    rw [List.all_cons, Bool.and_eq_true] at h
    refine .cons ?_ (RpA.flat h.2 t)
    cases d <;> simp only [flatD, Bool.false_eq_true, false_and] at h
    · cases r; exact .non
    · cases r; exact .bl _
    · cases r; exact .int _
    · cases r; exact .str _
def rowD0 : D → Bool
  | .tup ds => ds.all flatD
  | _ => false
/-- a list of flat rows stays as it is where a heap is cut -/
theorem RpA.rows {K : PySem.W.Frag} {dr dr' : Option Addr} {G G' : Hp} (e : ∀ q xs, SqT K G q xs → SqT K G' q xs) : ∀ {vs : List V} {ds : List D}, ds.all rowD0 = true → RpA K dr G vs ds → RpA K dr' G' vs ds
  | _, _, _, .nil => .nil
  | _ :: _, d :: _, h, .cons r t => by
    rw [List.all_cons, Bool.and_eq_true] at h
    refine .cons ?_ (RpA.rows e h.2 t)
    cases d <;> simp only [rowD0, Bool.false_eq_true, false_and] at h
    cases r with
    | tup hq hk => exact .tup (e _ _ hq) (hk.flat h.1)
open Classical in
/-- f(t), t a flat tuple: a list of flat rows, no one else's -/
def wOwnC (F : FT) (t : WA) : WA := ⟨fun s P => t.f s fun ds s1 => (∃ os, ds = [.tup os] ∧ os.all flatD = true) ∧ F.f ds s1.n fun d _ => ∃ es, d = .lst es ∧ es.all rowD0 = true ∧ P es s1,
  fun s P P' h q => t.mono _ _ _ (fun ds s1 q => ⟨q.1, F.mono _ _ _ _ (fun d m ⟨es, e, r, q⟩ => ⟨es, e, r, h _ _ q⟩) q.2⟩) q⟩
theorem f_wOwnC {F : FT} {t : WA} {s P} : (wOwnC F t).f s P = t.f s fun ds s1 => (∃ os, ds = [.tup os] ∧ os.all flatD = true) ∧ F.f ds s1.n fun d _ => ∃ es, d = .lst es ∧ es.all rowD0 = true ∧ P es s1 := rfl
section
variable {X : Cx} {p : Pl} {e : Expr} {t : WA} {pos pf : Pos} {x : Str} {ps : List Str} {F : FT} {k j : Nat}
open Classical in
end
end DI
/-! x, y, z = a, b, [] and x, y, z = [], b, []: own lists among three. -/
namespace DI
open PySem PySem.Spec PyProof.Rows L2
variable [Nm]
def wPar3a (i j l : Nat) (wa wb : W) : WS := ⟨fun E s => wa.f s fun d1 s1 => wb.f s1 fun d2 s2 => i < s2.env.length ∧ j < s2.env.length ∧ l < s2.env.length ∧ E.nx { s2 with env := ((s2.env.set i (.val d1)).set j (.val d2)).set l (.own []) },
  fun E E' s h q => wa.mono _ _ _ (fun d1 s1 q => wb.mono _ _ _ (fun d2 s2 q => ⟨q.1, q.2.1, q.2.2.1, h.nx _ q.2.2.2⟩) q) q⟩
def wPar3b (i j l : Nat) (c : Int) : WS := ⟨fun E s => i < s.env.length ∧ j < s.env.length ∧ l < s.env.length ∧ E.nx { s with env := ((s.env.set i (.own [])).set j (.val (.int c))).set l (.own []) },
  fun E E' s h q => ⟨q.1, q.2.1, q.2.2.1, h.nx _ q.2.2.2⟩⟩
theorem f_wPar3a {E s} {i j l : Nat} {wa wb : W} : (wPar3a i j l wa wb).f E s = wa.f s fun d1 s1 => wb.f s1 fun d2 s2 => i < s2.env.length ∧ j < s2.env.length ∧ l < s2.env.length ∧ E.nx { s2 with env := ((s2.env.set i (.val d1)).set j (.val d2)).set l (.own []) } := rfl
theorem f_wPar3b {E s} {i j l : Nat} {c : Int} : (wPar3b i j l c).f E s = (i < s.env.length ∧ j < s.env.length ∧ l < s.env.length ∧ E.nx { s with env := ((s.env.set i (.own [])).set j (.val (.int c))).set l (.own []) }) := rfl
section
variable {X : Cx} {p : Pl} {pos : Pos} {a b : Expr} {wa wb : W}
end
end DI
/-! a, b, .. = xs, xs a list. -/
namespace UL
open PySem PySem.Spec PyProof.Rows PyProof
section
variable {prog : Program} {w : World} {A : Around} {E : Value → Shared → Prop} {s : Shared}
end
end UL
namespace L2
open PySem PySem.Spec PyProof.Rows
section
variable {X : Cx} {pos : Pos}
end
end L2
namespace DI
open PySem PySem.Spec PyProof.Rows L2
variable [Nm]
section
variable {X : Cx} {p : Pl} {es : List Expr} {pos : Pos}
def gLs (n : Nat) (gs : List D → List Sl → Option (List Sl)) : D → List Sl → Option (List Sl)
  | .lst ds, env => if ds.length = n then gs ds env else none
  | _, _ => none
/-- isinstance(x, T), x a slot's own list -/
def wIsiV (T : String) (i : Nat) : W := ⟨fun s P => get (vget s.env i) fun d => get (gIsi T d) fun z => P z s, fun s P P' h q => get_mono (fun d q => get_mono (fun z => h z s) q) q⟩
theorem f_wIsiV {T : String} {i : Nat} {s P} : (wIsiV T i).f s P = get (vget s.env i) fun d => get (gIsi T d) fun z => P z s := rfl
end
end DI
/-! Calls without arguments. -/
namespace DI
open PySem PySem.Spec PyProof.Rows L2
variable [Nm]
section
variable {X : Cx} {p : Pl} {k : Nat} {f : Addr} {fd : FuncData} {sp : Sp} {x : Str} {pos pf : Pos} {F : FT}
theorem pe_callG0 (G : FnG X.prog X.w X.K X.mg X.base k f fd [] sp) (room : Room k X.A) (hga : X.A.guards = some []) (hm : X.mg x = some (.ref f)) (hk : PySem.W.keepIn X.K (.ref f) = true) (hb : Binds X.K fd [] []) (hg : Gl X x := by rfl)
    (hdb : (x == ("__debug__" : Str)) = false := by decide) : PE X (.Call (.Name x pf) [] [] pos) (fun σ H Q => sp [] H Q E0) := by
  refine ⟨fun pins st σ H Q I h => wpAny_Call_Name_kw (ld_glob I hg hm ?_ hdb)⟩
  exact PySem.W.callWith_K0 I.kIn hk (run_fng (us := []) (vs := []) G room hga hb I .nil h)
theorem pd_cl0 (D : Dn X.prog X.w X.K X.mg X.base k x [] F) {j : Nat} (hr : Room j X.A) (hj : k ≤ j) (hga : X.A.guards = some []) (hK : p.K = X.K := by rfl) (hg : Gl X x := by rfl)
    (hdb : (x == ("__debug__" : Str)) = false := by decide) : PE X (.Call (.Name x pf) [] [] pos) (lift p (wCall F waNil)) := by
  obtain ⟨f, fd, h1, h2, h3, h4, h5⟩ := D.ex
  have ok := h5 p.dr
  rw [← hK] at ok
  refine PE.imp (pe_callG0 (h5 p.dr) (hr.mono hj) hga h1 h2 h3 hg hdb) fun σ H Q h => ?_
  rw [← hK]
  have q := call_lift (ms := []) σ H Q h
  obtain ⟨G, s, R, kk⟩ := q
  exact kk [] H G (Same.refl G) R .nil
end
end DI
/-! The check of a row of octets, and the program's going by pairs. -/
namespace AR
open L2
variable [DI.Nm]
def oct (n : Int) : Prop := 0 ≤ n ∧ n ≤ 255
def stepC (c o : Int) : Int := (c * 257 + o + 1) % 4294967291
def chk (c : Int) (ns : List Int) : Int := ns.foldl stepC c
/-- a row as the digits of a number to the base f -/
def hor (f : Int) (acc : Int) (row : List Int) : Int := row.foldl (fun a x => a * f + x) acc
theorem hor_cons (f acc x : Int) (row : List Int) : hor f acc (x :: row) = hor f (acc * f + x) row := rfl
theorem chk_range {c : Int} (h : 0 ≤ c ∧ c < 4294967291) : ∀ ns, 0 ≤ chk c ns ∧ chk c ns < 4294967291 := by
  intro ns
  induction ns generalizing c with
  | nil => exact h
  | cons a t ih => exact ih (c := stepC c a) (by unfold stepC; omega)
theorem mulmod {a b f : Int} (h : a % 4294967291 = b % 4294967291) : (a * f) % 4294967291 = (b * f) % 4294967291 := by
  rw [Int.mul_emod, h, ← Int.mul_emod]
theorem mulmod2 {a f g : Int} (h : f % 4294967291 = g % 4294967291) : (a * f) % 4294967291 = (a * g) % 4294967291 := by
  rw [Int.mul_emod, h, ← Int.mul_emod]
theorem addmod {a b x y : Int} (h : a % 4294967291 = b % 4294967291) (k : x % 4294967291 = y % 4294967291) : (a + x) % 4294967291 = (b + y) % 4294967291 := by
  rw [Int.add_emod, h, k, ← Int.add_emod]
theorem chk_hor : ∀ (ns : List Int) (c d : Int), c % 4294967291 = d % 4294967291 → chk c ns % 4294967291 = hor 257 d (ns.map (· + 1)) % 4294967291
  | [], _, _, h => h
  | o :: ns, c, d, h => by
    refine chk_hor ns (stepC c o) (d * 257 + (o + 1)) ?_
    unfold stepC
    rw [show c * 257 + o + 1 = c * 257 + (o + 1) from by omega]
    show (c * 257 + (o + 1)) % 4294967291 % 4294967291 = _
    rw [Int.emod_emod]
    exact addmod (mulmod h) rfl
/-- the pairs of a row of an even length -/
def prs (f : Int) (row : List Int) : List Int := List.zipWith (fun h l => (h * f + l) % 4294967291) (evn row) (evn (row.drop 1))
theorem evn_odd {α : Type} : ∀ (a b : α) (t : List α), evn ((a :: b :: t).drop 1) = b :: evn (t.drop 1)
  | a, b, [] => rfl
  | a, b, c :: t => rfl
theorem prs_cons (f a b : Int) (t : List Int) : prs f (a :: b :: t) = (a * f + b) % 4294967291 :: prs f t := by
  unfold prs
  rw [evn_odd]
  rfl
theorem prs_hor (f : Int) : ∀ (n : Nat) (row : List Int) (a b : Int), row.length = 2 * n → a % 4294967291 = b % 4294967291 → hor (f * f % 4294967291) a (prs f row) % 4294967291 = hor f b row % 4294967291
  | 0, row, a, b, hl, h => by
    have e : row = [] := List.length_eq_zero_iff.mp (by omega)
    subst e
    exact h
  | n + 1, [], _, _, hl, _ => by simp at hl
  | n + 1, [_], _, _, hl, _ => by simp at hl; omega
  | n + 1, x :: y :: t, a, b, hl, h => by
    rw [prs_cons, hor_cons, hor_cons, hor_cons]
    refine prs_hor f n t _ _ (by simp at hl; omega) ?_
    have e1 : (a * (f * f % 4294967291)) % 4294967291 = (b * (f * f)) % 4294967291 := (mulmod h).trans (mulmod2 (Int.emod_emod _ _))
    have e2 : (b * f + x) * f + y = b * (f * f) + (x * f + y) := by
      rw [Int.add_mul, Int.mul_assoc, Int.add_assoc]
    rw [e2]
    exact addmod e1 (Int.emod_emod _ _)
theorem prs_len (f : Int) (row : List Int) : (prs f row).length = row.length / 2 := by
  unfold prs
  rw [List.length_zipWith, evn_len, evn_len, List.length_drop]
  omega
theorem prs_range (f : Int) (row : List Int) : ∀ x ∈ prs f row, 0 ≤ x ∧ x < 4294967291 := by
  intro x hx
  unfold prs at hx
  obtain ⟨i, hi⟩ := List.mem_iff_getElem?.mp hx
  rw [List.getElem?_zipWith] at hi
  split at hi
  · cases hi
    exact ⟨Int.emod_nonneg _ (by decide), Int.emod_lt_of_pos _ (by decide)⟩
  · cases hi
theorem prs_zero (f : Int) (row : List Int) : hor f 0 (0 :: row) = hor f 0 row := by
  rw [hor_cons]
  simp
end AR
/-! What the defs of octets say, by data. -/
namespace AR
open PySem PySem.Spec PyProof.Rows L2 DI
variable [DI.Nm]
abbrev oc (ns : List Int) : List D := ns.map D.int
def isOct : D → Bool
  | .int i => decide (0 ≤ i) && decide (i ≤ 255)
  | _ => false
/-- the index of the first one that is no octet -/
def oddAt : Nat → List D → D
  | _, [] => .non
  | k, d :: ds => if isOct d then oddAt (k + 1) ds else .int (k : Int)
/-- isinstance can be asked of it -/
def tyOk (d : D) : Prop := ∃ t, tyD d = some t
abbrev F__law_next : FT := fNext
abbrev F__law_mixed : FT := fMix
def F__first_odd : FT := ⟨fun ds n Q => ∃ xs, ds = [.tup xs] ∧ (∀ x ∈ xs, tyOk x) ∧ Q (oddAt 0 xs) n, fun ds n P P' h ⟨xs, e, t, q⟩ => ⟨xs, e, t, h _ _ q⟩⟩
theorem oddAt_oc {ns : List Int} (h : ∀ o ∈ ns, oct o) (k : Nat) : oddAt k (oc ns) = .non := by
  induction ns generalizing k with
  | nil => rfl
  | cons a t ih =>
    have ha := h a List.mem_cons_self
    unfold oct at ha
    show (if isOct (.int a) then oddAt (k + 1) (oc t) else .int (k : Int)) = .non
    rw [if_pos (by simp [isOct, ha.1, ha.2])]
    exact ih (fun o m => h o (List.mem_cons_of_mem _ m)) (k + 1)
theorem tyOk_oc (ns : List Int) : ∀ x ∈ oc ns, tyOk x := fun x m => by
  obtain ⟨o, _, rfl⟩ := List.mem_map.mp m
  exact ⟨"int", rfl⟩
def F_running_check : FT := ⟨fun ds n Q => ∃ c ns s, ds = [.int c, s] ∧ seqD s = some (oc ns) ∧ 0 ≤ c ∧ c < 4294967291 ∧ (∀ o ∈ ns, oct o) ∧ ns.length ≤ 15000000 ∧ Q (.int (chk c ns)) n, fun ds n P P' h ⟨c, ns, s, e, a, b, x, o, l, q⟩ => ⟨c, ns, s, e, a, b, x, o, l, h _ _ q⟩⟩
def F_require_data : FT := ⟨fun ds n Q => ∃ ns, ds = [.tup (oc ns)] ∧ (∀ o ∈ ns, oct o) ∧ Q .non n, fun ds n P P' h ⟨ns, e, o, q⟩ => ⟨ns, e, o, h _ _ q⟩⟩
end AR
/-! Checks of two rows. -/
namespace AR
open PySem PySem.Spec PyProof.Rows L2 DI
variable [DI.Nm]
def pw : Nat → Int
  | 0 => 1
  | n + 1 => pw n * 257 % 4294967291
theorem chk_pw : ∀ (ns : List Int) (c d : Int), 0 ≤ c → c < 4294967291 → 0 ≤ d → d < 4294967291 → (chk c ns - chk d ns) % 4294967291 = ((c - d) * pw ns.length) % 4294967291 := by
  have go : ∀ (ns : List Int) (c d x : Int), (chk c ns - chk d ns) % 4294967291 = ((c - d) * pw ns.length) % 4294967291 := by
    intro ns
    induction ns with
    | nil => intro c d x; simp [chk, pw]
    | cons a t ih =>
      intro c d x
      have z := ih (stepC c a) (stepC d a) 0
      show (chk (stepC c a) t - chk (stepC d a) t) % 4294967291 = _
      rw [z]
      have e1 : ((stepC c a - stepC d a) * pw t.length) % 4294967291 = (((c - d) * 257) * pw t.length) % 4294967291 := by
        rw [Int.mul_emod]
        have e2 : (stepC c a - stepC d a) % 4294967291 = ((c - d) * 257) % 4294967291 := by
          unfold stepC
          omega
        rw [e2, ← Int.mul_emod]
      rw [e1, List.length_cons]
      show _ = ((c - d) * (pw t.length * 257 % 4294967291)) % 4294967291
      rw [Int.mul_emod (c - d) (pw t.length * 257 % 4294967291), Int.emod_emod, ← Int.mul_emod]
      congr 1
      rw [Int.mul_assoc, Int.mul_comm 257]
  intro ns c d _ _ _ _
  exact go ns c d 0
theorem pw_range : ∀ n, 0 ≤ pw n ∧ pw n < 4294967291
  | 0 => by decide
  | n + 1 => by
    show 0 ≤ pw n * 257 % 4294967291 ∧ pw n * 257 % 4294967291 < 4294967291
    omega
end AR
/-! Numbers, names and entries: what the defs say, over lists of ints. -/
namespace AR
open PySem PySem.Spec PyProof.Rows L2 DI
variable [DI.Nm]
theorem blsOf_map {α : Type} (f : α → Bool) : ∀ l : List α, blsOf (l.map fun x => D.bl (f x)) = some (l.map f)
  | [] => rfl
  | a :: l => by
    show (blsOf (l.map fun x => D.bl (f x))).map (f a :: ·) = _
    rw [blsOf_map f l]
    rfl
theorem strsOf_map {α : Type} (f : α → Str) : ∀ l : List α, strsOf (l.map fun x => D.str (f x)) = some (l.map f)
  | [] => rfl
  | a :: l => by
    show (strsOf (l.map fun x => D.str (f x))).map (f a :: ·) = _
    rw [strsOf_map f l]
    rfl
theorem slen (z : Str) : z.length = z.cps.toList.length := by show z.cps.size = _; simp
theorem chrs_eq (z : Str) : chrs z = z.cps.toList.map fun c => .str ⟨#[c]⟩ := rfl
theorem all_map' {α : Type} (f : α → Bool) (l : List α) : (l.map f).all (fun b => b) = l.all f := by
  rw [List.all_map]
  rfl
def numb (os : List Int) : Int := os.foldl (fun a o => a * 256 + o) 0
def numO : Nat → Int → List Int
  | 0, _ => []
  | k + 1, n => numO k (n / 256) ++ [n % 256]
def codes (z : Str) : List Int := z.cps.toList.map fun (c : Nat) => (c : Int)
def sgn (o : Int) : Nat := if o = 10 then 10 else if 32 ≤ o ∧ o ≤ 126 ∧ o ≠ 37 then o.toNat else 9
def sign (o : Int) : Str := ⟨#[sgn o]⟩
def txt (os : List Int) : Str := ⟨(os.map sgn).toArray⟩
def nameCh (c : Nat) : Bool := (decide (97 ≤ c) && decide (c ≤ 122)) || (decide (45 ≤ c) && decide (c ≤ 57))
def isName (z : Str) : Bool := decide (1 ≤ z.length) && decide (z.length ≤ 40) && z.cps.toList.all nameCh
def isNameD : D → Bool
  | .str z => isName z
  | _ => false
def nmAt (os : List Int) (at_ : Nat) : Option Str := match os[at_]? with
  | none => none
  | some k => if ((txt (cutL os (some ((at_ : Int) + 1)) (some ((at_ : Int) + 1 + k)))).length : Int) = k ∧ isName (txt (cutL os (some ((at_ : Int) + 1)) (some ((at_ : Int) + 1 + k)))) = true then some (txt (cutL os (some ((at_ : Int) + 1)) (some ((at_ : Int) + 1 + k)))) else none
def optS : Option Str → D
  | none => .non
  | some z => .str z
def ent (z : Str) (p : List Int) : List Int := [66, 80, 69] ++ ((z.length : Int) :: codes z) ++ numO 3 p.length ++ numO 4 (chk 7 p) ++ p
abbrev NS : Str := "abcdefghijklmnopqrstuvwxyz0123456789./-"
abbrev SG : Str := " !\"#$\t&'()*+,-./0123456789:;<=>?@ABCDEFGHIJKLMNOPQRSTUVWXYZ[\\]^_`abcdefghijklmnopqrstuvwxyz{|}~"
theorem inNS (c : Nat) : inStr ⟨#[c]⟩ NS = nameCh c := by
  unfold inStr nameCh
  rw [StrLaws.found_one]
  have e : NS.cps.toList = [97, 98, 99, 100, 101, 102, 103, 104, 105, 106, 107, 108, 109, 110, 111, 112, 113, 114, 115, 116, 117, 118, 119, 120, 121, 122, 48, 49, 50, 51, 52, 53, 54, 55, 56, 57, 46, 47, 45] := by decide +kernel
  rw [e]
  simp only [List.mem_cons, List.not_mem_nil, or_false, ← Bool.decide_and, ← Bool.decide_or]
  exact decide_eq_decide.mpr (by omega)
theorem sg_len : SG.length = 95 := by decide +kernel
theorem sg_at : ∀ i : Fin 95, SG.cps.toList[i.val]? = some (if i.val = 5 then 9 else 32 + i.val) := by decide +kernel
theorem sign_at {o : Int} (h10 : o ≠ 10) (h : 0 ≤ o - 32) (h2 : o - 32 < 95) : (atI SG.cps.toList (o - 32)).map (fun c => D.str ⟨#[c]⟩) = some (.str (sign o)) := by
  have e : o - 32 = (((o - 32).toNat : Nat) : Int) := by omega
  have z := sg_at ⟨(o - 32).toNat, by omega⟩
  rw [e, DI.atI_nat, z]
  unfold sign sgn
  rw [if_neg h10]
  by_cases h5 : o = 37
  · subst h5
    rfl
  · rw [if_neg (by simp; omega), if_pos (by omega)]
    simp
    omega
theorem join_one : ∀ cs : List Nat, Txt.join "" (cs.map fun c => (⟨#[c]⟩ : Str)) = ⟨cs.toArray⟩ := by
  intro cs
  show Builtin.Str.glued _ _ = _
  rw [StrLaws.glued_eq_join]
  induction cs with
  | nil => rfl
  | cons c t ih =>
    cases t with
    | nil => rfl
    | cons d t =>
      show (⟨#[c]⟩ : Str) ++ ("" : Str) ++ Str.join "" ((d :: t).map fun c => (⟨#[c]⟩ : Str)) = _
      rw [ih]
      show (⟨(#[c] ++ ("" : Str).cps) ++ (d :: t).toArray⟩ : Str) = _
      have e : ("" : Str).cps = #[] := rfl
      rw [e]
      simp
theorem join_txt (ns : List Int) : Txt.join "" (ns.map sign) = txt ns := by
  have z := join_one (ns.map sgn)
  rw [List.map_map] at z
  exact z
theorem one_len {α : Type} (f : α → Nat) : ∀ l : List α, ((l.map fun a => (⟨#[f a]⟩ : Str)).map (·.length)).sum = l.length
  | [] => rfl
  | a :: l => by
    simp only [List.map_cons, List.sum_cons, List.length_cons, one_len f l]
    show 1 + _ = _
    omega
theorem codes_len (z : Str) : (codes z).length = z.length := by
  rw [slen]
  simp [codes]
theorem txt_len (ns : List Int) : (txt ns).length = ns.length := by
  rw [slen]
  simp [txt]
theorem cutL_map {α β : Type} (f : α → β) (l : List α) (lo hi : Option Int) : cutL (l.map f) lo hi = (cutL l lo hi).map f := by
  unfold cutL
  rw [List.length_map, List.map_take, List.map_drop]
theorem cutL_mem {α : Type} {l : List α} {lo hi : Option Int} {x : α} (h : x ∈ cutL l lo hi) : x ∈ l := by
  unfold cutL at h
  exact List.mem_of_mem_drop (List.mem_of_mem_take h)
theorem cutL_len {α : Type} (l : List α) (lo hi : Option Int) : (cutL l lo hi).length ≤ l.length := by
  unfold cutL
  rw [List.length_take, List.length_drop]
  omega
/-- powers -/
def pwf (f : Int) : Nat → Int
  | 0 => 1
  | n + 1 => pwf f n * f
theorem pwf_two (f : Int) : ∀ m, pwf (f * f) m = pwf f (2 * m)
  | 0 => rfl
  | m + 1 => by
    show pwf (f * f) m * (f * f) = pwf f (2 * m) * f * f
    rw [pwf_two f m, Int.mul_assoc]
theorem pwf_mod {f g : Int} (h : f % 4294967291 = g % 4294967291) : ∀ m, pwf f m % 4294967291 = pwf g m % 4294967291
  | 0 => rfl
  | m + 1 => (mulmod (pwf_mod h m)).trans (mulmod2 h)
theorem pw_pwf : ∀ k, pw k = pwf 257 k % 4294967291
  | 0 => rfl
  | k + 1 => by
    show pw k * 257 % 4294967291 = _
    rw [pw_pwf k]
    exact mulmod (Int.emod_emod _ _)
/-! the defs -/
def F_number_of : FT := ⟨fun ds n Q => ∃ s ns, ds = [s] ∧ seqD s = some (oc ns) ∧ Q (.int (numb ns)) n, fun ds n P P' h ⟨s, ns, e, x, q⟩ => ⟨s, ns, e, x, h _ _ q⟩⟩
def F__sign_of : FT := ⟨fun ds n Q => ∃ o : Int, ds = [.int o] ∧ oct o ∧ Q (.str (sign o)) n, fun ds n P P' h ⟨z, e, x, q⟩ => ⟨z, e, x, h _ _ q⟩⟩
def F_text_of : FT := ⟨fun ds n Q => ∃ s ns, ds = [s] ∧ seqD s = some (oc ns) ∧ (∀ o ∈ ns, oct o) ∧ ns.length ≤ 15000000 ∧ Q (.str (txt ns)) n, fun ds n P P' h ⟨s, ns, e, x, y, z, q⟩ => ⟨s, ns, e, x, y, z, h _ _ q⟩⟩
def F_is_entry_name : FT := ⟨fun ds n Q => ∃ d, ds = [d] ∧ tyOk d ∧ (∀ z, d = .str z → z.length ≤ 15000000) ∧ Q (.bl (isNameD d)) n, fun ds n P P' h ⟨z, e, x, y, q⟩ => ⟨z, e, x, y, h _ _ q⟩⟩
def F_name_at : FT := ⟨fun ds n Q => ∃ (os : List Int) (k : Nat), ds = [.tup (oc os), .int k] ∧ (∀ o ∈ os, oct o) ∧ os.length ≤ 15000000 ∧ Q (optS (nmAt os k)) n, fun ds n P P' h ⟨z, e, x, y, w, q⟩ => ⟨z, e, x, y, w, h _ _ q⟩⟩
def F__factor_of : FT := ⟨fun ds n Q => ∃ k : Nat, ds = [.int k] ∧ Q (.int (pw k)) n, fun ds n P P' h ⟨z, e, q⟩ => ⟨z, e, h _ _ q⟩⟩
end AR
/-! Dicts by ints; sound entries. -/
namespace DI
open PySem PySem.Spec PyProof.Rows L2
variable [Nm]
/-! a dict whose keys are ints -/
def kI (ns : List Int) : List Key := ns.map Sum.inl
theorem hasK_kI (n : Int) : ∀ ns : List Int, hasK (kI ns) (Sum.inl n) = decide (n ∈ ns)
  | [] => rfl
  | a :: t => by
    show (decide ((Sum.inl a : Key) = Sum.inl n) || hasK (kI t) (Sum.inl n)) = _
    rw [hasK_kI n t]
    by_cases h : a = n
    · subst h
      simp
    · have h2 : ¬ n = a := fun z => h z.symm
      have h3 : ¬ (Sum.inl a : Key) = Sum.inl n := fun z => h (Sum.inl.inj z)
      simp [h2, h3]
def addI (ns : List Int) (n : Int) : List Int := if n ∈ ns then ns else ns ++ [n]
theorem putK_kI (ns : List Int) (n : Int) : dPutK (kI ns) (Sum.inl n) = kI (addI ns n) := by
  unfold dPutK addI
  rw [hasK_kI]
  by_cases h : n ∈ ns
  · rw [if_pos (by simpa using h), if_pos h]
  · rw [if_neg (by simpa using h), if_neg h]
    unfold kI
    rw [List.map_append]
    rfl
theorem mem_addI {ns : List Int} {n x : Int} : x ∈ addI ns n ↔ x ∈ ns ∨ x = n := by
  unfold addI
  split
  · rename_i h
    exact ⟨.inl, fun z => z.elim id fun e => e ▸ h⟩
  · simp
theorem addI_len (ns : List Int) (n : Int) : (addI ns n).length ≤ ns.length + 1 := by
  unfold addI
  split
  · omega
  · simp
theorem addI_nodup {ns : List Int} (n : Int) (h : ns.Nodup) : (addI ns n).Nodup := by
  unfold addI
  split
  · exact h
  · rename_i hn
    rw [List.nodup_append]
    exact ⟨h, by simp, fun a ha b hb e => by simp at hb; subst hb; subst e; exact hn ha⟩
theorem rep_same (f : Int → D) (n : Int) : ∀ ns : List Int, dRep (kI ns) (ns.map f) (Sum.inl n) (f n) = ns.map f
  | [] => rfl
  | a :: t => by
    show (if (Sum.inl a : Key) = Sum.inl n then f n else f a) :: dRep (kI t) (t.map f) (Sum.inl n) (f n) = _
    rw [rep_same f n t]
    by_cases h : a = n
    · subst h
      simp
    · have h3 : ¬ (Sum.inl a : Key) = Sum.inl n := fun z => h (Sum.inl.inj z)
      simp [h3]
theorem put_same (f : Int → D) (n : Int) (ns : List Int) : dPut (kI ns) (ns.map f) (Sum.inl n) (f n) = (addI ns n).map f := by
  unfold dPut addI
  rw [hasK_kI]
  by_cases h : n ∈ ns
  · rw [if_pos (by simpa using h), if_pos h, rep_same]
  · rw [if_neg (by simpa using h), if_neg h, List.map_append]
    rfl
theorem get_kI (f : Int → D) (n : Int) : ∀ ns : List Int, dGet (kI ns) (ns.map f) (Sum.inl n) = if n ∈ ns then some (f n) else none
  | [] => rfl
  | a :: t => by
    show (if (Sum.inl a : Key) = Sum.inl n then some (f a) else dGet (kI t) (t.map f) (Sum.inl n)) = _
    rw [get_kI f n t]
    by_cases h : a = n
    · subst h
      simp
    · have h3 : ¬ (Sum.inl a : Key) = Sum.inl n := fun z => h (Sum.inl.inj z)
      have h2 : ¬ n = a := fun z => h z.symm
      rw [if_neg h3]
      simp [h2]
theorem get_put : ∀ {ks : List Key} {ds : List D} {k k' : Key} {d : D}, ks.length = ds.length → dGet (dPutK ks k) (dPut ks ds k d) k' = if k' = k then some d else dGet ks ds k' := by
  have rep : ∀ {ks : List Key} {ds : List D} {k k' : Key} {d : D}, ks.length = ds.length → hasK ks k = true → dGet ks (dRep ks ds k d) k' = if k' = k then some d else dGet ks ds k' := by
    intro ks
    induction ks with
    | nil => intro ds k k' d _ h; simp [hasK] at h
    | cons a t ih =>
      intro ds k k' d hl h
      cases ds with
      | nil => simp at hl
      | cons e ds =>
        show (if a = k' then some (if a = k then d else e) else dGet t (dRep t ds k d) k') = _
        by_cases h1 : a = k'
        · subst h1
          rw [if_pos rfl]
          by_cases h2 : a = k
          · rw [if_pos h2, if_pos h2]
          · rw [if_neg h2, if_neg h2]
            show _ = if a = a then _ else _
            rw [if_pos rfl]
        · rw [if_neg h1]
          show _ = if k' = k then some d else if a = k' then some e else dGet t ds k'
          rw [if_neg h1]
          by_cases h2 : hasK t k = true
          · exact ih (by simpa using hl) h2
          · have h3 : a = k := by
              simp only [hasK, Bool.or_eq_true, decide_eq_true_eq] at h
              exact h.resolve_right h2
            have h4 : ¬ k' = k := fun z => h1 (by rw [h3, z])
            rw [if_neg h4]
            have nor : ∀ {ks : List Key} {ds : List D}, ¬ hasK ks k = true → dRep ks ds k d = ds := by
              intro ks
              induction ks with
              | nil => intro ds _; cases ds <;> rfl
              | cons b u ih2 =>
                intro ds hn
                cases ds with
                | nil => rfl
                | cons x xs =>
                  simp only [hasK, Bool.or_eq_true, decide_eq_true_eq, not_or] at hn
                  show (if b = k then d else x) :: dRep u xs k d = _
                  rw [if_neg hn.1, ih2 hn.2]
            rw [nor h2]
  intro ks ds k k' d hl
  unfold dPutK dPut
  by_cases h : hasK ks k = true
  · rw [if_pos h, if_pos h]
    exact rep hl h
  · rw [if_neg h, if_neg h]
    clear rep
    induction ks generalizing ds with
    | nil =>
      cases ds with
      | nil =>
        show (if k = k' then some d else none) = if k' = k then some d else none
        by_cases e : k = k'
        · rw [if_pos e, if_pos e.symm]
        · rw [if_neg e, if_neg fun z => e z.symm]
      | cons _ _ => simp at hl
    | cons a t ih =>
      cases ds with
      | nil => simp at hl
      | cons x xs =>
        simp only [hasK, Bool.or_eq_true, decide_eq_true_eq, not_or] at h
        show (if a = k' then some x else dGet (t ++ [k]) (xs ++ [d]) k') = if k' = k then some d else if a = k' then some x else dGet t xs k'
        by_cases e : a = k'
        · subst e
          rw [if_pos rfl, if_pos rfl, if_neg h.1]
        · rw [if_neg e, if_neg e]
          exact ih (by simpa using hl) h.2
theorem put_lens {ks : List Key} {ds : List D} {k : Key} {d : D} (hl : ks.length = ds.length) : (dPutK ks k).length = (dPut ks ds k d).length := by
  have rep : ∀ (ks : List Key) (ds : List D), (dRep ks ds k d).length = ds.length := by
    intro ks
    induction ks with
    | nil => intro ds; cases ds <;> rfl
    | cons a t ih =>
      intro ds
      cases ds with
      | nil => rfl
      | cons x xs => show (dRep t xs k d).length + 1 = xs.length + 1; rw [ih]
  unfold dPutK dPut
  split
  · rw [rep, hl]
  · simp [hl]
theorem items_kI (f : Int → D) : ∀ ns : List Int, itemsD (kI ns) (ns.map f) = ns.map fun n => .tup [.int n, f n]
  | [] => rfl
  | a :: t => by
    show D.tup [.int a, f a] :: itemsD (kI t) (t.map f) = _
    rw [items_kI f t]
    rfl
theorem keys_kI (ns : List Int) : (kI ns).map unK = ns.map D.int := by
  unfold kI
  rw [List.map_map]
  rfl
section
variable {ge : D → List Sl → Option (List Sl)} {vs : List Nat} {tt : WT} {tk tv : W} {env : List Sl}
def dcOne (ge : D → List Sl → Option (List Sl)) (vs : List Nat) (tt : WT) (tk tv : W) (env : List Sl) (d : D) (n : Nat) (P : Option (Key × D) → Nat → Prop) : Prop :=
  get (ge d (innE vs env)) fun env' => tt.f ⟨env', n⟩ fun b s1 => if b = true then tk.f s1 fun y s2 => tv.f s2 fun z s3 => get (keyD y) fun k => P (some (k, z)) s3.n else P none s1.n
theorem dcGo_one {d : D} {ds es : List D} {ks : List Key} {n : Nat} {P : List Key → List D → Nat → Prop} (hz : ks.length < sizeLine) (h : dcOne ge vs tt tk tv env d n fun o m => match o with
    | some (k, z) => dcGo ge vs tt tk tv env ds (dPutK ks k) (dPut ks es k z) m P
    | none => dcGo ge vs tt tk tv env ds ks es m P) : dcGo ge vs tt tk tv env (d :: ds) ks es n P :=
  get_mono (fun env' q => tt.mono _ _ _ (fun b s1 q => by
    cases b with
    | true => exact tk.mono _ _ _ (fun y s2 q => tv.mono _ _ _ (fun z s3 q => get_mono (fun k q => ⟨hz, q⟩) q) q) q
    | false => exact q) q) h
/-- distinct ints for keys -/
theorem dcGo_nd {inj : Int → D} (t : Int → Bool) (f : Int → D) {P : List Key → List D → Nat → Prop} : ∀ (xs acc : List Int) (n : Nat), (acc ++ xs).Nodup → acc.length + xs.length ≤ sizeLine →
    (∀ x ∈ xs, ∀ P : Option (Key × D) → Nat → Prop, P (if t x then some (Sum.inl x, f x) else none) n → dcOne ge vs tt tk tv env (inj x) n P) → P (kI (acc ++ xs.filter t)) ((acc ++ xs.filter t).map f) n → dcGo ge vs tt tk tv env (xs.map inj) (kI acc) (acc.map f) n P
  | [], acc, n, _, _, _, q => by
    rw [List.filter_nil, List.append_nil] at q
    exact q
  | x :: xs, acc, n, hnd, hz, h, q => by
    simp only [List.length_cons] at hz
    have h2 : ∀ y ∈ xs, ∀ P : Option (Key × D) → Nat → Prop, P (if t y then some (Sum.inl y, f y) else none) n → dcOne ge vs tt tk tv env (inj y) n P := fun y m => h y (List.mem_cons_of_mem _ m)
    refine dcGo_one (by unfold kI; rw [List.length_map]; omega) (h x List.mem_cons_self _ ?_)
    have hn : x ∉ acc := fun m => by
      rw [List.nodup_append] at hnd
      exact hnd.2.2 x m x List.mem_cons_self rfl
    cases ht : t x with
    | true =>
      rw [if_pos rfl]
      show dcGo ge vs tt tk tv env (xs.map inj) (dPutK (kI acc) (Sum.inl x)) (dPut (kI acc) (acc.map f) (Sum.inl x) (f x)) n P
      rw [putK_kI, put_same]
      have ea : addI acc x = acc ++ [x] := by unfold addI; rw [if_neg hn]
      rw [ea]
      refine dcGo_nd t f xs (acc ++ [x]) n (by rw [List.append_assoc]; exact hnd) (by simp only [List.length_append, List.length_cons, List.length_nil]; omega) h2 ?_
      rw [List.filter_cons, ht, if_pos rfl] at q
      rw [List.append_assoc]
      exact q
    | false =>
      rw [if_neg (by simp)]
      refine dcGo_nd t f xs acc n ?_ (by omega) h2 ?_
      · rw [List.nodup_append] at hnd ⊢
        exact ⟨hnd.1, (List.nodup_cons.mp hnd.2.1).2, fun a ha b hb => hnd.2.2 a ha b (List.mem_cons_of_mem _ hb)⟩
      · rw [List.filter_cons, ht, if_neg (by simp)] at q
        exact q
end
end DI
namespace AR
open PySem PySem.Spec PyProof.Rows L2 DI
variable [DI.Nm]
/-! tuples of ints, compared -/
theorem plainA_ints : ∀ ns : List Int, plainA (ns.map D.int) = true
  | [] => by simp only [List.map_nil, plainA]
  | a :: ns => by
    rw [List.map_cons]
    simp only [plainA, DI.plain, plainA_ints ns, Bool.true_and]
theorem lay_ints : ∀ ns : List Int, PyData.canLayAll0 (toPyA (ns.map D.int)) = true
  | [] => by simp only [List.map_nil, toPyA, PyData.canLayAll0]
  | a :: ns => by
    rw [List.map_cons]
    simp only [toPyA, toPy, PyData.canLayAll0, PyData.canLay0, lay_ints ns, Bool.true_and]
theorem depth_ints : ∀ ns : List Int, PyData.depthAll (toPyA (ns.map D.int)) = 0
  | [] => by simp only [List.map_nil, toPyA, PyData.depthAll]
  | a :: ns => by
    rw [List.map_cons]
    simp [toPyA, toPy, PyData.depthAll, PyData.depth, depth_ints ns]
theorem shp_tints (ns : List Int) : shp (.tup (ns.map D.int)) := by
  refine ⟨by simp only [DI.plain, plainA_ints], ?_⟩
  unfold SeqAt.shaped
  simp only [toPy, PyData.canLay0, lay_ints ns, PyData.depth, depth_ints]
  rfl
theorem eqA_ints : ∀ as bs : List Int, PyData.eqvAll (toPyA (as.map D.int)) (toPyA (bs.map D.int)) = decide (as = bs)
  | [], [] => by simp [toPyA, PyData.eqvAll]
  | [], b :: bs => by simp [toPyA, PyData.eqvAll]
  | a :: as, [] => by simp [toPyA, PyData.eqvAll]
  | a :: as, b :: bs => by
    simp only [List.map_cons, toPyA, PyData.eqvAll, eqA_ints as bs]
    simp only [toPy, PyData.eqv, beq_int, List.cons.injEq]
    by_cases h : a = b <;> simp [h]
theorem eqD_tints (as bs : List Int) : eqD (.tup (as.map D.int)) (.tup (bs.map D.int)) = decide (as = bs) := by
  unfold eqD
  simp only [toPy, PyData.eqv, eqA_ints]
theorem ceq_tints (as bs : List Int) : cEq (.tup (as.map D.int)) (.tup (bs.map D.int)) := .inr ⟨shp_tints _, shp_tints _⟩
/-! entries -/
theorem nmAt_name {os : List Int} {k : Nat} {z : Str} (h : nmAt os k = some z) : isName z = true := by
  unfold nmAt at h
  split at h
  · cases h
  · split at h
    · cases h
      rename_i hh
      exact hh.2
    · cases h
theorem name_len {z : Str} (h : isName z = true) : 1 ≤ z.length ∧ z.length ≤ 40 := by
  unfold isName at h
  simp only [Bool.and_eq_true, decide_eq_true_eq] at h
  exact h.1
theorem seq_cut (os : List Int) (lo hi : Option Int) : seqD (.tup (cutL (oc os) lo hi)) = some (oc (cutL os lo hi)) := by
  rw [cutL_map]
  rfl
theorem intsD_ints : ∀ ns : List Int, intsD (ns.map D.int) = some ns
  | [] => rfl
  | a :: ns => by simp only [List.map_cons, intsD, intsD_ints ns, Option.map_some]
structure Hd where
  nm : Str
  b : Int
  e : Int
  c : Int
def headAt (os : List Int) (off : Int) : Option Hd :=
  if cutL os (some off) (some (off + 3)) = [66, 80, 69] then
    match nmAt os (off + 3).toNat with
    | none => none
    | some z =>
      if numb (cutL os (some (off + 4 + z.length)) (some (off + 4 + z.length + 3))) > 150000 ∨ off + 4 + z.length + 7 + numb (cutL os (some (off + 4 + z.length)) (some (off + 4 + z.length + 3))) > os.length then none
      else some ⟨z, off + 4 + z.length + 7, off + 4 + z.length + 7 + numb (cutL os (some (off + 4 + z.length)) (some (off + 4 + z.length + 3))), numb (cutL os (some (off + 4 + z.length + 3)) (some (off + 4 + z.length + 7)))⟩
  else none
def hdD (h : Hd) : D := .tup [.str h.nm, .int h.b, .int h.e, .int h.c]
def headD : Option Hd → D
  | none => .non
  | some h => hdD h
def hdF (os : List Int) (o : Int) : D := headD (headAt os o)
theorem hdF_none {os : List Int} {o : Int} (h : headAt os o = none) : hdF os o = .non := by
  unfold hdF
  rw [h]
  rfl
theorem hdF_some {os : List Int} {o : Int} {x : Hd} (h : headAt os o = some x) : hdF os o = .tup [.str x.nm, .int x.b, .int x.e, .int x.c] := by
  unfold hdF
  rw [h]
  rfl
def isHd (os : List Int) (off : Int) : Bool := (headAt os off).isSome
def isSnd (os : List Int) (off : Int) : Bool := match headAt os off with
  | none => false
  | some h => decide (h.c = chk 7 (cutL os (some h.b) (some h.e)))
def sndD (os : List Int) (off : Int) : D := match headAt os off with
  | none => .non
  | some h => .tup [.str h.nm, .int h.b, .int h.e]
def F__head_at : FT := ⟨fun ds n Q => ∃ (os : List Int) (off : Int), ds = [.tup (oc os), .int off] ∧ (∀ o ∈ os, oct o) ∧ os.length ≤ 15000000 ∧ 0 ≤ off ∧ Q (hdF os off) n, fun ds n P P' h ⟨z, e, x, y, w, v, q⟩ => ⟨z, e, x, y, w, v, h _ _ q⟩⟩
def F__check_between : FT := ⟨fun ds n Q => ∃ (ks : List Key) (es : List D) (b e : Int) (x y : Int), ds = [.dct ks es, .int b, .int e] ∧ dGet ks es (Sum.inl e) = some (.int x) ∧ dGet ks es (Sum.inl b) = some (.int y) ∧ b ≤ e ∧ Q (.int ((x + (7 - y) * pw (e - b).toNat) % 4294967291)) n,
  fun ds n P P' h ⟨a, b, c, d, e, f, g, i, j, k, q⟩ => ⟨a, b, c, d, e, f, g, i, j, k, h _ _ q⟩⟩
def okHd (os : List Int) (h : Hd) : Prop := 0 ≤ h.b ∧ h.b ≤ h.e ∧ h.e ≤ os.length
def F__sums : FT := ⟨fun ds n Q => ∃ (os : List Int) (ks : List Key) (hs : List Hd), ds = [.tup (oc os), .dct ks (hs.map hdD)] ∧ (∀ o ∈ os, oct o) ∧ os.length ≤ 15000000 ∧ (∀ h ∈ hs, okHd os h) ∧ hs.length ≤ 5000000 ∧
    ∀ (ks' : List Key) (es : List D), (∀ h ∈ hs, dGet ks' es (Sum.inl h.b) = some (.int (chk 0 (os.take h.b.toNat))) ∧ dGet ks' es (Sum.inl h.e) = some (.int (chk 0 (os.take h.e.toNat)))) → Q (.dct ks' es) n,
  fun ds n P P' h ⟨a, b, c, d, e, f, g, i, q⟩ => ⟨a, b, c, d, e, f, g, i, fun x y z => h _ _ (q x y z)⟩⟩
/-- the first of each -/
def dd (offs : List Int) : List Int := offs.foldl addI []
def sndL (os offs : List Int) : List Int := (dd (offs.filter (isHd os))).filter (isSnd os)
def F_sound_entries : FT := ⟨fun ds n Q => ∃ (os offs : List Int), ds = [.tup (oc os), .lst (oc offs)] ∧ (∀ o ∈ os, oct o) ∧ os.length ≤ 15000000 ∧ (∀ o ∈ offs, 0 ≤ o) ∧ offs.length ≤ 5000000 ∧ Q (.dct (kI (sndL os offs)) ((sndL os offs).map (sndD os))) n,
  fun ds n P P' h ⟨a, b, c, d, e, f, g, q⟩ => ⟨a, b, c, d, e, f, g, h _ _ q⟩⟩
theorem numb_nonneg {os : List Int} (h : ∀ o ∈ os, oct o) : 0 ≤ numb os := by
  have go : ∀ (l : List Int) (a : Int), 0 ≤ a → (∀ o ∈ l, oct o) → 0 ≤ l.foldl (fun a o => a * 256 + o) a := by
    intro l
    induction l with
    | nil => intro a ha _; exact ha
    | cons x t ih =>
      intro a ha hx
      have := hx x List.mem_cons_self
      unfold oct at this
      exact ih _ (by show 0 ≤ a * 256 + x; omega) fun o m => hx o (List.mem_cons_of_mem _ m)
  exact go os 0 (Int.le_refl _) h
theorem headAt_ok {os : List Int} {off : Int} {h : Hd} (ho : ∀ o ∈ os, oct o) (h0 : 0 ≤ off) (e : headAt os off = some h) : okHd os h := by
  unfold headAt at e
  split at e
  · split at e
    · cases e
    · rename_i z _
      split at e
      · cases e
      · rename_i hn
        cases e
        have z1 := numb_nonneg (os := cutL os (some (off + 4 + z.length)) (some (off + 4 + z.length + 3))) fun o m => ho o (cutL_mem m)
        exact ⟨by show 0 ≤ off + 4 + (z.length : Int) + 7; omega, by show off + 4 + (z.length : Int) + 7 ≤ off + 4 + (z.length : Int) + 7 + _; omega, by show off + 4 + (z.length : Int) + 7 + _ ≤ _; omega⟩
  · cases e
theorem sIx_nat (n k : Nat) (d : Nat) : HT.sIx n d (some (k : Int)) = min k n := by
  unfold HT.sIx
  simp
  omega
theorem cutL_nat {α : Type} (l : List α) (i j : Nat) : cutL l (some (i : Int)) (some (j : Int)) = (l.drop i).take (j - i) := by
  unfold cutL
  rw [sIx_nat, sIx_nat]
  by_cases h : i ≤ l.length
  · rw [Nat.min_eq_left h]
    by_cases h2 : j ≤ l.length
    · rw [Nat.min_eq_left h2]
    · rw [Nat.min_eq_right (by omega)]
      rw [List.take_of_length_le (by rw [List.length_drop]; omega), List.take_of_length_le (by rw [List.length_drop]; omega)]
  · have e1 : l.drop i = [] := List.drop_of_length_le (by omega)
    have e2 : l.drop (min i l.length) = [] := List.drop_of_length_le (by omega)
    rw [e1, e2]
    simp
theorem take_cut (os : List Int) (i j : Nat) (h : i ≤ j) : os.take j = os.take i ++ cutL os (some (i : Int)) (some (j : Int)) := by
  rw [cutL_nat]
  have e : j = i + (j - i) := by omega
  conv => lhs; rw [e]
  rw [List.take_add]
theorem chk_app (c : Int) (a b : List Int) : chk c (a ++ b) = chk (chk c a) b := List.foldl_append
theorem dd_nodup (offs : List Int) : (dd offs).Nodup := by
  have go : ∀ (l acc : List Int), acc.Nodup → (l.foldl addI acc).Nodup := by
    intro l
    induction l with
    | nil => intro acc h; exact h
    | cons x t ih => intro acc h; exact ih _ (addI_nodup x h)
  exact go offs [] List.nodup_nil
theorem dd_mem (offs : List Int) (x : Int) : x ∈ dd offs ↔ x ∈ offs := by
  have go : ∀ (l acc : List Int), x ∈ l.foldl addI acc ↔ x ∈ acc ∨ x ∈ l := by
    intro l
    induction l with
    | nil => intro acc; simp
    | cons a t ih =>
      intro acc
      show x ∈ t.foldl addI (addI acc a) ↔ _
      rw [ih, mem_addI, List.mem_cons]
      exact ⟨fun h => h.elim (fun h => h.elim .inl fun e => .inr (.inl e)) fun h => .inr (.inr h), fun h => h.elim (fun h => .inl (.inl h)) fun h => h.elim (fun e => .inl (.inr e)) .inr⟩
  rw [dd, go]
  simp
theorem dd_len (offs : List Int) : (dd offs).length ≤ offs.length := by
  have go : ∀ (l acc : List Int), (l.foldl addI acc).length ≤ acc.length + l.length := by
    intro l
    induction l with
    | nil => intro acc; simp
    | cons a t ih =>
      intro acc
      have := ih (addI acc a)
      have := addI_len acc a
      simp only [List.foldl_cons, List.length_cons]
      omega
  simpa [dd] using go offs []
/-- the check worked out from two sums -/
theorem between_ok {os : List Int} (b e : Nat) (h : b ≤ e) (he : e ≤ os.length) : (chk 0 (os.take e) + (7 - chk 0 (os.take b)) * pw (e - b)) % 4294967291 = chk 7 (cutL os (some (b : Int)) (some (e : Int))) := by
  rw [take_cut os b e h, chk_app]
  have r0 := chk_range (c := 0) (by decide) (os.take b)
  generalize hs : cutL os (some (b : Int)) (some (e : Int)) = s
  have hl : s.length = e - b := by
    rw [← hs, cutL_nat, List.length_take, List.length_drop]
    omega
  have r7 := chk_range (c := 7) (by decide) s
  have z := chk_pw s 7 (chk 0 (os.take b)) (by decide) (by decide) r0.1 r0.2
  rw [hl] at z
  generalize chk (chk 0 (os.take b)) s = x at *
  generalize (7 - chk 0 (os.take b)) * pw (e - b) = y at *
  omega
end AR
/-! Archives: what is written. -/
namespace DI
open PySem PySem.Spec PyProof.Rows L2
/-! a dict whose keys are texts -/
end DI
namespace AR
open PySem PySem.Spec PyProof.Rows L2 DI
variable [DI.Nm]
abbrev Pr := Str × List Int
def okPr (e : Pr) : Prop := isName e.1 = true ∧ (∀ o ∈ e.2, oct o) ∧ e.2.length ≤ 150000
def entE (e : Pr) : List Int := ent e.1 e.2
def body (ps : List Pr) : List Int := (ps.map entE).flatten
def tailR (e : Pr) : List Int := numO 3 e.2.length ++ numO 4 (chk 7 e.2)
def rowO (a : Int) (e : Pr) : List Int := ((e.1.length : Int) :: codes e.1) ++ numO 3 a ++ tailR e
def rowsO : Nat → List Pr → List Int
  | _, [] => []
  | a, e :: t => rowO a e ++ rowsO (a + (entE e).length) t
def dirH (m : Nat) : List Int := [66, 80, 68] ++ numO 2 m
def dirO (ps : List Pr) : List Int := dirH ps.length ++ rowsO 0 ps
def endO (b d : List Int) : List Int := [66, 80, 90] ++ (numO 3 b.length ++ numO 3 d.length) ++ numO 4 (chk 7 d)
def arch (ps : List Pr) : List Int := body ps ++ dirO ps ++ endO (body ps) (dirO ps)
structure Good (ps : List Pr) : Prop where
  many : ps.length ≤ 100
  all : ∀ e ∈ ps, okPr e
  nd : (ps.map (·.1)).Nodup
theorem numO_len : ∀ (k : Nat) (v : Int), (numO k v).length = k
  | 0, _ => rfl
  | k + 1, v => by
    show (numO k (v / 256) ++ [v % 256]).length = _
    rw [List.length_append, numO_len k]
    rfl
theorem numO_oct : ∀ (k : Nat) (v : Int), ∀ o ∈ numO k v, oct o
  | 0, _, o, m => by cases m
  | k + 1, v, o, m => by
    rcases List.mem_append.mp m with m | m
    · exact numO_oct k _ o m
    · simp at m
      subst m
      unfold oct
      omega
theorem body_app (xs ys : List Pr) : body (xs ++ ys) = body xs ++ body ys := by simp [body]
theorem body_one (e : Pr) : body [e] = entE e := by simp [body]
theorem name_len2 {z : Str} (h : isName z = true) : 1 ≤ z.length ∧ z.length ≤ 40 := by
  unfold isName at h
  simp only [Bool.and_eq_true, decide_eq_true_eq] at h
  exact ⟨h.1.1, h.1.2⟩
theorem ent_len (e : Pr) : (entE e).length = 11 + e.1.length + e.2.length := by
  unfold entE ent
  simp only [List.length_append, List.length_cons, List.length_nil, numO_len, codes_len]
  omega
theorem row_len (a : Int) (e : Pr) : (rowO a e).length = 11 + e.1.length := by
  unfold rowO tailR
  simp only [List.length_append, List.length_cons, numO_len, codes_len]
  omega
theorem codes_oct {z : Str} (h : isName z = true) : ∀ o ∈ codes z, oct o := fun o m => by
  unfold isName at h
  simp only [Bool.and_eq_true, decide_eq_true_eq] at h
  obtain ⟨c, mc, rfl⟩ := List.mem_map.mp m
  have := List.all_eq_true.mp h.2 c mc
  unfold nameCh at this
  simp only [Bool.or_eq_true, Bool.and_eq_true, decide_eq_true_eq] at this
  unfold oct
  omega
theorem row_oct (a : Int) {e : Pr} (h : okPr e) : ∀ o ∈ rowO a e, oct o := fun o m => by
  unfold rowO tailR at m
  have := name_len2 h.1
  simp only [List.mem_append, List.mem_cons] at m
  rcases m with ((rfl | m) | m) | m | m
  · unfold oct; omega
  · exact codes_oct h.1 o m
  · exact numO_oct _ _ o m
  · exact numO_oct _ _ o m
  · exact numO_oct _ _ o m
theorem rows_oct : ∀ {ps : List Pr} (a : Nat), (∀ e ∈ ps, okPr e) → ∀ o ∈ rowsO a ps, oct o
  | [], _, _, o, m => by cases m
  | e :: t, a, h, o, m => by
    rcases List.mem_append.mp m with m | m
    · exact row_oct a (h e List.mem_cons_self) o m
    · exact rows_oct _ (fun x m => h x (List.mem_cons_of_mem _ m)) o m
theorem dirH_oct (m : Nat) : ∀ o ∈ dirH m, oct o := fun o h => by
  unfold dirH at h
  rcases List.mem_append.mp h with h | h
  · simp at h
    unfold oct
    omega
  · exact numO_oct _ _ o h
theorem dir_oct {ps : List Pr} (h : Good ps) : ∀ o ∈ dirO ps, oct o := fun o m => by
  rcases List.mem_append.mp m with m | m
  · exact dirH_oct _ o m
  · exact rows_oct 0 h.all o m
end AR
/-! Archives: what is read. -/
namespace AR
open PySem PySem.Spec PyProof.Rows L2 DI
variable [DI.Nm]
structure Rw where
  nm : Str
  off : Int
  size : Int
  c : Int
def dirPlace (os : List Int) : Option (Int × Int × Int) :=
  if (os.length : Int) - 13 < 0 then none
  else if cutL os (some ((os.length : Int) - 13)) (some ((os.length : Int) - 13 + 3)) = [66, 80, 90] then
    if numb (cutL os (some ((os.length : Int) - 13 + 3)) (some ((os.length : Int) - 13 + 6))) + numb (cutL os (some ((os.length : Int) - 13 + 6)) (some ((os.length : Int) - 13 + 9))) = (os.length : Int) - 13 then
      some (numb (cutL os (some ((os.length : Int) - 13 + 3)) (some ((os.length : Int) - 13 + 6))), (os.length : Int) - 13, numb (cutL os (some ((os.length : Int) - 13 + 9)) none))
    else none
  else none
def rowAt (os : List Int) (z : Str) (a : Nat) : Rw := ⟨z, numb (cutL (cutL os (some (a : Int)) (some ((a : Int) + 10))) none (some 3)), numb (cutL (cutL os (some (a : Int)) (some ((a : Int) + 10))) (some 3) (some 6)), numb (cutL (cutL os (some (a : Int)) (some ((a : Int) + 10))) (some 6) none)⟩
def rowsFrom (os : List Int) : Nat → Nat → Option (List Rw × Nat)
  | 0, a => some ([], a)
  | m + 1, a => match nmAt os a with
    | none => none
    | some z => if (cutL os (some ((a + (1 + z.length) : Nat) : Int)) (some (((a + (1 + z.length) : Nat) : Int) + 10))).length < 10 then none
      else match rowsFrom os m (a + (1 + z.length) + 10) with
        | none => none
        | some (rs, e) => some (rowAt os z (a + (1 + z.length)) :: rs, e)
def rwsOf (os : List Int) : Option (List Rw) :=
  if cutL os none (some 3) = [66, 80, 68] then
    if numb (cutL os (some 3) (some 5)) > 100 then none
    else match rowsFrom os (numb (cutL os (some 3) (some 5))).toNat 5 with
      | none => none
      | some (rs, e) => if e = os.length then some rs else none
  else none
def told (os L : List Int) (lim : Int) (r : Rw) : Bool :=
  if r.off ∈ L then match headAt os r.off with
    | none => false
    | some h => decide (r.nm = h.nm) && (decide (h.e ≤ lim) && (decide (r.size = h.e - h.b) && decide (r.c = numb (cutL os (some (h.b - 4)) (some h.b)))))
  else false
structure Gn where
  fnd : List (Str × Int)
  ents : List Pr
  pos : Int
def goStep (os L : List Int) (lim : Int) (s : Gn) (r : Rw) : Gn :=
  if r.off < s.pos ∨ r.nm ∈ s.ents.map (·.1) ∨ told os L lim r = false then { s with fnd := s.fnd ++ [(("bad entry" : Str), r.off)] }
  else match headAt os r.off with
    | none => s
    | some h => ⟨if r.off > s.pos then s.fnd ++ [(("gap" : Str), s.pos)] else s.fnd, s.ents ++ [(r.nm, cutL os (some h.b) (some h.e))], h.e⟩
def goAll (os L : List Int) (lim : Int) (rs : List Rw) : Gn := rs.foldl (goStep os L lim) ⟨[], [], 0⟩
def gone (os : List Int) (rs : List Rw) (lim : Int) : List (Str × Int) × List Pr :=
  let g := goAll os (sndL os (rs.map (·.off))) lim rs
  (if g.pos < lim then g.fnd ++ [(("gap" : Str), g.pos)] else g.fnd, g.ents)
def looked (os : List Int) : List (Str × Int) × List Pr := match dirPlace os with
  | none => ([(("no end" : Str), 0)], [])
  | some (a, b, c) => match rwsOf (cutL os (some a) (some b)) with
    | none => ([(("bad directory" : Str), a)], [])
    | some rs => if chk 7 (cutL os (some a) (some b)) = c then gone os rs a else ([(("bad directory" : Str), a)], [])
theorem nmAt_len {os : List Int} {a : Nat} {z : Str} (h : nmAt os a = some z) : z.length ≤ 40 := by
  have := nmAt_name h
  exact (name_len2 this).2
end AR
/-! What is written is read back. -/
namespace AR
open PySem PySem.Spec PyProof.Rows L2 DI
variable [DI.Nm]
theorem numb_snoc (a : List Int) (x : Int) : numb (a ++ [x]) = numb a * 256 + x := by
  unfold numb
  rw [List.foldl_append]
  rfl
theorem numb_numO : ∀ (k : Nat) (v : Int), 0 ≤ v → v < 256 ^ k → numb (numO k v) = v
  | 0, v, h0, h1 => by
    have : v = 0 := by simp at h1; omega
    subst this
    rfl
  | k + 1, v, h0, h1 => by
    show numb (numO k (v / 256) ++ [v % 256]) = v
    rw [numb_snoc, numb_numO k (v / 256) (by omega) (by
      rw [Int.pow_succ] at h1
      exact Int.ediv_lt_of_lt_mul (by decide) h1)]
    omega
/-- a part in the middle -/
theorem cut_mid (a b c : List Int) (i j : Nat) (hi : i = a.length) (hj : j = a.length + b.length) : cutL (a ++ b ++ c) (some (i : Int)) (some (j : Int)) = b := by
  subst hi
  subst hj
  rw [cutL_nat, List.append_assoc, List.drop_left, show a.length + b.length - a.length = b.length from by omega, List.take_left]
theorem sgn_name {c : Nat} (h : nameCh c = true) : sgn (c : Int) = c := by
  unfold nameCh at h
  simp only [Bool.or_eq_true, Bool.and_eq_true, decide_eq_true_eq] at h
  unfold sgn
  rw [if_neg (by omega), if_pos (by omega)]
  omega
theorem txt_codes {z : Str} (h : isName z = true) : txt (codes z) = z := by
  unfold isName at h
  simp only [Bool.and_eq_true, decide_eq_true_eq] at h
  unfold txt codes
  rw [List.map_map]
  have e : z.cps.toList.map (sgn ∘ fun (c : Nat) => (c : Int)) = z.cps.toList := by
    conv => rhs; rw [← List.map_id z.cps.toList]
    exact List.map_congr_left fun c mc => sgn_name (List.all_eq_true.mp h.2 c mc)
  rw [e]
theorem nmAt_mid {z : Str} (h : isName z = true) (a c : List Int) : nmAt (a ++ ((z.length : Int) :: codes z) ++ c) a.length = some z := by
  have hx : (a ++ ((z.length : Int) :: codes z) ++ c)[a.length]? = some (z.length : Int) := by
    rw [List.append_assoc, List.getElem?_append_right (Nat.le_refl _)]
    simp
  have hc : cutL (a ++ ((z.length : Int) :: codes z) ++ c) (some ((a.length : Int) + 1)) (some ((a.length : Int) + 1 + (z.length : Int))) = codes z := by
    have e : a ++ ((z.length : Int) :: codes z) ++ c = (a ++ [(z.length : Int)]) ++ codes z ++ c := by simp
    have e1 : (a.length : Int) + 1 = ((a.length + 1 : Nat) : Int) := by omega
    have e2 : ((a.length + 1 : Nat) : Int) + (z.length : Int) = ((a.length + 1 + z.length : Nat) : Int) := by omega
    rw [e, e1, e2]
    exact cut_mid _ _ _ _ _ (by simp) (by simp [codes_len])
  unfold nmAt
  rw [hx]
  simp only [hc, txt_codes h, h, and_self, if_true]
theorem endO_len (B D : List Int) : (endO B D).length = 13 := by
  unfold endO
  simp only [List.length_append, List.length_cons, List.length_nil, numO_len]
end AR
namespace AR
open PySem PySem.Spec PyProof.Rows L2 DI
variable [DI.Nm]
theorem body_cons (e : Pr) (t : List Pr) : body (e :: t) = entE e ++ body t := by simp [body]
end AR
namespace AR
open PySem PySem.Spec PyProof.Rows L2 DI
variable [DI.Nm]
def hdOf (a : Nat) (e : Pr) : Hd := ⟨e.1, ((a + 11 + e.1.length : Nat) : Int), ((a + 11 + e.1.length + e.2.length : Nat) : Int), chk 7 e.2⟩
theorem head_of {e : Pr} (h : okPr e) (pre post : List Int) (a : Nat) (ha : a = pre.length) : headAt (pre ++ entE e ++ post) (a : Int) = some (hdOf a e) ∧ cutL (pre ++ entE e ++ post) (some (hdOf a e).b) (some (hdOf a e).e) = e.2 ∧ cutL (pre ++ entE e ++ post) (some ((hdOf a e).b - 4)) (some (hdOf a e).b) = numO 4 (chk 7 e.2) := by
  have hp := h.2.2
  have hc := chk_range (c := 7) (by decide) e.2
  have n2 : numb (numO 3 (e.2.length : Int)) = e.2.length := numb_numO 3 _ (by omega) (by show (e.2.length : Int) < 16777216; omega)
  have n3 : numb (numO 4 (chk 7 e.2)) = chk 7 e.2 := numb_numO 4 _ hc.1 (by show chk 7 e.2 < 4294967296; omega)
  have hent : entE e = [66, 80, 69] ++ ((e.1.length : Int) :: codes e.1) ++ numO 3 e.2.length ++ numO 4 (chk 7 e.2) ++ e.2 := rfl
  have c1 : cutL (pre ++ entE e ++ post) (some (a : Int)) (some ((a + 3 : Nat) : Int)) = [66, 80, 69] := by
    have x : pre ++ entE e ++ post = pre ++ [66, 80, 69] ++ (((e.1.length : Int) :: codes e.1) ++ numO 3 e.2.length ++ numO 4 (chk 7 e.2) ++ e.2 ++ post) := by
      rw [hent]
      simp only [List.append_assoc]
    rw [x]
    exact cut_mid _ _ _ _ _ ha (by rw [ha]; rfl)
  have hnm : nmAt (pre ++ entE e ++ post) (a + 3) = some e.1 := by
    have x : pre ++ entE e ++ post = (pre ++ [66, 80, 69]) ++ ((e.1.length : Int) :: codes e.1) ++ (numO 3 e.2.length ++ numO 4 (chk 7 e.2) ++ e.2 ++ post) := by
      rw [hent]
      simp only [List.append_assoc]
    have l : a + 3 = (pre ++ [66, 80, 69]).length := by rw [List.length_append, ha]; rfl
    rw [x, l]
    exact nmAt_mid h.1 _ _
  have c2 : cutL (pre ++ entE e ++ post) (some ((a + 4 + e.1.length : Nat) : Int)) (some ((a + 4 + e.1.length + 3 : Nat) : Int)) = numO 3 (e.2.length : Int) := by
    have x : pre ++ entE e ++ post = (pre ++ [66, 80, 69] ++ ((e.1.length : Int) :: codes e.1)) ++ numO 3 e.2.length ++ (numO 4 (chk 7 e.2) ++ e.2 ++ post) := by
      rw [hent]
      simp only [List.append_assoc]
    rw [x]
    refine cut_mid _ _ _ _ _ ?_ ?_ <;> simp only [List.length_append, List.length_cons, List.length_nil, codes_len, numO_len] <;> omega
  have c3 : cutL (pre ++ entE e ++ post) (some ((a + 4 + e.1.length + 3 : Nat) : Int)) (some ((a + 4 + e.1.length + 7 : Nat) : Int)) = numO 4 (chk 7 e.2) := by
    have x : pre ++ entE e ++ post = (pre ++ [66, 80, 69] ++ ((e.1.length : Int) :: codes e.1) ++ numO 3 e.2.length) ++ numO 4 (chk 7 e.2) ++ (e.2 ++ post) := by
      rw [hent]
      simp only [List.append_assoc]
    rw [x]
    refine cut_mid _ _ _ _ _ ?_ ?_ <;> simp only [List.length_append, List.length_cons, List.length_nil, codes_len, numO_len] <;> omega
  have c4 : cutL (pre ++ entE e ++ post) (some ((a + 11 + e.1.length : Nat) : Int)) (some ((a + 11 + e.1.length + e.2.length : Nat) : Int)) = e.2 := by
    have x : pre ++ entE e ++ post = (pre ++ [66, 80, 69] ++ ((e.1.length : Int) :: codes e.1) ++ numO 3 e.2.length ++ numO 4 (chk 7 e.2)) ++ e.2 ++ post := by
      rw [hent]
      simp only [List.append_assoc]
    rw [x]
    refine cut_mid _ _ _ _ _ ?_ ?_ <;> simp only [List.length_append, List.length_cons, List.length_nil, codes_len, numO_len] <;> omega
  have hl : (pre ++ entE e ++ post).length = a + (11 + e.1.length + e.2.length) + post.length := by
    rw [List.length_append, List.length_append, ent_len, ha]
  refine ⟨?_, c4, ?_⟩
  · have i1 : (a : Int) + 3 = ((a + 3 : Nat) : Int) := by omega
    have i2 : (a : Int) + 4 + (e.1.length : Int) = ((a + 4 + e.1.length : Nat) : Int) := by omega
    have i3 : ((a + 4 + e.1.length : Nat) : Int) + 3 = ((a + 4 + e.1.length + 3 : Nat) : Int) := by omega
    have i4 : ((a + 4 + e.1.length : Nat) : Int) + 7 = ((a + 4 + e.1.length + 7 : Nat) : Int) := by omega
    have t3 : ((a + 3 : Nat) : Int).toNat = a + 3 := by omega
    unfold headAt
    rw [i1, c1, if_pos rfl, t3]
    simp only [hnm]
    rw [i2, i3, i4, c2, c3, n2, n3, if_neg (by rw [hl]; omega)]
    unfold hdOf
    congr 2 <;> omega
  · have j1 : (hdOf a e).b - 4 = ((a + 4 + e.1.length + 3 : Nat) : Int) := by
      show ((a + 11 + e.1.length : Nat) : Int) - 4 = _
      omega
    have j2 : (hdOf a e).b = ((a + 4 + e.1.length + 7 : Nat) : Int) := by
      show ((a + 11 + e.1.length : Nat) : Int) = _
      omega
    rw [j1, j2]
    exact c3
end AR
namespace AR
open PySem PySem.Spec PyProof.Rows L2 DI
variable [DI.Nm]
theorem arch_oct {ps : List Pr} (h : Good ps) : ∀ o ∈ arch ps, oct o := fun o m => by
  have ho : ∀ (qs : List Pr), (∀ e ∈ qs, okPr e) → ∀ o ∈ body qs, oct o := by
    intro qs
    induction qs with
    | nil => intro _ o m; cases m
    | cons e t ih =>
      intro hq o m
      rw [body_cons] at m
      have he := hq e List.mem_cons_self
      have hn := name_len2 he.1
      rcases List.mem_append.mp m with m | m
      · unfold entE ent at m
        simp only [List.mem_append, List.mem_cons, List.not_mem_nil, or_false] at m
        rcases m with (((m | rfl | m) | m) | m) | m
        · unfold oct; omega
        · unfold oct; omega
        · exact codes_oct he.1 o m
        · exact numO_oct _ _ o m
        · exact numO_oct _ _ o m
        · exact he.2.1 o m
      · exact ih (fun x m => hq x (List.mem_cons_of_mem _ m)) o m
  unfold arch at m
  rcases List.mem_append.mp m with m | m
  · rcases List.mem_append.mp m with m | m
    · exact ho ps h.all o m
    · exact dir_oct h o m
  · unfold endO at m
    simp only [List.mem_append, List.mem_cons, List.not_mem_nil, or_false] at m
    rcases m with (m | m | m) | m
    · unfold oct; omega
    · exact numO_oct _ _ o m
    · exact numO_oct _ _ o m
    · exact numO_oct _ _ o m
end AR
/-! What law_k73's own defs say. -/
namespace AR
open PySem PySem.Spec PyProof.Rows L2 DI
variable [DI.Nm]
def zlD (e : Pr) : D := .tup [.str e.1, .lst (oc e.2)]
def F__law_number : FT := ⟨fun ds n Q => ∃ (v : Int) (k : Nat), ds = [.int v, .int k] ∧ k ≤ 100 ∧ Q (.lst (oc (numO k v))) n, fun ds n P P' h ⟨s, ns, e, x, q⟩ => ⟨s, ns, e, x, h _ _ q⟩⟩
def F__law_sum : FT := ⟨fun ds n Q => ∃ ns, ds = [.lst (oc ns)] ∧ (∀ o ∈ ns, oct o) ∧ Q (.int (chk 7 ns)) n, fun ds n P P' h ⟨s, e, x, q⟩ => ⟨s, e, x, h _ _ q⟩⟩
def F__law_signs : FT := ⟨fun ds n Q => ∃ z : Str, ds = [.str z] ∧ isName z = true ∧ Q (.lst (oc (codes z))) n, fun ds n P P' h ⟨s, e, x, q⟩ => ⟨s, e, x, h _ _ q⟩⟩
def F__law_entry : FT := ⟨fun ds n Q => ∃ e : Pr, ds = [.str e.1, .lst (oc e.2)] ∧ okPr e ∧ Q (.lst (oc (entE e))) n, fun ds n P P' h ⟨s, e, x, q⟩ => ⟨s, e, x, h _ _ q⟩⟩
def F__law_row : FT := ⟨fun ds n Q => ∃ (e : Pr) (a : Int), ds = [.str e.1, .int a, .lst (oc e.2)] ∧ okPr e ∧ Q (.lst (oc (rowO a e))) n, fun ds n P P' h ⟨s, a, e, x, q⟩ => ⟨s, a, e, x, h _ _ q⟩⟩
def F__law_tail : FT := ⟨fun ds n Q => ∃ (rows : List (List Int)) (a : Nat), ds = [.lst (rows.map fun r => .lst (oc r)), .int a] ∧ rows.length ≤ 100 ∧ (∀ r ∈ rows, r.length ≤ 51 ∧ ∀ o ∈ r, oct o) ∧
    Q (.lst (oc (dirH rows.length ++ rows.flatten ++ ([66, 80, 90] ++ (numO 3 a ++ numO 3 (dirH rows.length ++ rows.flatten).length) ++ numO 4 (chk 7 (dirH rows.length ++ rows.flatten)))))) n, fun ds n P P' h ⟨s, a, e, x, y, q⟩ => ⟨s, a, e, x, y, h _ _ q⟩⟩
def F__law_archive : FT := ⟨fun ds n Q => ∃ ps : List Pr, ds = [.lst (ps.map zlD)] ∧ Good ps ∧ (arch ps).length ≤ 15000000 ∧ Q (.lst (oc (arch ps))) n, fun ds n P P' h ⟨s, e, x, y, q⟩ => ⟨s, e, x, y, h _ _ q⟩⟩
end AR
/-! Tuples of pairs, compared with themselves. -/
namespace AR
open PySem PySem.Spec PyProof.Rows L2 DI
variable [DI.Nm]
theorem strOk_name {z : Str} (h : isName z = true) : PyData.strOk z = true := by
  unfold isName at h
  simp only [Bool.and_eq_true, decide_eq_true_eq] at h
  unfold PyData.strOk
  rw [← Array.all_toList]
  refine List.all_eq_true.mpr fun c mc => ?_
  have := List.all_eq_true.mp h.2 c mc
  unfold nameCh at this
  simp only [Bool.or_eq_true, Bool.and_eq_true, decide_eq_true_eq] at this
  exact decide_eq_true (by omega)
theorem Good.str {ps : List Pr} (h : Good ps) : ∀ e ∈ ps, PyData.strOk e.1 = true := fun e m => strOk_name (h.all e m).1
end AR
/-! What is drawn. -/
namespace AR
open PySem PySem.Spec PyProof.Rows L2 DI
variable [DI.Nm]
theorem next_of {b : Int} {n : Nat} {Q : D → Nat → Prop} (h : n < 2 ^ 60) (h0 : 0 < b) (h1 : b < 1073741824) (q : ∀ r : Int, 0 ≤ r → r < b → Q (.int r) (n + 2)) : F__law_next.f [.drw, .int b] n Q := ⟨b, rfl, h, h0, h1, q⟩
section
variable {ge : D → List Sl → Option (List Sl)} {vs : List Nat} {te : W} {env : List Sl}
/-- every item gives something of R, the count grows by c at most -/
theorem lcGo_draw {R : D → Prop} {c N : Nat} {P : List D → Nat → Prop} : ∀ (ds acc : List D) (n : Nat), (∀ d ∈ ds, ∀ n, n ≤ N → ∀ P : D → S → Prop, (∀ y s, R y → n ≤ s.n → s.n ≤ n + c → P y s) → get (ge d (innE vs env)) fun env' => te.f ⟨env', n⟩ P) → acc.length + ds.length ≤ sizeLine → n + c * ds.length ≤ N →
    (∀ ys m, ys.length = ds.length → (∀ y ∈ ys, R y) → n ≤ m → m ≤ n + c * ds.length → P (acc ++ ys) m) → lcGo ge vs wtYes te env ds acc n P
  | [], acc, n, _, _, _, q => by
    have z := q [] n rfl (fun _ h => nomatch h) (Nat.le_refl _) (by simp)
    rw [List.append_nil] at z
    exact z
  | d :: ds, acc, n, h, hz, hn, q => by
    simp only [List.length_cons, Nat.mul_add, Nat.mul_one] at hn hz
    have k := h d List.mem_cons_self n (by omega) (fun y s2 => acc.length < sizeLine ∧ lcGo ge vs wtYes te env ds (acc ++ [y]) s2.n P) (fun y s hy h1 h2 => by
      refine ⟨by omega, lcGo_draw ds _ _ (fun d' hd => h d' (List.mem_cons_of_mem _ hd)) (by simp only [List.length_append, List.length_cons, List.length_nil]; omega) (by omega) fun ys m e1 e2 e3 e4 => ?_⟩
      have z := q (y :: ys) m (by simp [e1]) (fun x hx => by
        cases List.mem_cons.mp hx with
        | inl e => rw [e]; exact hy
        | inr e => exact e2 x e) (by omega) (by simp only [List.length_cons, Nat.mul_add, Nat.mul_one]; omega)
      simpa using z)
    exact get_mono (fun env' q => by
      simp only [wtYes, if_true]
      exact q) k
end
theorem intsOf {R : Int → Prop} : ∀ ys : List D, (∀ y ∈ ys, ∃ o : Int, y = .int o ∧ R o) → ∃ ns : List Int, ys = oc ns ∧ ∀ o ∈ ns, R o
  | [], _ => ⟨[], rfl, fun _ h => nomatch h⟩
  | y :: ys, h => by
    obtain ⟨o, rfl, h1⟩ := h y List.mem_cons_self
    obtain ⟨ns, rfl, h2⟩ := intsOf ys fun y m => h y (List.mem_cons_of_mem _ m)
    refine ⟨o :: ns, rfl, fun x m => ?_⟩
    cases m with
    | head => exact h1
    | tail _ m => exact h2 x m
def F__law_drawn_payload : FT := ⟨fun ds n Q => ∃ most : Nat, ds = [.drw, .int most] ∧ most ≤ 100000 ∧ n < 2 ^ 59 ∧ ∀ (p : List Int) (m : Nat), (∀ o ∈ p, oct o) → p.length ≤ most → n ≤ m → m ≤ n + (2 + 2 * most) → Q (.lst (oc p)) m, fun ds n P P' h ⟨most, e, y, x, q⟩ => ⟨most, e, y, x, fun z m a b c d => h _ _ (q z m a b c d)⟩⟩
theorem rep_oct {v : Int} (h : oct v) (k : Nat) : ∀ o ∈ List.replicate k v, oct o := fun o m => by
  rw [(List.mem_replicate.mp m).2]
  exact h
end AR
namespace AR
open PySem PySem.Spec PyProof.Rows L2 DI
variable [DI.Nm]
end AR
/-! Sound entries: what stands in front; the most octets; the choice. -/
namespace AR
open PySem PySem.Spec PyProof.Rows L2 DI
variable [DI.Nm]
def enAt (l : List Int) : Option Pr := match headAt l 0 with
  | none => none
  | some h => if h.c = chk 7 (cutL l (some h.b) (some h.e)) then some (h.nm, cutL l (some h.b) (some h.e)) else none
theorem enAt_of {e : Pr} (h : okPr e) (post : List Int) : enAt (entE e ++ post) = some e := by
  obtain ⟨h1, h2, h3⟩ := head_of h [] post 0 rfl
  rw [List.nil_append] at h1 h2
  unfold enAt
  rw [show ((0 : Nat) : Int) = 0 from rfl] at h1
  rw [h1]
  simp only [h2]
  rw [if_pos (show (hdOf 0 e).c = chk 7 e.2 from rfl)]
  rfl
theorem numO_numb : ∀ (k : Nat) (w : List Int), w.length = k → (∀ o ∈ w, oct o) → numO k (numb w) = w := by
  intro k
  induction k with
  | zero =>
    intro w hw _
    rw [List.length_eq_zero_iff.mp hw]
    rfl
  | succ k ih =>
    intro w hw ho
    have hne : w ≠ [] := fun e => by rw [e] at hw; simp at hw
    have e := List.dropLast_concat_getLast hne
    generalize hd : w.dropLast = d at e
    generalize hx : w.getLast hne = x at e
    subst e
    have hox := ho x (by simp)
    unfold oct at hox
    rw [numb_snoc]
    show numO k ((numb d * 256 + x) / 256) ++ [(numb d * 256 + x) % 256] = _
    have e1 : (numb d * 256 + x) / 256 = numb d := by omega
    have e2 : (numb d * 256 + x) % 256 = x := by omega
    rw [e1, e2, ih d (by simpa using hw) fun o m => ho o (by simp [m])]
theorem codes_txt {w : List Int} (ho : ∀ o ∈ w, oct o) (h : isName (txt w) = true) : codes (txt w) = w := by
  unfold isName at h
  simp only [Bool.and_eq_true, decide_eq_true_eq] at h
  have ha := h.2
  unfold txt at ha
  simp only [List.toList_toArray] at ha
  unfold codes txt
  simp only [List.toList_toArray, List.map_map]
  conv => rhs; rw [← List.map_id w]
  refine List.map_congr_left fun o mo => ?_
  have hn := List.all_eq_true.mp ha (sgn o) (List.mem_map.mpr ⟨o, mo, rfl⟩)
  have hoo := ho o mo
  unfold nameCh at hn
  unfold oct at hoo
  simp only [Bool.or_eq_true, Bool.and_eq_true, decide_eq_true_eq] at hn
  show ((sgn o : Nat) : Int) = o
  unfold sgn at hn ⊢
  split at hn
  · omega
  · split at hn
    · rename_i h1 h2
      rw [if_neg h1, if_pos h2]
      omega
    · omega
theorem enAt_some {l : List Int} {e : Pr} (ho : ∀ o ∈ l, oct o) (h : enAt l = some e) : okPr e ∧ ∃ post, l = entE e ++ post := by
  unfold enAt at h
  split at h
  · cases h
  rename_i hd hh
  split at h
  · rename_i hc
    cases h
    unfold headAt at hh
    split at hh
    · rename_i hm
      split at hh
      · cases hh
      · rename_i z hz
        split at hh
        · cases hh
        · rename_i hlim
          cases hh
          simp only at hc ⊢
          have nl := nmAt_len hz
          have hzn := nmAt_name hz
          -- the name
          rw [show ((0 : Int) + 3).toNat = 3 from rfl] at hz
          unfold nmAt at hz
          cases h3 : l[3]? with
          | none => rw [h3] at hz; cases hz
          | some k =>
            rw [h3] at hz
            simp only at hz
            split at hz
            · rename_i hk
              have hzz := Option.some.inj hz
              obtain ⟨hk1, hk2⟩ := hk
              rw [hzz] at hk1
              have hz1 := name_len2 hzn
              -- all by whole numbers
              have ek : k = (z.length : Int) := hk1.symm
              subst ek
              generalize hL : z.length = n at *
              have a1 : (((3 : Nat) : Int) + 1) = ((4 : Nat) : Int) := rfl
              have a2 : (((3 : Nat) : Int) + 1 + (n : Int)) = ((4 + n : Nat) : Int) := by omega
              have a3 : ((0 : Int) + 4 + (n : Int)) = ((4 + n : Nat) : Int) := by omega
              have a4 : ((4 + n : Nat) : Int) + 3 = ((7 + n : Nat) : Int) := by omega
              have a5 : ((4 + n : Nat) : Int) + 7 = ((11 + n : Nat) : Int) := by omega
              rw [a2, a1] at hzz
              rw [a3, a4, a5] at hlim hc ⊢
              have hS : ∀ o ∈ cutL l (some ((4 + n : Nat) : Int)) (some ((7 + n : Nat) : Int)), oct o := fun o m => ho o (cutL_mem m)
              have hs0 := numb_nonneg hS
              obtain ⟨s, hs⟩ : ∃ s : Nat, numb (cutL l (some ((4 + n : Nat) : Int)) (some ((7 + n : Nat) : Int))) = (s : Int) := ⟨_, (Int.toNat_of_nonneg hs0).symm⟩
              rw [hs] at hlim hc ⊢
              have a6 : ((11 + n : Nat) : Int) + (s : Int) = ((11 + n + s : Nat) : Int) := by omega
              rw [a6] at hlim hc ⊢
              have hle : 11 + n + s ≤ l.length := by omega
              have lenC : ∀ i j : Nat, j ≤ l.length → (cutL l (some (i : Int)) (some (j : Int))).length = j - i := fun i j h => by
                rw [cutL_nat, List.length_take, List.length_drop]
                omega
              have c3 : cutL l (some ((3 : Nat) : Int)) (some ((4 : Nat) : Int)) = [(n : Int)] := by
                rw [cutL_nat, List.drop_eq_getElem_cons (by omega)]
                have z3 := (List.getElem?_eq_some_iff.mp h3).2
                rw [z3]
                rfl
              have cn : cutL l (some ((4 : Nat) : Int)) (some ((4 + n : Nat) : Int)) = codes z := by
                have q := codes_txt (w := cutL l (some ((4 : Nat) : Int)) (some ((4 + n : Nat) : Int))) (fun o m => ho o (cutL_mem m)) (by rw [hzz]; exact hzn)
                rw [hzz] at q
                exact q.symm
              have cs : cutL l (some ((4 + n : Nat) : Int)) (some ((7 + n : Nat) : Int)) = numO 3 (s : Int) := by
                have q := numO_numb 3 _ (by rw [lenC _ _ (by omega)]; omega) hS
                rw [hs] at q
                exact q.symm
              have cc : cutL l (some ((7 + n : Nat) : Int)) (some ((11 + n : Nat) : Int)) = numO 4 (chk 7 (cutL l (some ((11 + n : Nat) : Int)) (some ((11 + n + s : Nat) : Int)))) := by
                have q := numO_numb 4 _ (by rw [lenC _ _ (by omega)]; omega) (fun o m => ho o (cutL_mem m) : ∀ o ∈ cutL l (some ((7 + n : Nat) : Int)) (some ((11 + n : Nat) : Int)), oct o)
                rw [← hc]
                exact q.symm
              have lp := lenC (11 + n) (11 + n + s) hle
              generalize hp : cutL l (some ((11 + n : Nat) : Int)) (some ((11 + n + s : Nat) : Int)) = p at *
              have lp2 : p.length = s := by omega
              refine ⟨⟨hzn, fun o m => ho o (by rw [← hp] at m; exact cutL_mem m), by show p.length ≤ _; omega⟩, l.drop (11 + n + s), ?_⟩
              have t0 : l.take 3 = [66, 80, 69] := by
                have q := hm
                rw [show (0 : Int) = ((0 : Nat) : Int) from rfl, show ((0 : Nat) : Int) + 3 = ((3 : Nat) : Int) from rfl, cutL_nat] at q
                simpa using q
              have t1 := take_cut l 3 4 (by omega)
              have t2 := take_cut l 4 (4 + n) (by omega)
              have t3 := take_cut l (4 + n) (7 + n) (by omega)
              have t4 := take_cut l (7 + n) (11 + n) (by omega)
              have t5 := take_cut l (11 + n) (11 + n + s) (by omega)
              rw [hp, t4, cc, t3, cs, t2, cn, t1, c3, t0] at t5
              conv => lhs; rw [← List.take_append_drop (11 + n + s) l, t5]
              unfold entE ent
              simp only [hL, lp2, List.append_assoc, List.cons_append, List.nil_append]
            · cases hz
    · cases hh
  · cases h
end AR
/-! Sound entries at an offset; what more octets behind change. -/
namespace AR
open PySem PySem.Spec PyProof.Rows L2 DI
variable [DI.Nm]
theorem oct_drop {l : List Int} (ho : ∀ o ∈ l, oct o) (k : Nat) : ∀ o ∈ l.drop k, oct o := fun o m => ho o (List.mem_of_mem_drop m)
theorem oct_app {a b : List Int} (ha : ∀ o ∈ a, oct o) (hb : ∀ o ∈ b, oct o) : ∀ o ∈ a ++ b, oct o := fun o m => (List.mem_append.mp m).elim (ha o) (hb o)
theorem cut_drop (os : List Int) (k i j : Nat) : cutL os (some ((k + i : Nat) : Int)) (some ((k + j : Nat) : Int)) = cutL (os.drop k) (some (i : Int)) (some (j : Int)) := by
  rw [cutL_nat, cutL_nat, List.drop_drop, show k + j - (k + i) = j - i from by omega]
theorem nmAt_drop {os : List Int} (ho : ∀ o ∈ os, oct o) (k i : Nat) : nmAt os (k + i) = nmAt (os.drop k) i := by
  unfold nmAt
  rw [List.getElem?_drop]
  cases h : os[k + i]? with
  | none => rfl
  | some x =>
    have hx := ho x (List.mem_of_getElem? h)
    unfold oct at hx
    obtain ⟨m, rfl⟩ : ∃ m : Nat, x = (m : Int) := ⟨x.toNat, by omega⟩
    have e1 : ((k + i : Nat) : Int) + 1 = ((k + (i + 1) : Nat) : Int) := by omega
    have e2 : ((k + i : Nat) : Int) + 1 + (m : Int) = ((k + (i + 1 + m) : Nat) : Int) := by omega
    have e3 : (i : Int) + 1 = ((i + 1 : Nat) : Int) := by omega
    have e4 : (i : Int) + 1 + (m : Int) = ((i + 1 + m : Nat) : Int) := by omega
    simp only [e2, e4]
    simp only [e1, e3]
    rw [cut_drop]
theorem headAt_drop {os : List Int} (ho : ∀ o ∈ os, oct o) (k : Nat) (hk : k ≤ os.length) : headAt os (k : Int) = (headAt (os.drop k) 0).map fun x => ⟨x.nm, (k : Int) + x.b, (k : Int) + x.e, x.c⟩ := by
  have a1 : (k : Int) + 3 = ((k + 3 : Nat) : Int) := by omega
  have a2 : (k : Int) = ((k + 0 : Nat) : Int) := by omega
  have m1 : cutL os (some (k : Int)) (some ((k : Int) + 3)) = cutL (os.drop k) (some 0) (some (0 + 3)) := by
    rw [a1]
    conv => lhs; rw [a2]
    rw [cut_drop]
    rfl
  unfold headAt
  rw [m1]
  by_cases hm : cutL (os.drop k) (some 0) (some (0 + 3)) = [66, 80, 69]
  · rw [if_pos hm, if_pos hm]
    rw [show ((k : Int) + 3).toNat = k + 3 from by omega, nmAt_drop ho, show ((0 : Int) + 3).toNat = 3 from rfl]
    cases hn : nmAt (os.drop k) 3 with
    | none => rfl
    | some z =>
      simp only
      generalize hL : z.length = n
      have b1 : (k : Int) + 4 + (n : Int) = ((k + (4 + n) : Nat) : Int) := by omega
      have b2 : ((k + (4 + n) : Nat) : Int) + 3 = ((k + (7 + n) : Nat) : Int) := by omega
      have b3 : ((k + (4 + n) : Nat) : Int) + 7 = ((k + (11 + n) : Nat) : Int) := by omega
      have c1 : (0 : Int) + 4 + (n : Int) = ((4 + n : Nat) : Int) := by omega
      have c2 : ((4 + n : Nat) : Int) + 3 = ((7 + n : Nat) : Int) := by omega
      have c3 : ((4 + n : Nat) : Int) + 7 = ((11 + n : Nat) : Int) := by omega
      rw [b1, b2, b3, c1, c2, c3, cut_drop, cut_drop]
      generalize numb (cutL (os.drop k) (some ((4 + n : Nat) : Int)) (some ((7 + n : Nat) : Int))) = s
      have hl : (os.drop k).length = os.length - k := List.length_drop ..
      by_cases hc : s > 150000 ∨ ((11 + n : Nat) : Int) + s > ((os.drop k).length : Int)
      · rw [if_pos hc, if_pos (by omega)]
        rfl
      · rw [if_neg hc, if_neg (by omega)]
        have e1 : ((k + (11 + n) : Nat) : Int) = (k : Int) + ((11 + n : Nat) : Int) := by omega
        simp only [Option.map_some]
        rw [e1, Int.add_assoc]
  · rw [if_neg hm, if_neg hm]
    rfl
theorem isSnd_en {os : List Int} (ho : ∀ o ∈ os, oct o) (k : Nat) (hk : k ≤ os.length) : isSnd os (k : Int) = (enAt (os.drop k)).isSome ∧
    ∀ e, enAt (os.drop k) = some e → sndD os (k : Int) = .tup [.str e.1, .int ((k + (11 + e.1.length) : Nat) : Int), .int ((k + (entE e).length : Nat) : Int)] ∧ cutL os (some ((k + (11 + e.1.length) : Nat) : Int)) (some ((k + (entE e).length : Nat) : Int)) = e.2 := by
  have hd := headAt_drop ho k hk
  have hod := oct_drop ho k
  unfold isSnd sndD enAt
  rw [hd]
  cases h : headAt (os.drop k) 0 with
  | none => exact ⟨rfl, fun e z => by cases z⟩
  | some x =>
    have hok := headAt_ok hod (Int.le_refl 0) h
    obtain ⟨h1, h2, h3⟩ := hok
    have ec : cutL os (some ((k : Int) + x.b)) (some ((k : Int) + x.e)) = cutL (os.drop k) (some x.b) (some x.e) := by
      obtain ⟨b, hb⟩ : ∃ b : Nat, x.b = (b : Int) := ⟨x.b.toNat, by omega⟩
      obtain ⟨e, he⟩ : ∃ e : Nat, x.e = (e : Int) := ⟨x.e.toNat, by omega⟩
      rw [hb, he, show (k : Int) + (b : Int) = ((k + b : Nat) : Int) from by omega, show (k : Int) + (e : Int) = ((k + e : Nat) : Int) from by omega, cut_drop]
    simp only [Option.map_some]
    rw [ec]
    by_cases hc : x.c = chk 7 (cutL (os.drop k) (some x.b) (some x.e))
    · rw [if_pos hc]
      refine ⟨by simp [← hc], fun e he => ?_⟩
      have hen : enAt (os.drop k) = some e := by
        unfold enAt
        rw [h]
        simp only
        rw [if_pos hc]
        exact he
      obtain ⟨ok, post, hp⟩ := enAt_some hod hen
      obtain ⟨g1, g2, g3⟩ := head_of ok [] post 0 rfl
      rw [List.nil_append, ← hp] at g1 g2
      rw [show ((0 : Nat) : Int) = 0 from rfl, h] at g1
      have gx := Option.some.inj g1
      rw [gx]
      have q1 : (k : Int) + (hdOf 0 e).b = ((k + (11 + e.1.length) : Nat) : Int) := by
        show (k : Int) + ((0 + 11 + e.1.length : Nat) : Int) = _
        omega
      have q2 : (k : Int) + (hdOf 0 e).e = ((k + (entE e).length : Nat) : Int) := by
        show (k : Int) + ((0 + 11 + e.1.length + e.2.length : Nat) : Int) = _
        rw [ent_len]
        omega
      rw [← q1, ← q2]
      refine ⟨rfl, ?_⟩
      rw [gx] at ec
      rw [ec]
      exact g2
    · rw [if_neg hc]
      exact ⟨by simp [hc], fun e z => by cases z⟩
theorem enAt_len {l : List Int} {e : Pr} (ho : ∀ o ∈ l, oct o) (h : enAt l = some e) : (entE e).length ≤ l.length ∧ 12 ≤ (entE e).length := by
  obtain ⟨ok, post, rfl⟩ := enAt_some ho h
  have := name_len2 ok.1
  rw [List.length_append, ent_len]
  omega
theorem ent_pos (e : Pr) : 0 < (entE e).length := by
  rw [ent_len]
  omega
theorem enAt_nil : enAt [] = none := by decide +kernel
/-- the most octets from here on -/
def R (l : List Int) : Nat := match l with
  | [] => 0
  | o :: t => match enAt (o :: t) with
    | none => R t
    | some e => max (R t) ((entE e).length + R ((o :: t).drop (entE e).length))
termination_by l.length
decreasing_by
  all_goals simp_wf
  all_goals try rw [List.length_drop]
  all_goals (try have := @ent_pos ⟨fun _ => ""⟩ e)
  all_goals (try simp only [List.length_cons])
  all_goals omega
/-- the choice, at offsets from i on -/
def Ch (i : Nat) (l : List Int) : List (Nat × Pr) := match l with
  | [] => []
  | o :: t => match enAt (o :: t) with
    | none => Ch (i + 1) t
    | some e => if R (o :: t) = (entE e).length + R ((o :: t).drop (entE e).length) then (i, e) :: Ch (i + (entE e).length) ((o :: t).drop (entE e).length) else Ch (i + 1) t
termination_by l.length
decreasing_by
  all_goals simp_wf
  all_goals try rw [List.length_drop]
  all_goals (try have := @ent_pos ⟨fun _ => ""⟩ e)
  all_goals (try simp only [List.length_cons])
  all_goals omega
end AR
/-! The most octets, and the choice: what holds of them. -/
namespace AR
open PySem PySem.Spec PyProof.Rows L2 DI
variable [DI.Nm]
theorem R_nil : R [] = 0 := by rw [R]
theorem R_none {o : Int} {t : List Int} (h : enAt (o :: t) = none) : R (o :: t) = R t := by
  rw [R, h]
theorem R_some {o : Int} {t : List Int} {e : Pr} (h : enAt (o :: t) = some e) : R (o :: t) = max (R t) ((entE e).length + R ((o :: t).drop (entE e).length)) := by
  conv => lhs; rw [R, h]
theorem Ch_nil (i : Nat) : Ch i [] = [] := by rw [Ch]
theorem Ch_none {o : Int} {t : List Int} (h : enAt (o :: t) = none) (i : Nat) : Ch i (o :: t) = Ch (i + 1) t := by
  rw [Ch, h]
theorem Ch_some {o : Int} {t : List Int} {e : Pr} (h : enAt (o :: t) = some e) (i : Nat) : Ch i (o :: t) = if R (o :: t) = (entE e).length + R ((o :: t).drop (entE e).length) then (i, e) :: Ch (i + (entE e).length) ((o :: t).drop (entE e).length) else Ch (i + 1) t := by
  conv => lhs; rw [Ch, h]
theorem R_skip {o : Int} {t : List Int} {e : Pr} (h : enAt (o :: t) = some e) (hn : ¬ R (o :: t) = (entE e).length + R ((o :: t).drop (entE e).length)) : R (o :: t) = R t := by
  rw [R_some h] at hn ⊢
  omega
theorem enAt_zero (l : List Int) (ho : ∀ o ∈ l, oct o) : enAt (0 :: l) = none := by
  cases h : enAt (0 :: l) with
  | none => rfl
  | some e =>
    obtain ⟨ok, post, hp⟩ := enAt_some (l := 0 :: l) (fun o m => by
      rcases List.mem_cons.mp m with rfl | m
      · unfold oct; decide
      · exact ho o m) h
    unfold entE ent at hp
    simp at hp
end AR
/-! All sound entries, in order; the tables; what the defs of salvaging say. -/
namespace AR
open PySem PySem.Spec PyProof.Rows L2 DI
variable [DI.Nm]
def sf : Nat → List Int → List (Nat × Pr)
  | _, [] => []
  | i, o :: t => match enAt (o :: t) with
    | none => sf (i + 1) t
    | some e => (i, e) :: sf (i + 1) t
theorem sf_none {o : Int} {t : List Int} (h : enAt (o :: t) = none) (i : Nat) : sf i (o :: t) = sf (i + 1) t := by
  rw [sf, h]
theorem sf_some {o : Int} {t : List Int} {e : Pr} (h : enAt (o :: t) = some e) (i : Nat) : sf i (o :: t) = (i, e) :: sf (i + 1) t := by
  rw [sf, h]
theorem sf_mem : ∀ (l : List Int) (i k : Nat) (e : Pr), (k, e) ∈ sf i l ↔ ∃ d, k = i + d ∧ enAt (l.drop d) = some e := by
  intro l
  induction l with
  | nil =>
    intro i k e
    constructor
    · intro h; cases h
    · intro ⟨d, _, h⟩
      rw [List.drop_nil, enAt_nil] at h
      cases h
  | cons o t ih =>
    intro i k e
    cases h : enAt (o :: t) with
    | none =>
      rw [sf_none h, ih]
      constructor
      · intro ⟨d, h1, h2⟩
        exact ⟨d + 1, by omega, h2⟩
      · intro ⟨d, h1, h2⟩
        cases d with
        | zero => rw [List.drop_zero, h] at h2; cases h2
        | succ d => exact ⟨d, by omega, h2⟩
    | some f =>
      rw [sf_some h, List.mem_cons, ih]
      constructor
      · rintro (h1 | ⟨d, h1, h2⟩)
        · injection h1 with h1 h2
          subst h1 h2
          exact ⟨0, rfl, h⟩
        · exact ⟨d + 1, by omega, h2⟩
      · intro ⟨d, h1, h2⟩
        cases d with
        | zero =>
          rw [List.drop_zero, h] at h2
          cases h2
          exact .inl (by rw [h1]; rfl)
        | succ d => exact .inr ⟨d, by omega, h2⟩
theorem sf_range (os : List Int) : ∀ (l : List Int) (i : Nat), os.drop i = l → (sf i l).map (·.1) = (List.range' i l.length).filter fun k => (enAt (os.drop k)).isSome := by
  intro l
  induction l with
  | nil => intro i _; rfl
  | cons o t ih =>
    intro i hi
    have ht : os.drop (i + 1) = t := by
      rw [← List.drop_drop, hi]
      rfl
    rw [List.length_cons, List.range'_succ]
    cases h : enAt (o :: t) with
    | none =>
      rw [sf_none h, List.filter_cons, hi, h, ih (i + 1) ht]
      rfl
    | some e =>
      rw [sf_some h, List.filter_cons, hi, h, List.map_cons, ih (i + 1) ht]
      rfl
theorem filter_lt {p : Nat → Bool} {m : Nat} : ∀ n, m ≤ n → (∀ i, i < n → p i = true → i < m) → (List.range n).filter p = (List.range m).filter p := by
  intro n
  induction n with
  | zero => intro h _; rw [Nat.le_zero.mp h]
  | succ n ih =>
    intro h hp
    by_cases e : m = n + 1
    · rw [e]
    · rw [List.range_succ, List.filter_append, ih (by omega) fun i hi => hp i (by omega)]
      have : p n = false := by
        cases q : p n with
        | false => rfl
        | true => have := hp n (by omega) q; omega
      simp [this]
theorem dd_id {l : List Int} (h : l.Nodup) : dd l = l := by
  have go : ∀ (l acc : List Int), (acc ++ l).Nodup → l.foldl addI acc = acc ++ l := by
    intro l
    induction l with
    | nil => intro acc _; simp
    | cons x t ih =>
      intro acc h
      have hx : x ∉ acc := fun m => by
        have q := (List.nodup_append.mp h).2.2 x m x List.mem_cons_self
        exact q rfl
      have e : addI acc x = acc ++ [x] := by
        unfold addI
        rw [if_neg hx]
      show t.foldl addI (addI acc x) = _
      rw [e, ih _ (by rw [List.append_assoc]; exact h), List.append_assoc]
      rfl
  exact go l [] h
/-! marks -/
def isMk (os : List Int) (i : Nat) : Bool := decide (os.getD i 0 = 66) && (decide (os.getD (i + 1) 0 = 80) && decide (os.getD (i + 2) 0 = 69))
def marks (os : List Int) : List Int := ((List.range (os.length - 2)).filter (isMk os)).map fun (i : Nat) => (i : Int)
def sl (os : List Int) : List Int := (sf 0 os).map fun x => (x.1 : Int)
theorem en_mark {os : List Int} (ho : ∀ o ∈ os, oct o) {i : Nat} (h : (enAt (os.drop i)).isSome = true) : isMk os i = true ∧ i < os.length - 2 := by
  obtain ⟨e, he⟩ := Option.isSome_iff_exists.mp h
  obtain ⟨ok, post, hp⟩ := enAt_some (oct_drop ho i) he
  have hl := enAt_len (oct_drop ho i) he
  rw [List.length_drop] at hl
  have g : ∀ k, os.getD (i + k) 0 = (entE e ++ post).getD k 0 := fun k => by
    rw [← hp, List.getD_eq_getElem?_getD, List.getD_eq_getElem?_getD, List.getElem?_drop]
  refine ⟨?_, by omega⟩
  unfold isMk
  have g0 := g 0
  rw [Nat.add_zero] at g0
  rw [g0, g 1, g 2]
  rfl
theorem sndL_marks {os : List Int} (ho : ∀ o ∈ os, oct o) : sndL os (marks os) = sl os := by
  have hnd : (marks os).Nodup := by
    unfold marks
    exact (List.Pairwise.filter _ (List.nodup_range (n := os.length - 2))).map _ fun a b h e => h (by omega)
  unfold sndL
  rw [dd_id (hnd.filter _), List.filter_filter]
  have e1 : ((marks os).filter fun a => isSnd os a && isHd os a) = (marks os).filter (isSnd os) := by
    refine List.filter_congr fun a _ => ?_
    unfold isSnd isHd
    cases headAt os a with
    | none => rfl
    | some x => simp
  rw [e1]
  unfold sl
  have e2 : (sf 0 os).map (fun x => (x.1 : Int)) = ((sf 0 os).map (·.1)).map fun (i : Nat) => (i : Int) := by rw [List.map_map]; rfl
  rw [e2, sf_range os os 0 rfl]
  unfold marks
  rw [List.filter_map]
  congr 1
  rw [List.filter_filter, ← List.range_eq_range']
  rw [filter_lt (m := os.length - 2) os.length (by omega) fun i _ h => (en_mark ho h).2]
  refine List.filter_congr fun i hi => ?_
  have hi := List.mem_range.mp hi
  have hs := (isSnd_en ho i (by omega)).1
  show (isSnd os (i : Int) && isMk os i) = _
  rw [hs]
  cases h : (enAt (os.drop i)).isSome with
  | false => rfl
  | true => rw [(en_mark ho h).1]; rfl
/-- the dict of the sound entries -/
def soundD (os : List Int) : D := .dct (kI (sl os)) ((sl os).map (sndD os))
theorem sl_mem {os : List Int} (k : Nat) : (k : Int) ∈ sl os ↔ (enAt (os.drop k)).isSome = true := by
  unfold sl
  rw [List.mem_map]
  constructor
  · rintro ⟨⟨j, e⟩, m, h⟩
    have h : (j : Int) = (k : Int) := h
    have h : j = k := by omega
    subst h
    obtain ⟨d, d1, d2⟩ := (sf_mem os 0 j e).mp m
    rw [show j = d from by omega, d2]
    rfl
  · intro h
    obtain ⟨e, he⟩ := Option.isSome_iff_exists.mp h
    exact ⟨(k, e), (sf_mem os 0 k e).mpr ⟨k, by omega, he⟩, rfl⟩
theorem sound_in {os : List Int} (k : Nat) : gDIn (.int (k : Int)) (soundD os) = some (.bl (enAt (os.drop k)).isSome) := by
  show (keyD (.int (k : Int))).map (fun x => D.bl (hasK (kI (sl os)) x)) = _
  have e : hasK (kI (sl os)) (Sum.inl (k : Int)) = (enAt (os.drop k)).isSome := by
    rw [hasK_kI]
    cases h : (enAt (os.drop k)).isSome with
    | true => exact decide_eq_true ((sl_mem k).mpr h)
    | false => exact decide_eq_false fun m => by rw [(sl_mem k).mp m] at h; cases h
  show some (D.bl (hasK (kI (sl os)) (Sum.inl (k : Int)))) = _
  rw [e]
def seD (x : Nat × Pr) : D := .tup [.str x.2.1, .int ((x.1 + (11 + x.2.1.length) : Nat) : Int), .int ((x.1 + (entE x.2).length : Nat) : Int)]
theorem en_lt {os : List Int} {k : Nat} {e : Pr} (h : enAt (os.drop k) = some e) : k < os.length := by
  apply Decidable.byContradiction
  intro hn
  rw [List.drop_of_length_le (by omega), enAt_nil] at h
  cases h
theorem sound_get {os : List Int} (ho : ∀ o ∈ os, oct o) {k : Nat} {e : Pr} (h : enAt (os.drop k) = some e) : gDGet (soundD os) (.int (k : Int)) = some (seD (k, e)) := by
  show dGet (kI (sl os)) ((sl os).map (sndD os)) (Sum.inl (k : Int)) = _
  rw [get_kI, if_pos ((sl_mem k).mpr (by rw [h]; rfl)), ((isSnd_en ho k (Nat.le_of_lt (en_lt h))).2 e h).1]
  rfl
theorem sound_items {os : List Int} (ho : ∀ o ∈ os, oct o) : itemsD (kI (sl os)) ((sl os).map (sndD os)) = (sf 0 os).map fun x => .tup [.int (x.1 : Int), seD x] := by
  rw [items_kI]
  unfold sl
  rw [List.map_map]
  refine List.map_congr_left fun x mx => ?_
  obtain ⟨k, e⟩ := x
  obtain ⟨d, d1, d2⟩ := (sf_mem os 0 k e).mp mx
  have d1 : k = d := by omega
  subst d1
  show D.tup [.int (k : Int), sndD os (k : Int)] = _
  rw [((isSnd_en ho k (Nat.le_of_lt (en_lt d2))).2 e d2).1]
  rfl
def tab (os : List Int) : List Int := (List.range (os.length + 1)).map fun i => (R (os.drop i) : Int)
def choD (x : Nat × Pr) : D := .tup [.int (x.1 : Int), .str x.2.1, .tup (oc x.2.2)]
theorem tab_len (os : List Int) : (tab os).length = os.length + 1 := by unfold tab; rw [List.length_map, List.length_range]
theorem tab_get {os : List Int} {k : Nat} (h : k ≤ os.length) : (tab os)[k]? = some (R (os.drop k) : Int) := by
  unfold tab
  rw [List.getElem?_map, List.getElem?_range (by omega)]
  rfl
theorem at32 {α : Type} {a b c : α} : atI [a, b, c] 2 = some c := rfl
theorem rep_oc (v : Int) (n : Nat) : (List.replicate n [D.int v]).flatten = oc (List.replicate n v) := by
  induction n with
  | zero => rfl
  | succ n ih => rw [List.replicate_succ, List.flatten_cons, ih, List.replicate_succ]; rfl
theorem rep_one (v : Int) (n : Nat) : gRep (.lst [.int v]) (.int (n : Int)) = some (.lst (oc (List.replicate n v))) := by
  show some (D.lst (List.replicate ((n : Int)).toNat [D.int v]).flatten) = _
  rw [rep_oc]
  rfl
theorem crep_one (d : D) {n : Nat} (h : n ≤ 16000000) : cRep (.lst [d]) (.int (n : Int)) := by
  refine ⟨by omega, by omega, ?_⟩
  show 1 * ((n : Int)).toNat ≤ sizeLine
  rw [Nat.one_mul, Int.toNat_natCast]
  exact line_of h
def F_marked_offsets : FT := ⟨fun ds n Q => ∃ os, ds = [.tup (oc os)] ∧ os.length ≤ 5000000 ∧ Q (.lst (oc (marks os))) n, fun ds n P P' h ⟨a, e, l, q⟩ => ⟨a, e, l, h _ _ q⟩⟩
def F__most_octets : FT := ⟨fun ds n Q => ∃ os : List Int, ds = [.int (os.length : Int), soundD os] ∧ (∀ o ∈ os, oct o) ∧ os.length ≤ 5000000 ∧ Q (.lst (oc (tab os))) n, fun ds n P P' h ⟨a, e, o, l, q⟩ => ⟨a, e, o, l, h _ _ q⟩⟩
def F_chosen_entries : FT := ⟨fun ds n Q => ∃ os, ds = [.tup (oc os)] ∧ (∀ o ∈ os, oct o) ∧ os.length ≤ 5000000 ∧ Q (.tup ((Ch 0 os).map choD)) n, fun ds n P P' h ⟨a, e, o, l, q⟩ => ⟨a, e, o, l, h _ _ q⟩⟩
abbrev F_salvage : FT := F_chosen_entries
def F_remains : FT := ⟨fun ds n Q => ∃ os, ds = [.tup (oc os)] ∧ (∀ o ∈ os, oct o) ∧ os.length ≤ 5000000 ∧ Q (.tup (oc (tab os))) n, fun ds n P P' h ⟨a, e, o, l, q⟩ => ⟨a, e, o, l, h _ _ q⟩⟩
end AR
/-! The laws' own reading of entries. -/
namespace AR
open PySem PySem.Spec PyProof.Rows L2 DI
variable [DI.Nm]
theorem tab_at {os : List Int} {k : Nat} (h : k ≤ os.length) : atI (oc (tab os)) (k : Int) = some (.int (R (os.drop k) : Int)) := by
  rw [DI.atI_nat]
  unfold oc
  rw [List.getElem?_map, tab_get h]
  rfl
theorem tab_zero (os : List Int) : atI (oc (tab os)) 0 = some (.int (R os : Int)) := tab_at (k := 0) (Nat.zero_le _)
theorem Ch_len : ∀ (m : Nat) (l : List Int) (i : Nat), l.length ≤ m → (Ch i l).length ≤ l.length := by
  intro m
  induction m with
  | zero =>
    intro l i hn
    have e : l = [] := List.length_eq_zero_iff.mp (by omega)
    subst e
    rw [Ch_nil]
    exact Nat.le_refl _
  | succ m ih =>
    intro l i hn
    cases l with
    | nil => rw [Ch_nil]; exact Nat.le_refl _
    | cons o t =>
      simp only [List.length_cons] at hn
      have i1 := ih t (i + 1) (by omega)
      cases h : enAt (o :: t) with
      | none => rw [Ch_none h, List.length_cons]; omega
      | some e =>
        have hp := ent_pos e
        rw [Ch_some h]
        split
        · have i2 := ih ((o :: t).drop (entE e).length) (i + (entE e).length) (by rw [List.length_drop, List.length_cons]; omega)
          rw [List.length_drop] at i2
          simp only [List.length_cons] at *
          omega
        · simp only [List.length_cons]
          omega
/-- it begins ahead of a border and ends behind it -/
def ov (al : Nat) (x : Nat × Pr) : Bool := decide (x.1 < al) && decide (al < x.1 + (entE x.2).length)
theorem at0c {α : Type} {a : α} {l : List α} : atI (a :: l) 0 = some a := by
  have z := DI.atI_nat (xs := a :: l) (i := 0)
  simpa using z
theorem at1c {α : Type} {a b : α} {l : List α} : atI (a :: b :: l) 1 = some b := by
  have z := DI.atI_nat (xs := a :: b :: l) (i := 1)
  simpa using z
theorem e_listT {ds : List D} : gList [.tup ds] = some (.lst ds) := rfl
theorem e_listL {ds : List D} : gList [.lst ds] = some (.lst ds) := rfl
theorem e_intB {b : Bool} : gInt [.bl b] = some (.int (if b then 1 else 0)) := rfl
/-- an octet that a name may have -/
def nmO (o : Int) : Prop := (45 ≤ o ∧ o ≤ 57) ∨ (97 ≤ o ∧ o ≤ 122)
instance (o : Int) : Decidable (nmO o) := by unfold nmO; infer_instance
end AR
/-! Tables of remains that are handed in, and choices that are handed in. -/
namespace AR
open PySem PySem.Spec PyProof.Rows L2 DI
variable [DI.Nm]
section
variable {ge : D → List Sl → Option (List Sl)} {vs : List Nat} {tt : WT} {te : W} {env : List Sl}
end
def tb (ns : List Int) (i : Nat) : Int := ns.getD i 0
/-- the octets of a choice -/
def kp (os : List Int) : Nat → List Nat → Option Nat
  | _, [] => some 0
  | edge, k :: t => if k < edge then none else match enAt (os.drop k) with
    | none => none
    | some e => (kp os (k + (entE e).length) t).map (· + (entE e).length)
end AR
/-! All choices, and the best of them. -/
namespace AR
open PySem PySem.Spec PyProof.Rows L2 DI
variable [DI.Nm]
/-- how many octets a choice takes -/
def tot (c : List (Nat × Pr)) : Nat := (c.map fun x => (entE x.2).length).sum
/-- the entries of a choice follow one another, from an offset on -/
def chn : Nat → List (Nat × Pr) → Prop
  | _, [] => True
  | j, x :: r => j ≤ x.1 ∧ chn (x.1 + (entE x.2).length) r
def fitB (x : Nat × Pr) (c : List (Nat × Pr)) : Bool := match c.getLast? with
  | none => true
  | some y => decide (y.1 + (entE y.2).length ≤ x.1)
def stepAll (F : List (List (Nat × Pr))) (x : Nat × Pr) : List (List (Nat × Pr)) := F ++ (F.filter (fitB x)).map (· ++ [x])
def choices (es : List (Nat × Pr)) : List (List (Nat × Pr)) := es.foldl stepAll [[]]
def valid (os : List Int) (c : List (Nat × Pr)) : Prop := ∀ x ∈ c, enAt (os.drop x.1) = some x.2
theorem sf_drop : ∀ (d : Nat) (l : List Int) (i : Nat), (sf (i + d) (l.drop d)).Sublist (sf i l)
  | 0, l, i => by rw [List.drop_zero]; exact List.Sublist.refl _
  | d + 1, [], i => by rw [List.drop_nil]; exact List.Sublist.refl _
  | d + 1, o :: t, i => by
    have i1 := sf_drop d t (i + 1)
    rw [List.drop_succ_cons, show i + (d + 1) = i + 1 + d from by omega]
    cases h : enAt (o :: t) with
    | none => rw [sf_none h]; exact i1
    | some e => rw [sf_some h]; exact i1.trans (List.sublist_cons_self _ _)
theorem Ch_all (os : List Int) : ∀ (m j : Nat), os.length - j ≤ m → chn j (Ch j (os.drop j)) ∧ valid os (Ch j (os.drop j)) ∧ tot (Ch j (os.drop j)) = R (os.drop j) ∧ (Ch j (os.drop j)).Sublist (sf j (os.drop j)) := by
  intro m
  induction m with
  | zero =>
    intro j h
    have e : os.drop j = [] := List.drop_of_length_le (by omega)
    rw [e, Ch_nil, R_nil]
    exact ⟨trivial, fun x m => (List.not_mem_nil m).elim, rfl, List.nil_sublist _⟩
  | succ m ih =>
    intro j h
    by_cases hj : j < os.length
    · have ed : os.drop j = os[j] :: os.drop (j + 1) := List.drop_eq_getElem_cons hj
      cases hn : enAt (os.drop j) with
      | none =>
        rw [ed] at hn ⊢
        rw [Ch_none hn, R_none hn, sf_none hn]
        obtain ⟨h1, h2, h3, h4⟩ := ih (j + 1) (by omega)
        refine ⟨?_, h2, h3, h4⟩
        revert h1
        cases Ch (j + 1) (os.drop (j + 1)) with
        | nil => exact fun _ => trivial
        | cons x r => exact fun h => ⟨by have := h.1; omega, h.2⟩
      | some e =>
        have hv : enAt (os.drop j) = some e := hn
        rw [ed] at hn ⊢
        rw [Ch_some hn, sf_some hn]
        have hp := ent_pos e
        have ed2 : (os[j] :: os.drop (j + 1)).drop (entE e).length = os.drop (j + (entE e).length) := by rw [← ed, List.drop_drop]
        rw [ed2]
        by_cases hR : R (os[j] :: os.drop (j + 1)) = (entE e).length + R (os.drop (j + (entE e).length))
        · rw [if_pos hR, hR]
          obtain ⟨h1, h2, h3, h4⟩ := ih (j + (entE e).length) (by omega)
          refine ⟨⟨Nat.le_refl _, h1⟩, fun x mx => ?_, ?_, ?_⟩
          · rcases List.mem_cons.mp mx with rfl | mx
            · exact hv
            · exact h2 x mx
          · show (entE e).length + tot _ = _
            rw [h3]
          · refine List.Sublist.cons₂ _ (h4.trans ?_)
            have z := sf_drop ((entE e).length - 1) (os.drop (j + 1)) (j + 1)
            rw [List.drop_drop, show j + 1 + ((entE e).length - 1) = j + (entE e).length from by omega] at z
            exact z
        · rw [if_neg hR, R_skip hn (by rw [ed2]; exact hR)]
          obtain ⟨h1, h2, h3, h4⟩ := ih (j + 1) (by omega)
          refine ⟨?_, h2, h3, h4.trans (List.sublist_cons_self _ _)⟩
          revert h1
          cases Ch (j + 1) (os.drop (j + 1)) with
          | nil => exact fun _ => trivial
          | cons x r => exact fun h => ⟨by have := h.1; omega, h.2⟩
    · exact ih j (by omega)
/-! ahead -/
/-! the best -/
end AR
/-! Objects of any kind where octets, names or entries are asked for. -/
namespace AR
open PySem PySem.Spec PyProof.Rows L2 DI
variable [DI.Nm]
theorem Good.front {ps qs : List Pr} (h : Good (ps ++ qs)) : Good ps := by
  have hm := h.many
  have hn := h.nd
  rw [List.length_append] at hm
  rw [List.map_append, List.nodup_append] at hn
  exact ⟨by omega, fun e m => h.all e (List.mem_append_left _ m), hn.1⟩
end AR
/-! Archives: the faults, row by row, in the words of entries. -/
namespace AR
open PySem PySem.Spec PyProof.Rows L2 DI
variable [DI.Nm]
/-- the entry that a row tells -/
def enT (os : List Int) (lim : Int) (r : Rw) : Option Pr := match enAt (os.drop r.off.toNat) with
  | some e => if r.nm = e.1 ∧ r.off + (entE e).length ≤ lim ∧ r.size = e.2.length ∧ r.c = chk 7 e.2 then some e else none
  | none => none
/-- the faults of rows, from a place on, behind some names -/
def gs (os : List Int) (lim : Int) : Int → List Str → List Rw → List (Str × Int)
  | pos, _, [] => if pos < lim then [(("gap" : Str), pos)] else []
  | pos, seen, r :: rs => match enT os lim r with
    | none => (("bad entry" : Str), r.off) :: gs os lim pos seen rs
    | some e => if r.off < pos ∨ r.nm ∈ seen then (("bad entry" : Str), r.off) :: gs os lim pos seen rs
      else (if r.off > pos then [(("gap" : Str), pos)] else []) ++ gs os lim (r.off + (entE e).length) (seen ++ [r.nm]) rs
/-- the entries of good rows -/
def gE (os : List Int) (lim : Int) : Int → List Str → List Rw → List Pr
  | _, _, [] => []
  | pos, seen, r :: rs => match enT os lim r with
    | none => gE os lim pos seen rs
    | some e => if r.off < pos ∨ r.nm ∈ seen then gE os lim pos seen rs else e :: gE os lim (r.off + (entE e).length) (seen ++ [r.nm]) rs
end AR
/-! An archive of which one octet is another one, is more or is left out. -/
namespace AR
open PySem PySem.Spec PyProof.Rows L2 DI
variable [DI.Nm]
theorem gs_ok {os : List Int} {lim pos : Int} {seen : List Str} {r : Rw} {rs : List Rw} {e : Pr} (q : enT os lim r = some e) (h : ¬ (r.off < pos ∨ r.nm ∈ seen)) :
    gs os lim pos seen (r :: rs) = (if r.off > pos then [(("gap" : Str), pos)] else []) ++ gs os lim (r.off + (entE e).length) (seen ++ [r.nm]) rs ∧ gE os lim pos seen (r :: rs) = e :: gE os lim (r.off + (entE e).length) (seen ++ [r.nm]) rs := by
  constructor
  · rw [gs, q]
    simp only
    rw [if_neg h]
  · rw [gE, q]
    simp only
    rw [if_neg h]
theorem gs_bad {os : List Int} {lim pos : Int} {seen : List Str} {r : Rw} {rs : List Rw} (h : enT os lim r = none ∨ r.off < pos ∨ r.nm ∈ seen) :
    gs os lim pos seen (r :: rs) = (("bad entry" : Str), r.off) :: gs os lim pos seen rs ∧ gE os lim pos seen (r :: rs) = gE os lim pos seen rs := by
  constructor
  · rw [gs]
    cases q : enT os lim r with
    | none => rfl
    | some e =>
      rw [q] at h
      simp only
      rw [if_pos (h.resolve_left (fun z => nomatch z))]
  · rw [gE]
    cases q : enT os lim r with
    | none => rfl
    | some e =>
      rw [q] at h
      simp only
      rw [if_pos (h.resolve_left (fun z => nomatch z))]
end AR
/-! The end of octets; archives of which one octet is another one. -/
namespace AR
open PySem PySem.Spec PyProof.Rows L2 DI
variable [DI.Nm]
end AR
/-! Archives whose directory or end has another octet, or with an octet more or less. -/
namespace AR
open PySem PySem.Spec PyProof.Rows L2 DI
variable [DI.Nm]
end AR
/-! What may be raised where data is asked for. -/
namespace AR
open PySem PySem.Spec PyProof.Rows L2 DI
variable [DI.Nm]
/-- no data: the first odd element, or none where it is no tuple -/
def noDat (ds : List D) (Z : Er → Prop) : Prop := (∃ xs i, ds = [.tup xs] ∧ (∀ x ∈ xs, tyOk x) ∧ oddAt 0 xs = .int i ∧ Z ("BadOctets", [("index", .int i)])) ∨ ∃ d t, ds = [d] ∧ tyD d = some t ∧ t ≠ "tuple" ∧ Z ("BadOctets", [("index", .non)])
theorem noDat.mono {ds : List D} {Z Z' : Er → Prop} (h : ∀ e, Z e → Z' e) : noDat ds Z → noDat ds Z' := Or.imp (fun ⟨xs, i, a, b, c, k⟩ => ⟨xs, i, a, b, c, h _ k⟩) fun ⟨d, t, a, b, c, k⟩ => ⟨d, t, a, b, c, h _ k⟩
/-! ### lists of faults -/
end AR
/-! Directories typed by hand. -/
namespace AR
open PySem PySem.Spec PyProof.Rows L2 DI
variable [DI.Nm]
theorem enT_eq {os : List Int} {k : Nat} {e : Pr} (h : enAt (os.drop k) = some e) (lim : Int) (nm : Str) (sz c : Int) : enT os lim ⟨nm, (k : Int), sz, c⟩ = if nm = e.1 ∧ (k : Int) + (entE e).length ≤ lim ∧ sz = e.2.length ∧ c = chk 7 e.2 then some e else none := by
  unfold enT
  rw [show ((⟨nm, (k : Int), sz, c⟩ : Rw).off).toNat = k from rfl, h]
theorem enAt_not {l : List Int} (ho : ∀ o ∈ l, oct o) (h : l.take 3 ≠ [66, 80, 69]) : enAt l = none := by
  cases q : enAt l with
  | none => rfl
  | some e =>
    obtain ⟨_, post, hp⟩ := enAt_some ho q
    exact absurd (by rw [hp]; rfl) h
end AR
/-! Two entries and a hole between them: what is told of rows in all orders. -/
namespace AR
open PySem PySem.Spec PyProof.Rows L2 DI
variable [DI.Nm]
theorem gs_end (os : List Int) (lim pos : Int) (seen : List Str) : gs os lim pos seen [] = if pos < lim then [(("gap" : Str), pos)] else [] := by
  rw [gs]
theorem gs_on {os : List Int} {lim pos : Int} {seen : List Str} {r : Rw} {rs : List Rw} {e : Pr} (q : enT os lim r = some e) (h : r.off = pos) (hn : r.nm ∉ seen) : gs os lim pos seen (r :: rs) = gs os lim (pos + (entE e).length) (seen ++ [r.nm]) rs := by
  rw [(gs_ok (pos := pos) (seen := seen) (rs := rs) q (fun z => z.elim (fun z => absurd z (by omega)) hn)).1, if_neg (by omega), h]
  rfl
theorem gs_gap {os : List Int} {lim pos : Int} {seen : List Str} {r : Rw} {rs : List Rw} {e : Pr} (q : enT os lim r = some e) (h : pos < r.off) (hn : r.nm ∉ seen) : gs os lim pos seen (r :: rs) = (("gap" : Str), pos) :: gs os lim (r.off + (entE e).length) (seen ++ [r.nm]) rs := by
  rw [(gs_ok (pos := pos) (seen := seen) (rs := rs) q (fun z => z.elim (fun z => absurd z (by omega)) hn)).1, if_pos h]
  rfl
/-- a row with three numbers -/
def rwR (e : Pr) (k : Nat) : Rw := ⟨e.1, (k : Int), (e.2.length : Int), chk 7 e.2⟩
theorem enT_row {os : List Int} {k : Nat} {e : Pr} {lim : Int} (h : enAt (os.drop k) = some e) (hl : (k : Int) + (entE e).length ≤ lim) : enT os lim (rwR e k) = some e := by
  unfold rwR
  rw [enT_eq h, if_pos ⟨rfl, hl, rfl, rfl⟩]
structure Two (os : List Int) (fl far last : Nat) (ea eb : Pr) : Prop where
  A : enAt (os.drop 0) = some ea
  lA : (entE ea).length = fl
  le : fl ≤ far
  B : enAt (os.drop far) = some eb
  lB : far + (entE eb).length = last
theorem entE_pos (e : Pr) : 0 < (entE e).length := by
  rw [ent_len]
  omega
namespace Two
variable {os : List Int} {fl far last : Nat} {ea eb : Pr} (h : Two os fl far last ea eb)
include h
theorem fl0 : 0 < fl := h.lA ▸ entE_pos ea
theorem tA : enT os (last : Int) (rwR ea 0) = some ea := enT_row h.A (by have := h.lA; have := h.le; have := h.lB; omega)
theorem tB : enT os (last : Int) (rwR eb far) = some eb := enT_row h.B (by have := h.lB; omega)
theorem lt : far < last := by have := entE_pos eb; have := h.lB; omega
theorem on_a (rs : List Rw) : gs os (last : Int) 0 [] (rwR ea 0 :: rs) = gs os (last : Int) (fl : Int) [ea.1] rs := by
  rw [gs_on h.tA (show (rwR ea 0).off = 0 from rfl) List.not_mem_nil, h.lA]
  show gs os _ (0 + (fl : Int)) ([] ++ [ea.1]) rs = _
  rw [Int.zero_add]
  rfl
def hl (fl far : Nat) : List (Str × Int) := if fl < far then [(("gap" : Str), (fl : Int))] else []
theorem on_b (ne : ea.1 ≠ eb.1) (rs : List Rw) : gs os (last : Int) (fl : Int) [ea.1] (rwR eb far :: rs) = hl fl far ++ gs os (last : Int) (last : Int) [ea.1, eb.1] rs := by
  have hn : eb.1 ∉ [ea.1] := fun m => ne (List.mem_singleton.mp m).symm
  have hB := h.lB
  have hle := h.le
  unfold hl
  by_cases c : fl < far
  · rw [if_pos c, gs_gap h.tB (show (fl : Int) < (far : Int) from by omega) hn]
    show _ :: gs os _ ((far : Int) + _) ([ea.1] ++ [eb.1]) rs = _
    rw [show (far : Int) + ((entE eb).length : Int) = (last : Int) from by omega]
    rfl
  · rw [if_neg c, gs_on h.tB (show (far : Int) = (fl : Int) from by omega) hn, show (fl : Int) + ((entE eb).length : Int) = (last : Int) from by omega]
    rfl
theorem e0 (seen : List Str) : gs os (last : Int) (last : Int) seen [] = [] := by rw [gs_end, if_neg (by omega)]
theorem eF (seen : List Str) : gs os (last : Int) (fl : Int) seen [] = [(("gap" : Str), (fl : Int))] := by rw [gs_end, if_pos (by have := h.lt; have := h.le; omega)]
theorem c1 (ne : ea.1 ≠ eb.1) : gs os (last : Int) 0 [] [rwR ea 0, rwR eb far] = hl fl far := by rw [h.on_a, h.on_b ne, h.e0, List.append_nil]
theorem c2 : gs os (last : Int) 0 [] [rwR ea 0] = [(("gap" : Str), (fl : Int))] := by rw [h.on_a, h.eF]
theorem c3 : gs os (last : Int) 0 [] [rwR eb far] = [(("gap" : Str), 0)] := by
  have := h.fl0
  have := h.le
  rw [gs_gap h.tB (show (0 : Int) < (far : Int) from by omega) List.not_mem_nil]
  show _ :: gs os _ ((far : Int) + _) ([] ++ [eb.1]) [] = _
  rw [show (far : Int) + ((entE eb).length : Int) = (last : Int) from by have := h.lB; omega, h.e0]
theorem c4 : gs os (last : Int) 0 [] [] = [(("gap" : Str), 0)] := by
  have := h.lt
  rw [gs_end, if_pos (by omega)]
theorem c5 : gs os (last : Int) 0 [] [rwR eb far, rwR ea 0] = [(("gap" : Str), 0), (("bad entry" : Str), 0)] := by
  have := h.fl0
  have := h.le
  have := h.lt
  rw [gs_gap h.tB (show (0 : Int) < (far : Int) from by omega) List.not_mem_nil]
  show _ :: gs os _ ((far : Int) + _) ([] ++ [eb.1]) [rwR ea 0] = _
  rw [show (far : Int) + ((entE eb).length : Int) = (last : Int) from by have := h.lB; omega, (gs_bad (.inr (.inl (show (0 : Int) < (last : Int) from by omega)))).1, h.e0]
  rfl
theorem c6 (ne : ea.1 ≠ eb.1) : gs os (last : Int) 0 [] [rwR ea 0, rwR ea 0, rwR eb far] = (("bad entry" : Str), 0) :: hl fl far := by
  have := h.fl0
  rw [h.on_a, (gs_bad (.inr (.inl (show (0 : Int) < (fl : Int) from by omega)))).1, h.on_b ne, h.e0, List.append_nil]
  rfl
theorem c7 (ne : ea.1 ≠ eb.1) : gs os (last : Int) 0 [] [rwR ea 0, rwR eb far, rwR eb far] = hl fl far ++ [(("bad entry" : Str), (far : Int))] := by
  have := h.lt
  rw [h.on_a, h.on_b ne, (gs_bad (.inr (.inl (show (far : Int) < (last : Int) from by omega)))).1, h.e0]
  rfl
theorem c8 {r : Rw} (hr : enT os (last : Int) r = none ∨ r.nm = ea.1) : gs os (last : Int) 0 [] [rwR ea 0, r] = [(("bad entry" : Str), r.off), (("gap" : Str), (fl : Int))] := by
  rw [h.on_a, (gs_bad (hr.imp id fun z => .inr (by rw [z]; exact List.mem_singleton_self _))).1, h.eF]
end Two
end AR
/-! Directories that are none. -/
namespace AR
open PySem PySem.Spec PyProof.Rows L2 DI
variable [DI.Nm]
end AR
/-! An entry alone has no end. -/
namespace AR
open PySem PySem.Spec PyProof.Rows L2 DI
variable [DI.Nm]
theorem n3 : ∀ k : Fin 10, numO 3 ((k.val : Nat) : Int) = [0, 0, ((k.val : Nat) : Int)] := by decide +kernel
end AR
/-! What has no fault is the archive of its entries; archives that are cut; entries that stand alone. -/
namespace AR
open PySem PySem.Spec PyProof.Rows L2 DI
variable [DI.Nm]
/-! ### entries that stand apart, and no others -/
theorem R_run : ∀ (n : Nat) (l : List Int) (i : Nat), (∀ d, d < n → enAt (l.drop d) = none) → n ≤ l.length → R l = R (l.drop n) ∧ Ch i l = Ch (i + n) (l.drop n) := by
  intro n
  induction n with
  | zero => intro l i _ _; exact ⟨rfl, rfl⟩
  | succ n ih =>
    intro l i h hl
    cases l with
    | nil => simp at hl
    | cons o t =>
      have h0 := h 0 (by omega)
      rw [List.drop_zero] at h0
      obtain ⟨i1, i2⟩ := ih t (i + 1) (fun d hd => h (d + 1) (by omega)) (by simpa using hl)
      rw [R_none h0, Ch_none h0, i1, i2, show i + 1 + n = i + (n + 1) from by omega]
      exact ⟨rfl, rfl⟩
def offs (L : List (Nat × Pr)) : List Int := L.map fun x => (x.1 : Int)
/-! ### the words of faults -/
end AR
/-! What a law finds by its own going through directories. -/
namespace AR
open PySem PySem.Spec PyProof.Rows L2 DI
variable [DI.Nm]
def rwL (r : Rw) : D := .lst [.lst (oc (codes r.nm)), .int r.off, .int r.size, .int r.c]
def rowsL : Option (List Rw) → D
  | none => .lst []
  | some rs => .lst [.lst (rs.map rwL)]
/-! ### lists of lists of ints -/
/-! ### a list of rows is none -/
end AR
namespace AR
open PySem PySem.Spec PyProof.Rows L2 DI
def al10 : List Int := [66, 80, 69, 68, 90, 0, 1, 10, 97, 255]
/-- the check's octets hold no mark of an entry -/
def noBPE (c : Int) : Bool := decide (c % 16777216 ≠ 4345925) && decide (c / 256 ≠ 4345925)
def allD (f : Int → Bool) : Nat → Int → Bool
  | 0, c => f c
  | k + 1, c => f c && al10.all fun o => allD f k (stepC c o)
theorem allD_ok : allD noBPE 5 7 = true := by decide +kernel
theorem allD_of {f : Int → Bool} : ∀ (k : Nat) (c : Int), allD f k c = true → ∀ p : List Int, (∀ o ∈ p, o ∈ al10) → p.length ≤ k → f (chk c p) = true
  | 0, c, h, p, _, hl => by
    cases p with
    | nil => exact h
    | cons o t => simp at hl
  | k + 1, c, h, p, ho, hl => by
    simp only [allD, Bool.and_eq_true] at h
    cases p with
    | nil => exact h.1
    | cons o t => exact allD_of k (stepC c o) (List.all_eq_true.mp h.2 o (ho o List.mem_cons_self)) t (fun x m => ho x (List.mem_cons_of_mem _ m)) (by simpa using hl)
theorem chk_noBPE {p : List Int} (ho : ∀ o ∈ p, o ∈ al10) (hl : p.length ≤ 5) : noBPE (chk 7 p) = true := allD_of 5 7 allD_ok p ho hl
end AR
/-! k79: no entries by chance. -/
namespace AR
open PySem PySem.Spec PyProof.Rows L2 DI
variable [Nm]
/-- a sign of a name, as an octet -/
def nmS (o : Int) : Prop := (97 ≤ o ∧ o ≤ 122) ∨ (45 ≤ o ∧ o ≤ 57)
theorem codes_nm {z : Str} (h : isName z = true) : ∀ o ∈ codes z, nmS o := fun o m => by
  unfold isName at h
  simp only [Bool.and_eq_true, decide_eq_true_eq] at h
  obtain ⟨c, mc, rfl⟩ := List.mem_map.mp m
  have := List.all_eq_true.mp h.2 c mc
  unfold nameCh at this
  simp only [Bool.or_eq_true, Bool.and_eq_true, decide_eq_true_eq] at this
  unfold nmS
  omega
/-- what a list is with which an entry begins -/
theorem enAt_parts {l : List Int} {e : Pr} (ho : ∀ o ∈ l, oct o) (h : enAt l = some e) :
    ∃ (ns p post : List Int), 1 ≤ ns.length ∧ ns.length ≤ 40 ∧ (∀ o ∈ ns, nmS o) ∧ e.2 = p ∧ p.length ≤ 150000 ∧
      l = 66 :: 80 :: 69 :: (ns.length : Int) :: (ns ++ (((p.length : Int) / 256 / 256) % 256 :: ((p.length : Int) / 256) % 256 :: (p.length : Int) % 256 :: (numO 4 (chk 7 p) ++ (p ++ post)))) := by
  obtain ⟨ok, post, rfl⟩ := enAt_some ho h
  have hn := name_len2 ok.1
  have cl := codes_len e.1
  refine ⟨codes e.1, e.2, post, by omega, by omega, codes_nm ok.1, rfl, ok.2.2, ?_⟩
  unfold entE ent
  rw [cl]
  simp [numO]
/-- behind a mark: a length from 1 to 40 -/
theorem no_len {k : Int} {t : List Int} (ho : ∀ o ∈ (66 :: 80 :: 69 :: k :: t), oct o) (h : k < 1 ∨ 40 < k) : enAt (66 :: 80 :: 69 :: k :: t) = none := by
  cases e : enAt (66 :: 80 :: 69 :: k :: t) with
  | none => rfl
  | some x =>
    obtain ⟨ns, p, post, h1, h2, h3, h4, h5, h6⟩ := enAt_parts ho e
    simp only [List.cons.injEq, true_and] at h6
    omega
/-- behind a mark and a length: signs of a name -/
theorem no_sign {k x : Int} {t : List Int} (ho : ∀ o ∈ (66 :: 80 :: 69 :: k :: x :: t), oct o) (h : ¬ nmS x) : enAt (66 :: 80 :: 69 :: k :: x :: t) = none := by
  cases e : enAt (66 :: 80 :: 69 :: k :: x :: t) with
  | none => rfl
  | some z =>
    obtain ⟨ns, p, post, h1, h2, h3, h4, h5, h6⟩ := enAt_parts ho e
    simp only [List.cons.injEq, true_and] at h6
    cases ns with
    | nil => simp at h1
    | cons y ns =>
      simp only [List.cons_append, List.cons.injEq] at h6
      exact absurd (h6.2.1 ▸ h3 y List.mem_cons_self) h
theorem no_mark {a b c : Int} {t : List Int} (ho : ∀ o ∈ (a :: b :: c :: t), oct o) (h : a ≠ 66 ∨ b ≠ 80 ∨ c ≠ 69) : enAt (a :: b :: c :: t) = none := by
  refine enAt_not ho fun e => ?_
  simp only [List.take_succ_cons, List.take_zero, List.cons.injEq, and_true] at e
  omega
/-- the four octets of a check ahead of a mark of any sort: no entry begins in them -/
theorem chk_gap {c1 c2 c3 c4 y : Int} {t : List Int} (ho : ∀ o ∈ (c1 :: c2 :: c3 :: c4 :: 66 :: y :: t), oct o) :
    enAt (c1 :: c2 :: c3 :: c4 :: 66 :: y :: t) = none ∧ enAt (c2 :: c3 :: c4 :: 66 :: y :: t) = none ∧ enAt (c3 :: c4 :: 66 :: y :: t) = none ∧ enAt (c4 :: 66 :: y :: t) = none := by
  have s : ∀ {a : Int} {l : List Int}, (∀ o ∈ a :: l, oct o) → ∀ o ∈ l, oct o := fun h o m => h o (List.mem_cons_of_mem _ m)
  refine ⟨?_, ?_, no_mark (s (s ho)) (by omega), no_mark (s (s (s ho))) (by omega)⟩
  · by_cases h : c1 = 66 ∧ c2 = 80 ∧ c3 = 69
    · obtain ⟨rfl, rfl, rfl⟩ := h
      exact no_sign ho (by unfold nmS; omega)
    · exact no_mark ho (by omega)
  · by_cases h : c2 = 66 ∧ c3 = 80 ∧ c4 = 69
    · obtain ⟨rfl, rfl, rfl⟩ := h
      exact no_len (s ho) (by omega)
    · exact no_mark (s ho) (by omega)
theorem oct_tl {a : Int} {l : List Int} (h : ∀ o ∈ a :: l, oct o) : ∀ o ∈ l, oct o := fun o m => h o (List.mem_cons_of_mem _ m)
/-- a mark, at most three octets, then 66 80: no entry -/
theorem mark_gap {m t : List Int} (hm : m.length ≤ 3) (ho : ∀ o ∈ 66 :: 80 :: 69 :: (m ++ 66 :: 80 :: t), oct o) (hz : (66 :: 80 :: 69 :: (m ++ 66 :: 80 :: t)).length ≤ 250) : enAt (66 :: 80 :: 69 :: (m ++ 66 :: 80 :: t)) = none := by
  cases e : enAt (66 :: 80 :: 69 :: (m ++ 66 :: 80 :: t)) with
  | none => rfl
  | some z =>
    exfalso
    obtain ⟨ns, p, post, h1, h2, h3, h4, h5, h6⟩ := enAt_parts ho e
    have hl := congrArg List.length h6
    simp only [List.length_cons, List.length_append] at hl hz
    simp only [List.cons.injEq, true_and] at h6
    rcases m with _ | ⟨k, _ | ⟨x, _ | ⟨y, _ | ⟨w, m⟩⟩⟩⟩
    · simp only [List.nil_append, List.cons.injEq] at h6
      omega
    · rcases ns with _ | ⟨n1, ns⟩
      · simp at h1
      simp only [List.cons_append, List.nil_append, List.cons.injEq] at h6
      have := h3 n1 List.mem_cons_self
      rw [← h6.2.1] at this
      unfold nmS at this
      omega
    · rcases ns with _ | ⟨n1, _ | ⟨n2, ns⟩⟩
      · simp at h1
      · simp only [List.cons_append, List.nil_append, List.cons.injEq] at h6
        omega
      · simp only [List.cons_append, List.nil_append, List.cons.injEq] at h6
        have := h3 n2 (by simp)
        rw [← h6.2.2.1] at this
        unfold nmS at this
        omega
    · rcases ns with _ | ⟨n1, _ | ⟨n2, _ | ⟨n3, ns⟩⟩⟩
      · simp at h1
      · simp only [List.cons_append, List.nil_append, List.cons.injEq, List.length_cons, List.length_nil] at h6 hl hz
        omega
      · simp only [List.cons_append, List.nil_append, List.cons.injEq] at h6
        omega
      · simp only [List.cons_append, List.nil_append, List.cons.injEq] at h6
        have := h3 n3 (by simp)
        rw [← h6.2.2.2.1] at this
        unfold nmS at this
        omega
    · simp at hm
/-- a mark, four octets of which the last three are no long size, then 66 80 -/
theorem mark_gap4 {k x y w : Int} {t : List Int} (hn : ¬ (k = 1 ∧ x = 97 ∧ y = 0 ∧ w = 0)) (hx : nmS x → x = 97) (ho : ∀ o ∈ 66 :: 80 :: 69 :: k :: x :: y :: w :: 66 :: 80 :: t, oct o) (hz : (66 :: 80 :: 69 :: k :: x :: y :: w :: 66 :: 80 :: t).length ≤ 250) : enAt (66 :: 80 :: 69 :: k :: x :: y :: w :: 66 :: 80 :: t) = none := by
  cases e : enAt (66 :: 80 :: 69 :: k :: x :: y :: w :: 66 :: 80 :: t) with
  | none => rfl
  | some z =>
    exfalso
    obtain ⟨ns, p, post, h1, h2, h3, h4, h5, h6⟩ := enAt_parts ho e
    have hl := congrArg List.length h6
    simp only [List.length_cons, List.length_append] at hl hz
    simp only [List.cons.injEq, true_and] at h6
    rcases ns with _ | ⟨n1, _ | ⟨n2, _ | ⟨n3, _ | ⟨n4, ns⟩⟩⟩⟩
    · simp at h1
    · simp only [List.cons_append, List.nil_append, List.cons.injEq, List.length_cons, List.length_nil] at h6 hl hz
      have := hx (h6.2.1 ▸ h3 n1 List.mem_cons_self)
      omega
    · simp only [List.cons_append, List.nil_append, List.cons.injEq, List.length_cons, List.length_nil] at h6 hl hz
      omega
    · simp only [List.cons_append, List.nil_append, List.cons.injEq] at h6
      omega
    · simp only [List.cons_append, List.nil_append, List.cons.injEq] at h6
      have := h3 n4 (by simp)
      rw [← h6.2.2.2.2.1] at this
      unfold nmS at this
      omega
theorem numO4 (c : Int) : numO 4 c = [c / 256 / 256 / 256 % 256, c / 256 / 256 % 256, c / 256 % 256, c % 256] := by simp [numO]
theorem chk_one : chk 7 [69, 1, 97, 0, 0] % 65536 ≠ 66 * 256 + 80 := by decide +kernel
/-- a check, then the drawn payload, then a mark of any sort: no entry begins in the check or in the payload -/
theorem pay_gap {p t : List Int} (hp : ∀ o ∈ p, o ∈ al10) (hl : p.length ≤ 5) (ho : ∀ o ∈ numO 4 (chk 7 p) ++ (p ++ 66 :: 80 :: t), oct o) (hz : (p ++ 66 :: 80 :: t).length ≤ 246) :
    ∀ a b : List Int, numO 4 (chk 7 p) ++ (p ++ 66 :: 80 :: t) = a ++ b → a.length < 4 + p.length → enAt b = none := by
  have hb := chk_noBPE hp hl
  have hr := chk_range (c := 7) (by decide) p
  unfold noBPE at hb
  simp only [Bool.and_eq_true, decide_eq_true_eq] at hb
  have hA : ∀ x ∈ p, nmS x → x = 97 := fun x m hx => by
    have := hp x m
    simp only [al10, List.mem_cons, List.not_mem_nil, or_false] at this
    unfold nmS at hx
    omega
  rw [numO4] at ho ⊢
  have hone : ∀ k x y w, p = [69, k, x, y, w] → k = 1 ∧ x = 97 ∧ y = 0 ∧ w = 0 → chk 7 p % 65536 ≠ 66 * 256 + 80 := fun k x y w e h => by
    obtain ⟨rfl, rfl, rfl, rfl⟩ := h
    rw [e]
    exact chk_one
  generalize chk 7 p = c at hb hr ho hone ⊢
  generalize e1 : c / 256 / 256 / 256 % 256 = c1 at ho ⊢
  generalize e2 : c / 256 / 256 % 256 = c2 at ho ⊢
  generalize e3 : c / 256 % 256 = c3 at ho ⊢
  generalize e4 : c % 256 = c4 at ho ⊢
  -- a part of the payload
  have inner : ∀ q : List Int, q.length ≤ 5 → q ≠ [] → (∀ o ∈ q ++ 66 :: 80 :: t, oct o) → (q ++ 66 :: 80 :: t).length ≤ 249 → enAt (q ++ 66 :: 80 :: t) = none := fun q hq hne hoq hzq => by
    rcases q with _ | ⟨a, _ | ⟨b, _ | ⟨d, m⟩⟩⟩
    · exact absurd rfl hne
    · exact no_mark hoq (by omega)
    · exact no_mark hoq (by omega)
    · by_cases h : a = 66 ∧ b = 80 ∧ d = 69
      · obtain ⟨rfl, rfl, rfl⟩ := h
        simp only [List.length_cons] at hq
        exact mark_gap (by omega) hoq (by simp only [List.cons_append] at hzq; omega)
      · exact no_mark hoq (by omega)
  intro a b hab ha
  simp only [List.cons_append, List.nil_append] at ho hab
  rcases a with _ | ⟨a1, _ | ⟨a2, _ | ⟨a3, _ | ⟨a4, a⟩⟩⟩⟩
  · subst hab
    exact no_mark ho (by omega)
  · simp only [List.cons_append, List.nil_append, List.cons.injEq] at hab
    obtain ⟨_, rfl⟩ := hab
    exact no_mark (oct_tl ho) (by omega)
  · simp only [List.cons_append, List.nil_append, List.cons.injEq] at hab
    obtain ⟨_, _, rfl⟩ := hab
    have ho2 := oct_tl (oct_tl ho)
    rcases p with _ | ⟨x, m⟩
    · exact no_mark ho2 (by omega)
    · by_cases h : c3 = 66 ∧ c4 = 80 ∧ x = 69
      · obtain ⟨rfl, rfl, rfl⟩ := h
        simp only [List.length_cons] at hl
        rcases m with _ | ⟨m1, _ | ⟨m2, _ | ⟨m3, _ | ⟨m4, m⟩⟩⟩⟩
        · exact mark_gap (m := []) (by simp) ho2 (by simp only [List.length_cons, List.length_append, List.length_nil, List.cons_append, List.nil_append] at hz ⊢; omega)
        · exact mark_gap (m := [m1]) (by simp) ho2 (by simp only [List.length_cons, List.length_append, List.length_nil, List.cons_append, List.nil_append] at hz ⊢; omega)
        · exact mark_gap (m := [m1, m2]) (by simp) ho2 (by simp only [List.length_cons, List.length_append, List.length_nil, List.cons_append, List.nil_append] at hz ⊢; omega)
        · exact mark_gap (m := [m1, m2, m3]) (by simp) ho2 (by simp only [List.length_cons, List.length_append, List.length_nil, List.cons_append, List.nil_append] at hz ⊢; omega)
        · cases m with
          | cons m5 m => simp at hl
          | nil =>
            refine mark_gap4 (fun hh => ?_) (hA m2 (by simp)) ho2 (by simp only [List.length_cons, List.length_append, List.length_nil, List.cons_append, List.nil_append] at hz ⊢; omega)
            exact hone m1 m2 m3 m4 rfl hh (by omega)
      · exact no_mark ho2 (by omega)
  · simp only [List.cons_append, List.nil_append, List.cons.injEq] at hab
    obtain ⟨_, _, _, rfl⟩ := hab
    have ho2 := oct_tl (oct_tl (oct_tl ho))
    rcases p with _ | ⟨x, _ | ⟨y, m⟩⟩
    · exact no_mark ho2 (by omega)
    · exact no_mark ho2 (by omega)
    · by_cases h : c4 = 66 ∧ x = 80 ∧ y = 69
      · obtain ⟨rfl, rfl, rfl⟩ := h
        simp only [List.length_cons] at hl
        exact mark_gap (by omega) ho2 (by simp only [List.length_cons, List.length_append, List.length_nil, List.cons_append, List.nil_append] at hz ⊢; omega)
      · exact no_mark ho2 (by omega)
  · simp only [List.cons_append, List.cons.injEq] at hab
    obtain ⟨_, _, _, _, hab⟩ := hab
    have ho2 := oct_tl (oct_tl (oct_tl (oct_tl ho)))
    simp only [List.length_cons] at ha
    have hlen : a.length < p.length := by omega
    have eb : b = p.drop a.length ++ 66 :: 80 :: t := by
      have q := congrArg (List.drop a.length) hab
      rw [List.drop_left, List.drop_append_of_le_length (by omega)] at q
      exact q.symm
    subst eb
    refine inner _ (by rw [List.length_drop]; omega) (fun h => ?_) (fun o m => ho2 o ?_) ?_
    · have := congrArg List.length h
      rw [List.length_drop] at this
      simp at this
      omega
    · rcases List.mem_append.mp m with m | m
      · exact List.mem_append_left _ (List.mem_of_mem_drop m)
      · exact List.mem_append_right _ m
    · rw [List.length_append, List.length_drop]
      rw [List.length_append] at hz
      omega
end AR
/-! k79: gaps, and three entries one in another. -/
namespace AR
open PySem PySem.Spec PyProof.Rows L2 DI
variable [Nm]
/-- no entry begins in a, b being behind it -/
def Gap (a b : List Int) : Prop := ∀ d, d < a.length → enAt ((a ++ b).drop d) = none
theorem Gap.nil (b : List Int) : Gap [] b := fun d h => absurd h (by simp)
theorem Gap.app {a a' b : List Int} (h : Gap a (a' ++ b)) (h' : Gap a' b) : Gap (a ++ a') b := fun d hd => by
  rw [List.append_assoc]
  by_cases q : d < a.length
  · exact h d q
  · have e : (a ++ (a' ++ b)).drop d = (a' ++ b).drop (d - a.length) := by
      rw [List.drop_append]
      rw [List.drop_of_length_le (by omega), List.nil_append]
    rw [e]
    exact h' _ (by rw [List.length_append] at hd; omega)
theorem Gap.cons {x : Int} {a b : List Int} (h : enAt (x :: (a ++ b)) = none) (h' : Gap a b) : Gap (x :: a) b := fun d hd => by
  cases d with
  | zero => exact h
  | succ d => exact h' d (by simpa using hd)
theorem en_ne {x : Int} {l : List Int} (ho : ∀ o ∈ x :: l, oct o) (h : x ≠ 66) : enAt (x :: l) = none := by
  refine enAt_not ho fun e => ?_
  cases l with
  | nil => simp at e
  | cons y l =>
    cases l with
    | nil => simp at e
    | cons z l =>
      simp only [List.take_succ_cons, List.take_zero, List.cons.injEq] at e
      exact h e.1
theorem Gap.ne : ∀ {a b : List Int}, (∀ o ∈ a ++ b, oct o) → (∀ o ∈ a, o ≠ 66) → Gap a b
  | [], b, _, _ => .nil b
  | x :: a, b, ho, h => .cons (en_ne ho (h x List.mem_cons_self)) (Gap.ne (oct_tl ho) fun o m => h o (List.mem_cons_of_mem _ m))
theorem Gap.chk {c y : Int} {t : List Int} (ho : ∀ o ∈ numO 4 c ++ 66 :: y :: t, oct o) : Gap (numO 4 c) (66 :: y :: t) := by
  rw [numO4] at ho ⊢
  obtain ⟨h1, h2, h3, h4⟩ := chk_gap (by simpa using ho)
  exact .cons h1 (.cons h2 (.cons h3 (.cons h4 (.nil _))))
theorem Gap.mark {z : Int} {t : List Int} (hz : z ≠ 69) (h6 : z ≠ 66) (ho : ∀ o ∈ 66 :: 80 :: z :: t, oct o) : Gap [66, 80, z] t :=
  .cons (no_mark ho (by omega)) (.cons (en_ne (oct_tl ho) (by decide)) (.cons (en_ne (oct_tl (oct_tl ho)) h6) (.nil _)))
theorem Gap.pay {p t : List Int} (hp : ∀ o ∈ p, o ∈ al10) (hl : p.length ≤ 5) (ho : ∀ o ∈ numO 4 (AR.chk 7 p) ++ (p ++ 66 :: 80 :: t), oct o) (hz : (p ++ 66 :: 80 :: t).length ≤ 246) : Gap (numO 4 (AR.chk 7 p) ++ p) (66 :: 80 :: t) := fun d hd => by
  rw [List.append_assoc]
  refine pay_gap hp hl ho hz ((numO 4 (AR.chk 7 p) ++ (p ++ 66 :: 80 :: t)).take d) _ (List.take_append_drop d _).symm ?_
  rw [List.length_append, numO_len] at hd
  have := List.length_take_le d (numO 4 (AR.chk 7 p) ++ (p ++ 66 :: 80 :: t))
  omega
theorem Gap.short {a : List Int} (ho : ∀ o ∈ a, oct o) (h : a.length < 12) : Gap a [] := fun d hd => by
  rw [List.append_nil]
  cases e : enAt (a.drop d) with
  | none => rfl
  | some x =>
    have := enAt_len (fun o m => ho o (List.mem_of_mem_drop m)) e
    rw [List.length_drop] at this
    omega
theorem Gap.run {a b : List Int} (h : Gap a b) (i : Nat) : R (a ++ b) = R b ∧ Ch i (a ++ b) = Ch (i + a.length) b := by
  have z := R_run a.length (a ++ b) i h (by rw [List.length_append]; omega)
  rwa [List.drop_left] at z
/-- an entry, with all in it -/
theorem R_ent {e : Pr} (h : okPr e) (r : List Int) : R (entE e ++ r) = max (R ((entE e ++ r).drop 1)) ((entE e).length + R r) := by
  have q := enAt_of h r
  have hd : (entE e ++ r).drop (entE e).length = r := List.drop_left
  cases hl : entE e ++ r with
  | nil =>
    have := ent_len e
    have := congrArg List.length hl
    rw [List.length_append] at this
    simp only [List.length_nil] at this
    omega
  | cons o t =>
    rw [hl] at q hd
    rw [R, q]
    simp only [hd, List.drop_succ_cons, List.drop_zero]
theorem Ch_ent {e : Pr} (h : okPr e) (r : List Int) (i : Nat) : Ch i (entE e ++ r) = if R (entE e ++ r) = (entE e).length + R r then (i, e) :: Ch (i + (entE e).length) r else Ch (i + 1) ((entE e ++ r).drop 1) := by
  have q := enAt_of h r
  have hd : (entE e ++ r).drop (entE e).length = r := List.drop_left
  cases hl : entE e ++ r with
  | nil =>
    have := ent_len e
    have := congrArg List.length hl
    rw [List.length_append] at this
    simp only [List.length_nil] at this
    omega
  | cons o t =>
    rw [hl] at q hd
    rw [Ch, q]
    simp only [hd, List.drop_succ_cons, List.drop_zero]
theorem numO3_ne {x : Int} (h0 : 0 ≤ x) (h1 : x < 256) (h : x ≠ 66) : ∀ o ∈ numO 3 x, o ≠ 66 := fun o m => by
  have e : numO 3 x = [x / 256 / 256 % 256, x / 256 % 256, x % 256] := by simp [numO]
  rw [e] at m
  simp only [List.mem_cons, List.not_mem_nil, or_false] at m
  rcases m with rfl | rfl | rfl <;> omega
theorem name_ne {z : Str} (h : isName z = true) : ∀ o ∈ (z.length : Int) :: codes z, o ≠ 66 := fun o m => by
  have := name_len2 h
  rcases List.mem_cons.mp m with rfl | m
  · omega
  · have := codes_nm h o m
    unfold nmS at this
    omega
/-- the front of an entry behind its first octet, up to its check -/
def fro (e : Pr) : List Int := [80, 69] ++ ((e.1.length : Int) :: codes e.1) ++ numO 3 e.2.length
theorem ent_fro (e : Pr) : entE e = 66 :: (fro e ++ (numO 4 (AR.chk 7 e.2) ++ e.2)) := by
  unfold entE ent fro
  simp
theorem fro_ne {e : Pr} (h : isName e.1 = true) (h1 : e.2.length < 256) (h2 : e.2.length ≠ 66) : ∀ o ∈ fro e, o ≠ 66 := fun o m => by
  unfold fro at m
  rcases List.mem_append.mp m with m | m
  · rcases List.mem_append.mp m with m | m
    · simp only [List.mem_cons, List.not_mem_nil, or_false] at m
      rcases m with rfl | rfl <;> decide
    · exact name_ne h o m
  · exact numO3_ne (by omega) (by omega) (by omega) o m
/-- an entry whose payload begins with a mark: what is ahead of the payload -/
theorem gap_nest {e : Pr} {y : Int} {t r : List Int} (h : okPr e) (hp : e.2 = 66 :: y :: t) (h1 : e.2.length < 256) (h2 : e.2.length ≠ 66) (ho : ∀ o ∈ entE e ++ r, oct o) : Gap (fro e ++ numO 4 (AR.chk 7 e.2)) (e.2 ++ r) := by
  rw [ent_fro] at ho
  have ho' : ∀ o ∈ fro e ++ (numO 4 (AR.chk 7 e.2) ++ (e.2 ++ r)), oct o := fun o m => ho o (by
    rw [List.cons_append, List.append_assoc, List.append_assoc]
    exact List.mem_cons_of_mem _ m)
  refine .app (Gap.ne ho' (fro_ne h.1 h1 h2)) ?_
  have ho2 : ∀ o ∈ numO 4 (AR.chk 7 e.2) ++ (e.2 ++ r), oct o := fun o m => ho' o (List.mem_append_right _ m)
  revert ho2
  generalize AR.chk 7 e.2 = c
  rw [hp]
  intro ho2
  exact Gap.chk (t := t ++ r) ho2
/-- an entry of a drawn payload -/
theorem gap_low {e : Pr} {t : List Int} (h : okPr e) (hp : ∀ o ∈ e.2, o ∈ al10) (hl : e.2.length ≤ 5) (ho : ∀ o ∈ entE e ++ 66 :: 80 :: t, oct o) (hz : (e.2 ++ 66 :: 80 :: t).length ≤ 246) : Gap (fro e ++ (numO 4 (AR.chk 7 e.2) ++ e.2)) (66 :: 80 :: t) := by
  rw [ent_fro] at ho
  have ho' : ∀ o ∈ fro e ++ ((numO 4 (AR.chk 7 e.2) ++ e.2) ++ 66 :: 80 :: t), oct o := fun o m => ho o (by
    rw [List.cons_append, List.append_assoc (fro e)]
    exact List.mem_cons_of_mem _ m)
  refine .app (Gap.ne ho' (fro_ne h.1 (by omega) (by omega))) (Gap.pay hp hl (fun o m => ho' o (List.mem_append_right _ (by rwa [List.append_assoc]))) hz)
theorem R_low {e : Pr} {t : List Int} (h : okPr e) (hp : ∀ o ∈ e.2, o ∈ al10) (hl : e.2.length ≤ 5) (ho : ∀ o ∈ entE e ++ 66 :: 80 :: t, oct o) (hz : (e.2 ++ 66 :: 80 :: t).length ≤ 246) (i : Nat) :
    R (entE e ++ 66 :: 80 :: t) = (entE e).length + R (66 :: 80 :: t) ∧ Ch i (entE e ++ 66 :: 80 :: t) = (i, e) :: Ch (i + (entE e).length) (66 :: 80 :: t) := by
  have g := (gap_low h hp hl ho hz).run i
  have d1 : (entE e ++ 66 :: 80 :: t).drop 1 = (fro e ++ (numO 4 (AR.chk 7 e.2) ++ e.2)) ++ 66 :: 80 :: t := by rw [ent_fro]; rfl
  have r1 := R_ent h (66 :: 80 :: t)
  rw [d1, g.1] at r1
  have r2 : R (entE e ++ 66 :: 80 :: t) = (entE e).length + R (66 :: 80 :: t) := by rw [r1]; omega
  exact ⟨r2, by rw [Ch_ent h, if_pos r2]⟩
/-- an entry with an archive in it is chosen as a whole, if what is in it has fewer octets -/
theorem R_nest {e : Pr} {y : Int} {t r : List Int} (h : okPr e) (hp : e.2 = 66 :: y :: t) (h1 : e.2.length < 256) (h2 : e.2.length ≠ 66) (ho : ∀ o ∈ entE e ++ r, oct o) (hR : R (e.2 ++ r) ≤ (entE e).length + R r) (i : Nat) :
    R (entE e ++ r) = (entE e).length + R r ∧ Ch i (entE e ++ r) = (i, e) :: Ch (i + (entE e).length) r := by
  have g := (gap_nest h hp h1 h2 ho).run i
  have d1 : (entE e ++ r).drop 1 = (fro e ++ numO 4 (AR.chk 7 e.2)) ++ (e.2 ++ r) := by rw [ent_fro]; simp
  have r1 := R_ent h r
  rw [d1, g.1] at r1
  have r2 : R (entE e ++ r) = (entE e).length + R r := by rw [r1]; omega
  exact ⟨r2, by rw [Ch_ent h, if_pos r2]⟩
/-- nothing, or a mark of any sort -/
def Aft (r : List Int) : Prop := r = [] ∨ ∃ y t, r = 66 :: y :: t
theorem Gap.chkA {c : Int} {r : List Int} (hr : Aft r) (ho : ∀ o ∈ numO 4 c ++ r, oct o) : Gap (numO 4 c) r := by
  rcases hr with rfl | ⟨y, t, rfl⟩
  · exact Gap.short (by simpa using ho) (by rw [numO_len]; decide)
  · exact Gap.chk ho
theorem oct_ap {a b : List Int} (h : ∀ o ∈ a ++ b, oct o) : ∀ o ∈ b, oct o := fun o m => h o (List.mem_append_right _ m)
/-- a row that an end or a mark follows -/
theorem gap_row {a : Int} {e : Pr} {r : List Int} (h : okPr e) (a0 : 0 ≤ a) (a1 : a < 256) (a2 : a ≠ 66) (h1 : e.2.length < 256) (h2 : e.2.length ≠ 66) (hr : Aft r) (ho : ∀ o ∈ rowO a e ++ r, oct o) : Gap (rowO a e) r := by
  have e1 : rowO a e = (((e.1.length : Int) :: codes e.1) ++ numO 3 a ++ numO 3 e.2.length) ++ numO 4 (AR.chk 7 e.2) := by
    unfold rowO tailR
    simp only [List.append_assoc]
  rw [e1] at ho ⊢
  rw [List.append_assoc] at ho
  refine .app (Gap.ne ho fun o m => ?_) (Gap.chkA hr (oct_ap ho))
  rcases List.mem_append.mp m with m | m
  · rcases List.mem_append.mp m with m | m
    · exact name_ne h.1 o m
    · exact numO3_ne a0 a1 a2 o m
  · exact numO3_ne (by omega) (by omega) (by omega) o m
/-- an end -/
theorem gap_end {b d r : List Int} (b1 : b.length < 256) (b2 : b.length ≠ 66) (d1 : d.length < 256) (d2 : d.length ≠ 66) (hr : Aft r) (ho : ∀ o ∈ endO b d ++ r, oct o) : Gap (endO b d) r := by
  have e1 : endO b d = [66, 80, 90] ++ ((numO 3 b.length ++ numO 3 d.length) ++ numO 4 (AR.chk 7 d)) := by
    unfold endO
    simp only [List.append_assoc]
  rw [e1] at ho ⊢
  rw [List.append_assoc] at ho
  refine .app (Gap.mark (by decide) (by decide) ho) ?_
  have ho2 := oct_ap ho
  rw [List.append_assoc] at ho2
  refine .app (Gap.ne ho2 fun o m => ?_) (Gap.chkA hr (oct_ap ho2))
  rcases List.mem_append.mp m with m | m
  · exact numO3_ne (by omega) (by omega) (by omega) o m
  · exact numO3_ne (by omega) (by omega) (by omega) o m
/-- the directory's head -/
theorem gap_head {m : Nat} {r : List Int} (h1 : m < 256) (h2 : m ≠ 66) (ho : ∀ o ∈ dirH m ++ r, oct o) : Gap (dirH m) r := by
  have e1 : numO 2 (m : Int) = [(m : Int) / 256 % 256, (m : Int) % 256] := by simp [numO]
  unfold dirH at ho ⊢
  rw [List.append_assoc] at ho
  refine .app (Gap.mark (by decide) (by decide) ho) (Gap.ne (oct_ap ho) fun o mo => ?_)
  rw [e1] at mo
  simp only [List.mem_cons, List.not_mem_nil, or_false] at mo
  rcases mo with rfl | rfl <;> omega
theorem aft_end {b d r : List Int} : Aft (endO b d ++ r) := .inr ⟨80, 90 :: ((numO 3 b.length ++ numO 3 d.length) ++ numO 4 (AR.chk 7 d) ++ r), by unfold endO; simp⟩
/-- the tail of an archive of one entry -/
theorem gap_tail1 {e : Pr} {b r : List Int} (h : okPr e) (h1 : e.2.length < 256) (h2 : e.2.length ≠ 66) (b1 : b.length < 256) (b2 : b.length ≠ 66) (hn : e.1.length ≤ 5) (hr : Aft r) (ho : ∀ o ∈ (dirO [e] ++ endO b (dirO [e])) ++ r, oct o) : Gap (dirO [e] ++ endO b (dirO [e])) r := by
  have e1 : dirO [e] = dirH 1 ++ rowO 0 e := by
    unfold dirO
    simp [rowsO]
  have hd : (dirO [e]).length = 16 + e.1.length := by
    rw [e1]
    unfold dirH rowO tailR
    simp only [List.length_append, List.length_cons, List.length_nil, numO_len, codes_len]
    omega
  rw [List.append_assoc] at ho
  refine .app ?_ (gap_end b1 b2 (by omega) (by omega) hr (oct_ap ho))
  revert ho
  generalize hE : endO b (dirO [e]) ++ r = q
  have aq : Aft q := hE ▸ aft_end
  rw [e1]
  intro ho
  rw [List.append_assoc] at ho
  exact .app (gap_head (by decide) (by decide) ho) (gap_row h (by decide) (by decide) (by decide) h1 h2 aq (oct_ap ho))
/-- a row of a drawn payload that another row follows -/
theorem gap_row1 {a k j : Int} {e : Pr} {r : List Int} (h : okPr e) (a0 : 0 ≤ a) (a1 : a < 256) (a2 : a ≠ 66) (hp : ∀ o ∈ e.2, o ∈ al10) (hl : e.2.length ≤ 5) (k1 : k ≠ 69) (k2 : k ≠ 80) (ho : ∀ o ∈ rowO a e ++ k :: j :: r, oct o) : Gap (rowO a e) (k :: j :: r) := by
  have e1 : rowO a e = (((e.1.length : Int) :: codes e.1) ++ numO 3 a ++ numO 3 e.2.length) ++ numO 4 (AR.chk 7 e.2) := by
    unfold rowO tailR
    simp only [List.append_assoc]
  rw [e1] at ho ⊢
  rw [List.append_assoc] at ho
  have hb := chk_noBPE hp hl
  have hr := chk_range (c := 7) (by decide) e.2
  unfold noBPE at hb
  simp only [Bool.and_eq_true, decide_eq_true_eq] at hb
  refine .app (Gap.ne ho fun o m => ?_) ?_
  · rcases List.mem_append.mp m with m | m
    · rcases List.mem_append.mp m with m | m
      · exact name_ne h.1 o m
      · exact numO3_ne a0 a1 a2 o m
    · exact numO3_ne (by omega) (by omega) (by omega) o m
  · have ho2 := oct_ap ho
    generalize AR.chk 7 e.2 = c at hb hr ho2 ⊢
    rw [numO4] at ho2 ⊢
    simp only [List.cons_append, List.nil_append] at ho2
    exact .cons (no_mark ho2 (by omega)) (.cons (no_mark (oct_tl ho2) (by omega)) (.cons (no_mark (oct_tl (oct_tl ho2)) (by omega)) (.cons (no_mark (oct_tl (oct_tl (oct_tl ho2))) (by omega)) (.nil _))))
/-- the tail of an archive of two entries of drawn payloads -/
theorem gap_tail2 {e f : Pr} {b r : List Int} (h : okPr e) (g : okPr f) (hp : ∀ o ∈ e.2, o ∈ al10) (hl : e.2.length ≤ 5) (gl : f.2.length ≤ 5) (b1 : b.length < 256) (b2 : b.length ≠ 66) (hn : e.1.length ≤ 5) (gn : f.1.length ≤ 5) (hr : Aft r)
    (ho : ∀ o ∈ (dirO [e, f] ++ endO b (dirO [e, f])) ++ r, oct o) : Gap (dirO [e, f] ++ endO b (dirO [e, f])) r := by
  have e1 : dirO [e, f] = dirH 2 ++ (rowO 0 e ++ rowO ((entE e).length : Int) f) := by
    unfold dirO
    simp [rowsO]
  have hd : (dirO [e, f]).length = 27 + e.1.length + f.1.length := by
    rw [e1]
    unfold dirH rowO tailR
    simp only [List.length_append, List.length_cons, List.length_nil, numO_len, codes_len]
    omega
  have le := ent_len e
  have ln := name_len2 g.1
  have hcl := codes_len f.1
  rw [List.append_assoc] at ho
  refine .app ?_ (gap_end b1 b2 (by omega) (by omega) hr (oct_ap ho))
  revert ho
  generalize hE : endO b (dirO [e, f]) ++ r = q
  have aq : Aft q := hE ▸ aft_end
  rw [e1]
  intro ho
  rw [List.append_assoc, List.append_assoc] at ho
  refine .app ?_ (.app ?_ (gap_row g (by omega) (by omega) (by omega) (by omega) (by omega) aq (oct_ap (oct_ap ho))))
  · rw [List.append_assoc]
    exact gap_head (by decide) (by decide) ho
  · have ho2 := oct_ap ho
    have ef : ∃ j t, rowO ((entE e).length : Int) f ++ q = (f.1.length : Int) :: j :: t := by
      unfold rowO
      cases hc : codes f.1 with
      | nil => rw [hc] at hcl; simp only [List.length_nil] at hcl; omega
      | cons j t => exact ⟨_, _, rfl⟩
    obtain ⟨j, t, ef⟩ := ef
    rw [ef] at ho2 ⊢
    exact gap_row1 h (by decide) (by decide) (by decide) hp hl (by omega) (by omega) ho2
end AR
/-! k79: three entries one in another. -/
namespace AR
open PySem PySem.Spec PyProof.Rows L2 DI
variable [Nm]
theorem ent_66 (e : Pr) (r : List Int) : ∃ t, entE e ++ r = 66 :: 80 :: t := ⟨_, by rw [ent_fro]; rfl⟩
theorem dir_66 (ps : List Pr) (r : List Int) : ∃ t, dirO ps ++ r = 66 :: 80 :: t := ⟨_, rfl⟩
theorem arch_1 (e : Pr) : arch [e] = entE e ++ (dirO [e] ++ endO (entE e) (dirO [e])) := by
  unfold arch body
  simp
theorem arch_2 (e f : Pr) : arch [e, f] = entE e ++ (entE f ++ (dirO [e, f] ++ endO (entE e ++ entE f) (dirO [e, f]))) := by
  unfold arch body
  simp
/-- two entries of drawn payloads -/
theorem lev_in {e f : Pr} {r : List Int} (h : okPr e) (g : okPr f) (hp : ∀ o ∈ e.2, o ∈ al10) (gp : ∀ o ∈ f.2, o ∈ al10) (hl : e.2.length ≤ 5) (gl : f.2.length ≤ 5) (hn : e.1.length = 2) (gn : f.1.length = 2) (hr : Aft r)
    (ho : ∀ o ∈ arch [e, f] ++ r, oct o) (hz : (arch [e, f] ++ r).length ≤ 246) (i : Nat) :
    R (arch [e, f] ++ r) = (entE e).length + (entE f).length + R r ∧ Ch i (arch [e, f] ++ r) = (i, e) :: (i + (entE e).length, f) :: Ch (i + (arch [e, f]).length) r := by
  have le := ent_len e
  have lf := ent_len f
  have la : (arch [e, f]).length = (entE e).length + ((entE f).length + (dirO [e, f] ++ endO (entE e ++ entE f) (dirO [e, f])).length) := by rw [arch_2, List.length_append, List.length_append]
  rw [la]
  rw [arch_2] at ho hz ⊢
  rw [List.append_assoc, List.append_assoc] at ho hz ⊢
  have ho2 := oct_ap ho
  have ho3 := oct_ap ho2
  have g2 := gap_tail2 (b := entE e ++ entE f) h g hp hl gl (by rw [List.length_append]; omega) (by rw [List.length_append]; omega) (by omega) (by omega) hr ho3
  obtain ⟨t2, e2⟩ : ∃ t, (dirO [e, f] ++ endO (entE e ++ entE f) (dirO [e, f])) ++ r = 66 :: 80 :: t := by
    rw [List.append_assoc]
    exact dir_66 _ _
  obtain ⟨t1, e1⟩ := ent_66 f ((dirO [e, f] ++ endO (entE e ++ entE f) (dirO [e, f])) ++ r)
  generalize hT : dirO [e, f] ++ endO (entE e ++ entE f) (dirO [e, f]) = T at *
  have run := fun j => g2.run j
  have z1 : (T ++ r).length ≤ 230 := by
    rw [List.length_append, List.length_append] at hz
    omega
  have A2 : ∀ j, R (entE f ++ (T ++ r)) = (entE f).length + R r ∧ Ch j (entE f ++ (T ++ r)) = (j, f) :: Ch (j + (entE f).length + T.length) r := fun j => by
    rw [← (run 0).1, ← (run (j + (entE f).length)).2]
    rw [e2] at ho2 z1 ⊢
    exact R_low g gp gl ho2 (by rw [List.length_append]; omega) j
  have A1 := fun j => (A2 j)
  rw [e1] at ho hz A1 ⊢
  have B := R_low h hp hl ho (by rw [List.length_append] at hz ⊢; omega) i
  rw [B.1, B.2, (A1 (i + (entE e).length)).1, (A1 (i + (entE e).length)).2]
  refine ⟨by omega, ?_⟩
  rw [show i + (entE e).length + (entE f).length + T.length = i + ((entE e).length + ((entE f).length + T.length)) from by omega]
/-- an archive of one entry, whose payload begins with a mark and holds no more octets of entries than the entry has -/
theorem lev_nest {e : Pr} {y : Int} {t r : List Int} (h : okPr e) (hp : e.2 = 66 :: y :: t) (h1 : e.2.length < 200) (h2 : e.2.length ≠ 66) (hn : e.1.length ≤ 5) (hb : (entE e).length ≠ 66) (hr : Aft r) (ho : ∀ o ∈ arch [e] ++ r, oct o)
    (hR : R (e.2 ++ ((dirO [e] ++ endO (entE e) (dirO [e])) ++ r)) ≤ (entE e).length + R r) (i : Nat) :
    R (arch [e] ++ r) = (entE e).length + R r ∧ Ch i (arch [e] ++ r) = (i, e) :: Ch (i + (arch [e]).length) r := by
  have le := ent_len e
  have la : (arch [e]).length = (entE e).length + (dirO [e] ++ endO (entE e) (dirO [e])).length := by rw [arch_1, List.length_append]
  rw [la]
  rw [arch_1] at ho ⊢
  rw [List.append_assoc] at ho ⊢
  have g2 := gap_tail1 (b := entE e) h (by omega) h2 (by omega) hb hn hr (oct_ap ho)
  generalize hT : dirO [e] ++ endO (entE e) (dirO [e]) = T at *
  have B := R_nest h hp (by omega) h2 ho (by rw [(g2.run 0).1]; exact hR) i
  rw [B.1, B.2, (g2.run 0).1, (g2.run (i + (entE e).length)).2, Nat.add_assoc]
  exact ⟨rfl, rfl⟩
/-- the four entries: two of drawn payloads, one that holds their archive, one that holds its archive -/
structure Deep (a b c d : Pr) : Prop where
  ka : okPr a
  kb : okPr b
  kc : okPr c
  kd : okPr d
  pa : ∀ o ∈ a.2, o ∈ al10
  pb : ∀ o ∈ b.2, o ∈ al10
  la : a.2.length ≤ 5
  lb : b.2.length ≤ 5
  na : a.1.length = 2
  nb : b.1.length = 2
  nc : c.1.length = 3
  nd : d.1.length = 3
  pc : c.2 = arch [a, b]
  pd : d.2 = arch [c]
theorem arch1_len (e : Pr) : (arch [e]).length = (entE e).length + 29 + e.1.length := by
  rw [arch_1]
  unfold dirO
  simp only [List.length_append, List.length_cons, List.length_nil, rowsO, List.append_nil, endO_len]
  unfold dirH rowO tailR
  simp only [List.length_append, List.length_cons, List.length_nil, numO_len, codes_len]
  omega
theorem arch2_len (e f : Pr) : (arch [e, f]).length = (entE e).length + (entE f).length + 40 + e.1.length + f.1.length := by
  rw [arch_2]
  unfold dirO
  simp only [List.length_append, List.length_cons, List.length_nil, rowsO, List.append_nil, endO_len]
  unfold dirH rowO tailR
  simp only [List.length_append, List.length_cons, List.length_nil, numO_len, codes_len]
  omega
section
variable {a b c d : Pr}
theorem Deep.lens (D : Deep a b c d) : (entE a).length = 13 + a.2.length ∧ (entE b).length = 13 + b.2.length ∧ c.2.length = 70 + a.2.length + b.2.length ∧ (entE c).length = 84 + a.2.length + b.2.length ∧ d.2.length = 116 + a.2.length + b.2.length ∧ (entE d).length = 130 + a.2.length + b.2.length ∧ (arch [d]).length = 162 + a.2.length + b.2.length := by
  have e1 := ent_len a
  have e2 := ent_len b
  have e3 := ent_len c
  have e4 := ent_len d
  have e5 := arch2_len a b
  have e6 := arch1_len c
  have e7 := arch1_len d
  have := D.na
  have := D.nb
  have := D.nc
  have := D.nd
  rw [← D.pc] at e5
  rw [← D.pd] at e6
  omega
theorem Deep.mc (D : Deep a b c d) : ∃ t, c.2 = 66 :: 80 :: t := by
  rw [D.pc, arch_2]
  exact ent_66 _ _
theorem Deep.md (D : Deep a b c d) : ∃ t, d.2 = 66 :: 80 :: t := by
  rw [D.pd, arch_1]
  exact ent_66 _ _
/-- the innermost archive -/
theorem Deep.inner (D : Deep a b c d) {r : List Int} (hr : Aft r) (ho : ∀ o ∈ c.2 ++ r, oct o) (hz : (c.2 ++ r).length ≤ 246) (i : Nat) :
    R (c.2 ++ r) = (entE a).length + (entE b).length + R r ∧ Ch i (c.2 ++ r) = (i, a) :: (i + (entE a).length, b) :: Ch (i + c.2.length) r := by
  rw [D.pc] at ho hz ⊢
  exact lev_in D.ka D.kb D.pa D.pb D.la D.lb D.na D.nb hr ho hz i
/-- the middle one -/
theorem Deep.middle (D : Deep a b c d) {r : List Int} (hr : Aft r) (ho : ∀ o ∈ d.2 ++ r, oct o) (hz : (d.2 ++ r).length ≤ 246) (i : Nat) :
    R (d.2 ++ r) = (entE c).length + R r ∧ Ch i (d.2 ++ r) = (i, c) :: Ch (i + d.2.length) r := by
  obtain ⟨t, et⟩ := D.mc
  obtain ⟨l1, l2, l3, l4, l5, l6, l7⟩ := D.lens
  have := D.la
  have := D.lb
  have hnc := D.nc
  rw [D.pd] at ho hz ⊢
  refine lev_nest D.kc et (by omega) (by omega) (by omega) (by omega) hr ho ?_ i
  rw [arch_1, List.append_assoc] at ho hz
  have ho2 : ∀ o ∈ c.2 ++ ((dirO [c] ++ endO (entE c) (dirO [c])) ++ r), oct o := fun o m => by
    rcases List.mem_append.mp m with m | m
    · exact D.kc.2.1 o m
    · exact oct_ap ho o m
  have g2 := gap_tail1 (b := entE c) D.kc (by omega) (by omega) (by omega) (by omega) (by omega) hr (oct_ap ho)
  have af : Aft ((dirO [c] ++ endO (entE c) (dirO [c])) ++ r) := by
    rw [List.append_assoc]
    obtain ⟨t, e⟩ := dir_66 [c] (endO (entE c) (dirO [c]) ++ r)
    exact .inr ⟨_, _, e⟩
  have z := (D.inner af ho2 (by rw [List.length_append] at hz ⊢; omega) 0).1
  rw [z, (g2.run 0).1]
  omega
end
/-- a header that is none, ahead of a mark -/
theorem torn_gap {k y c1 c2 c3 c4 : Int} {ns s3 t : List Int} (hns : ∀ o ∈ ns, o ≠ 66) (hk : k ≠ 66) (hs : ∀ o ∈ s3, o ≠ 66) (ho : ∀ o ∈ 66 :: 80 :: 69 :: k :: (ns ++ (s3 ++ c1 :: c2 :: c3 :: c4 :: 66 :: y :: t)), oct o)
    (h0 : enAt (66 :: 80 :: 69 :: k :: (ns ++ (s3 ++ c1 :: c2 :: c3 :: c4 :: 66 :: y :: t))) = none) : Gap ([66] ++ ([80, 69, k] ++ ns ++ s3) ++ [c1, c2, c3, c4]) (66 :: y :: t) := by
  have ho2 : ∀ o ∈ ([80, 69, k] ++ ns ++ s3) ++ (c1 :: c2 :: c3 :: c4 :: 66 :: y :: t), oct o := by
    have := oct_tl ho
    simpa using this
  obtain ⟨h1, h2, h3, h4⟩ := chk_gap (oct_ap ho2)
  rw [List.append_assoc]
  show Gap (66 :: (([80, 69, k] ++ ns ++ s3) ++ [c1, c2, c3, c4])) (66 :: y :: t)
  refine Gap.cons (by simpa using h0) (Gap.app (a := [80, 69, k] ++ ns ++ s3) (a' := [c1, c2, c3, c4]) (Gap.ne (by simpa using ho2) fun o m => ?_) (.cons h1 (.cons h2 (.cons h3 (.cons h4 (.nil _))))))
  rcases List.mem_append.mp m with m | m
  · rcases List.mem_append.mp m with m | m
    · simp only [List.mem_cons, List.not_mem_nil, or_false] at m
      rcases m with rfl | rfl | rfl
      · decide
      · decide
      · exact hk
    · exact hns o m
  · exact hs o m
section
variable {a b c d : Pr}
theorem zeros_run (k : Nat) {l : List Int} (ho : ∀ o ∈ l, oct o) : Ch 0 (List.replicate k (0 : Int) ++ l) = Ch k l := by
  have hz : ∀ o ∈ List.replicate k (0 : Int), o = 0 := fun o m => (List.mem_replicate.mp m).2
  have g : Gap (List.replicate k (0 : Int)) l := Gap.ne (fun o m => (List.mem_append.mp m).elim (fun m => by rw [hz o m]; unfold oct; decide) (ho o)) fun o m => by rw [hz o m]; decide
  have := (g.run 0).2
  rw [List.length_replicate, Nat.zero_add] at this
  exact this
theorem one_good {e : Pr} (h : okPr e) : Good [e] := ⟨by simp, fun x m => by rw [List.mem_singleton.mp m]; exact h, by simp⟩
/-- the tail of an archive of one entry goes into nothing -/
theorem Deep.whole (D : Deep a b c d) (k : Nat) : Ch 0 (List.replicate k (0 : Int) ++ arch [d]) = [(k, d)] := by
  obtain ⟨t, et⟩ := D.md
  obtain ⟨l1, l2, l3, l4, l5, l6, l7⟩ := D.lens
  have := D.la
  have := D.lb
  have hnd := D.nd
  have hg := arch_oct (one_good D.kd)
  rw [zeros_run k hg]
  have ho : ∀ o ∈ arch [d] ++ [], oct o := by simpa using hg
  have ho3 : ∀ o ∈ (dirO [d] ++ endO (entE d) (dirO [d])) ++ [], oct o := by
    have := hg
    rw [arch_1] at this
    rw [List.append_nil]
    exact oct_ap this
  have g2 := gap_tail1 (r := []) (b := entE d) D.kd (by omega) (by omega) (by omega) (by omega) (by omega) (.inl rfl) ho3
  have af : Aft ((dirO [d] ++ endO (entE d) (dirO [d])) ++ []) := by
    rw [List.append_assoc]
    obtain ⟨t, e⟩ := dir_66 [d] (endO (entE d) (dirO [d]) ++ [])
    exact .inr ⟨_, _, e⟩
  have z := (D.middle af (fun o m => (List.mem_append.mp m).elim (D.kd.2.1 o) (ho3 o)) (by
    have := congrArg List.length (arch_1 d)
    rw [List.length_append] at this
    rw [List.length_append, List.append_nil]
    omega) 0).1
  have w := (lev_nest D.kd et (by omega) (by omega) (by omega) (by omega) (.inl rfl) ho (by rw [z, (g2.run 0).1]; omega) k).2
  rw [List.append_nil, Ch_nil] at w
  exact w
end
end AR
/-! k79: the torn ones. -/
namespace AR
open PySem PySem.Spec PyProof.Rows L2 DI
variable [Nm]
/-- two lists of the same length ahead of the rest -/
theorem app_len {a b c d : List Int} (h : a ++ b = c ++ d) (hl : a.length = c.length) : a = c ∧ b = d := List.append_inj h hl
/-- a header whose size goes beyond the list -/
theorem big_none {ns t : List Int} {x y z : Int} (hx : 1 ≤ x) (ho : ∀ o ∈ 66 :: 80 :: 69 :: (ns.length : Int) :: (ns ++ x :: y :: z :: t), oct o) (hz : (ns ++ x :: y :: z :: t).length < 60000) : enAt (66 :: 80 :: 69 :: (ns.length : Int) :: (ns ++ x :: y :: z :: t)) = none := by
  cases e : enAt (66 :: 80 :: 69 :: (ns.length : Int) :: (ns ++ x :: y :: z :: t)) with
  | none => rfl
  | some w =>
    exfalso
    obtain ⟨ms, p, post, h1, h2, h3, h4, h5, h6⟩ := enAt_parts ho e
    simp only [List.cons.injEq, true_and] at h6
    obtain ⟨g1, g2⟩ := app_len h6.2 (by omega)
    have hl := congrArg List.length h6.2
    simp only [List.length_append, List.length_cons] at hl hz
    simp only [List.cons.injEq] at g2
    omega
/-- a header whose check is another one than that of what it holds -/
theorem chk_none {ns p t v : List Int} {x y z : Int} (hv : v.length = 4) (hs : x = ((p.length : Int) / 256 / 256) % 256 ∧ y = ((p.length : Int) / 256) % 256 ∧ z = (p.length : Int) % 256) (hp : p.length ≤ 150000) (hne : v ≠ numO 4 (AR.chk 7 p))
    (ho : ∀ o ∈ 66 :: 80 :: 69 :: (ns.length : Int) :: (ns ++ x :: y :: z :: (v ++ (p ++ t))), oct o) : enAt (66 :: 80 :: 69 :: (ns.length : Int) :: (ns ++ x :: y :: z :: (v ++ (p ++ t)))) = none := by
  cases e : enAt (66 :: 80 :: 69 :: (ns.length : Int) :: (ns ++ x :: y :: z :: (v ++ (p ++ t)))) with
  | none => rfl
  | some w =>
    exfalso
    obtain ⟨ms, q, post, h1, h2, h3, h4, h5, h6⟩ := enAt_parts ho e
    simp only [List.cons.injEq, true_and] at h6
    obtain ⟨g1, g2⟩ := app_len h6.2 (by omega)
    simp only [List.cons.injEq] at g2
    have hq : p.length = q.length := by omega
    obtain ⟨g3, g4⟩ := app_len g2.2.2.2 (by rw [hv, numO_len])
    obtain ⟨g5, _⟩ := app_len g4 hq
    exact hne (by rw [g3, g5])
section
variable {a b c d : Pr}
def tl1 (e : Pr) : List Int := dirO [e] ++ endO (entE e) (dirO [e])
/-- what stands behind the outermost payload: nothing is in it -/
theorem Deep.tail (D : Deep a b c d) : (∀ o ∈ tl1 d, oct o) ∧ Aft (tl1 d) ∧ R (tl1 d) = 0 ∧ (tl1 d).length = 32 ∧ ∀ i, Ch i (tl1 d) = [] := by
  obtain ⟨l1, l2, l3, l4, l5, l6, l7⟩ := D.lens
  have := D.la
  have := D.lb
  have hnd := D.nd
  have hg := arch_oct (one_good D.kd)
  have la := arch1_len d
  rw [arch_1] at hg la
  have ho := oct_ap hg
  rw [List.length_append] at la
  have g2 := gap_tail1 (r := []) (b := entE d) D.kd (by omega) (by omega) (by omega) (by omega) (by omega) (.inl rfl) (by rwa [List.append_nil])
  refine ⟨ho, ?_, ?_, by unfold tl1; omega, fun i => ?_⟩
  · obtain ⟨t, e⟩ := dir_66 [d] (endO (entE d) (dirO [d]))
    exact .inr ⟨_, _, e⟩
  · have := (g2.run 0).1
    rw [List.append_nil, R_nil] at this
    exact this
  · have := (g2.run i).2
    rw [List.append_nil, Ch_nil] at this
    exact this
/-- the outermost header torn: what is in it -/
theorem Deep.torn1 (D : Deep a b c d) (k : Nat) (s : Int) (hs : 0 ≤ s ∧ s < 256 ∧ s ≠ 66) (v1 v2 v3 v4 : Int) (hv : oct v1 ∧ oct v2 ∧ oct v3 ∧ oct v4) :
    Ch 0 (List.replicate k (0 : Int) ++ (66 :: 80 :: 69 :: ((codes d.1).length : Int) :: (codes d.1 ++ 1 :: 0 :: s :: v1 :: v2 :: v3 :: v4 :: (d.2 ++ tl1 d)))) = [(k + 14, c)] := by
  obtain ⟨t, et⟩ := D.md
  obtain ⟨l1, l2, l3, l4, l5, l6, l7⟩ := D.lens
  have := D.la
  have := D.lb
  have hnd := D.nd
  have hcl := codes_len d.1
  obtain ⟨ht, af, rt, lt, ct⟩ := D.tail
  have hdo : ∀ o ∈ d.2 ++ tl1 d, oct o := fun o m => (List.mem_append.mp m).elim (D.kd.2.1 o) (ht o)
  have hco := codes_oct D.kd.1
  have ho : ∀ o ∈ 66 :: 80 :: 69 :: ((codes d.1).length : Int) :: (codes d.1 ++ 1 :: 0 :: s :: v1 :: v2 :: v3 :: v4 :: (d.2 ++ tl1 d)), oct o := fun o m => by
    simp only [List.mem_cons, List.mem_append] at m
    rcases m with rfl | rfl | rfl | rfl | m | rfl | rfl | rfl | rfl | rfl | rfl | rfl | m
    · unfold oct; decide
    · unfold oct; decide
    · unfold oct; decide
    · unfold oct; omega
    · exact hco o m
    · unfold oct; decide
    · unfold oct; decide
    · unfold oct; omega
    · exact hv.1
    · exact hv.2.1
    · exact hv.2.2.1
    · exact hv.2.2.2
    · exact hdo o (List.mem_append.mpr m)
  rw [zeros_run k ho]
  have h0 := big_none (ns := codes d.1) (x := 1) (y := 0) (z := s) (t := v1 :: v2 :: v3 :: v4 :: (d.2 ++ tl1 d)) (by decide) ho (by simp only [List.length_append, List.length_cons]; omega)
  have M := D.middle af hdo (by rw [List.length_append]; omega) (k + 14)
  rw [et] at ho h0 M ⊢
  have G := torn_gap (k := ((codes d.1).length : Int)) (ns := codes d.1) (s3 := [1, 0, s]) (y := 80) (t := t ++ tl1 d) (fun o m => name_ne D.kd.1 o (List.mem_cons_of_mem _ m)) (by omega) (fun o m => by
    simp only [List.mem_cons, List.not_mem_nil, or_false] at m
    rcases m with rfl | rfl | rfl <;> omega) ho h0
  have z := (G.run k).2
  have le : ([66] ++ ([80, 69, ((codes d.1).length : Int)] ++ codes d.1 ++ [1, 0, s]) ++ [v1, v2, v3, v4]).length = 14 := by
    simp only [List.length_append, List.length_cons, List.length_nil]
    omega
  rw [le] at z
  have M2 := M.2
  rw [ct] at M2
  have es : [66] ++ ([80, 69, ((codes d.1).length : Int)] ++ codes d.1 ++ [1, 0, s]) ++ [v1, v2, v3, v4] ++ 66 :: 80 :: (t ++ tl1 d) = 66 :: 80 :: 69 :: ((codes d.1).length : Int) :: (codes d.1 ++ 1 :: 0 :: s :: v1 :: v2 :: v3 :: v4 :: (66 :: 80 :: t ++ tl1 d)) := by simp
  rw [es] at z
  rw [z]
  exact M2
end
/-- a header of an entry of a name of three signs -/
def hdr (e : Pr) (x y z v1 v2 v3 v4 : Int) (q : List Int) : List Int := 66 :: 80 :: 69 :: ((codes e.1).length : Int) :: (codes e.1 ++ x :: y :: z :: v1 :: v2 :: v3 :: v4 :: q)
theorem hdr_oct {e : Pr} (h : okPr e) {x y z v1 v2 v3 v4 : Int} {q : List Int} (hx : oct x ∧ oct y ∧ oct z) (hv : oct v1 ∧ oct v2 ∧ oct v3 ∧ oct v4) (hq : ∀ o ∈ q, oct o) : ∀ o ∈ hdr e x y z v1 v2 v3 v4 q, oct o := fun o m => by
  have hn := name_len2 h.1
  have hcl := codes_len e.1
  unfold hdr at m
  simp only [List.mem_cons, List.mem_append] at m
  rcases m with rfl | rfl | rfl | rfl | m | rfl | rfl | rfl | rfl | rfl | rfl | rfl | m
  · unfold oct; decide
  · unfold oct; decide
  · unfold oct; decide
  · unfold oct; omega
  · exact codes_oct h.1 o m
  · exact hx.1
  · exact hx.2.1
  · exact hx.2.2
  · exact hv.1
  · exact hv.2.1
  · exact hv.2.2.1
  · exact hv.2.2.2
  · exact hq o m
theorem hdr_run {e : Pr} (h : okPr e) (hn : e.1.length = 3) {x y z v1 v2 v3 v4 : Int} {q t : List Int} (eq : q = 66 :: 80 :: t) (hx : oct x ∧ oct y ∧ oct z) (hx6 : x ≠ 66 ∧ y ≠ 66 ∧ z ≠ 66) (hv : oct v1 ∧ oct v2 ∧ oct v3 ∧ oct v4) (hq : ∀ o ∈ q, oct o)
    (h0 : enAt (hdr e x y z v1 v2 v3 v4 q) = none) (k : Nat) : R (hdr e x y z v1 v2 v3 v4 q) = R q ∧ Ch k (hdr e x y z v1 v2 v3 v4 q) = Ch (k + 14) q := by
  have hcl := codes_len e.1
  have ho := hdr_oct h hx hv hq
  subst eq
  have G := torn_gap (k := ((codes e.1).length : Int)) (ns := codes e.1) (s3 := [x, y, z]) (y := 80) (t := t) (fun o m => name_ne h.1 o (List.mem_cons_of_mem _ m)) (by omega) (fun o m => by
    simp only [List.mem_cons, List.not_mem_nil, or_false] at m
    rcases m with rfl | rfl | rfl
    · exact hx6.1
    · exact hx6.2.1
    · exact hx6.2.2) ho h0
  have zz := G.run k
  have le : ([66] ++ ([80, 69, ((codes e.1).length : Int)] ++ codes e.1 ++ [x, y, z]) ++ [v1, v2, v3, v4]).length = 14 := by
    simp only [List.length_append, List.length_cons, List.length_nil]
    omega
  rw [le] at zz
  have es : [66] ++ ([80, 69, ((codes e.1).length : Int)] ++ codes e.1 ++ [x, y, z]) ++ [v1, v2, v3, v4] ++ 66 :: 80 :: t = hdr e x y z v1 v2 v3 v4 (66 :: 80 :: t) := by
    unfold hdr
    simp
  rw [es] at zz
  exact zz
/-- the innermost payloads, with all behind the two outer ones torn -/
theorem Deep.behind {a b c d : Pr} (D : Deep a b c d) : (∀ o ∈ tl1 c ++ tl1 d, oct o) ∧ Aft (tl1 c ++ tl1 d) ∧ R (tl1 c ++ tl1 d) = 0 ∧ (tl1 c ++ tl1 d).length = 64 ∧ ∀ i, Ch i (tl1 c ++ tl1 d) = [] := by
  obtain ⟨l1, l2, l3, l4, l5, l6, l7⟩ := D.lens
  have := D.la
  have := D.lb
  have hnc := D.nc
  obtain ⟨ht, af, rt, lt, ct⟩ := D.tail
  have hg := arch_oct (one_good D.kc)
  have la := arch1_len c
  rw [arch_1] at hg la
  have ho := oct_ap hg
  rw [List.length_append] at la
  have hoo : ∀ o ∈ tl1 c ++ tl1 d, oct o := fun o m => (List.mem_append.mp m).elim (ho o) (ht o)
  have g2 := gap_tail1 (b := entE c) D.kc (by omega) (by omega) (by omega) (by omega) (by omega) af hoo
  refine ⟨hoo, ?_, ?_, by rw [List.length_append, lt]; unfold tl1; omega, fun i => ?_⟩
  · obtain ⟨t, e⟩ := dir_66 [c] (endO (entE c) (dirO [c]) ++ tl1 d)
    exact .inr ⟨_, _, by unfold tl1; rw [List.append_assoc]; exact e⟩
  · exact (g2.run 0).1.trans rt
  · exact (g2.run i).2.trans (ct _)
/-- both outer headers torn: the two innermost ones -/
theorem Deep.inmost {a b c d : Pr} (D : Deep a b c d) (i : Nat) : R (c.2 ++ (tl1 c ++ tl1 d)) = (entE a).length + (entE b).length ∧ Ch i (c.2 ++ (tl1 c ++ tl1 d)) = [(i, a), (i + (entE a).length, b)] := by
  obtain ⟨l1, l2, l3, l4, l5, l6, l7⟩ := D.lens
  have := D.la
  have := D.lb
  obtain ⟨ho, af, rt, lt, ct⟩ := D.behind
  have z := D.inner af (fun o m => (List.mem_append.mp m).elim (D.kc.2.1 o) (ho o)) (by rw [List.length_append]; omega) i
  rw [rt, ct] at z
  exact ⟨z.1, z.2⟩
theorem oct_of {x : Int} (h0 : 0 ≤ x) (h1 : x < 256) : oct x := by
  unfold oct
  omega
/-- the two outer headers torn, the second one in its check -/
theorem Deep.torn2 {a b c d : Pr} (D : Deep a b c d) (k : Nat) (v1 v2 v3 v4 w1 w2 w3 w4 : Int) (hv : oct v1 ∧ oct v2 ∧ oct v3 ∧ oct v4) (hw : oct w1 ∧ oct w2 ∧ oct w3 ∧ oct w4) (hne : [w1, w2, w3, w4] ≠ numO 4 (AR.chk 7 c.2)) :
    Ch 0 (List.replicate k (0 : Int) ++ hdr d 1 0 (d.2.length : Int) v1 v2 v3 v4 (hdr c 0 0 (c.2.length : Int) w1 w2 w3 w4 (c.2 ++ (tl1 c ++ tl1 d)))) = [(k + 28, a), (k + 28 + (entE a).length, b)] := by
  obtain ⟨t, et⟩ := D.mc
  obtain ⟨l1, l2, l3, l4, l5, l6, l7⟩ := D.lens
  have := D.la
  have := D.lb
  have hnc := D.nc
  have hnd := D.nd
  have hcc := codes_len c.1
  have hcd := codes_len d.1
  obtain ⟨hbo, baf, brt, blt, bct⟩ := D.behind
  have hq : ∀ o ∈ c.2 ++ (tl1 c ++ tl1 d), oct o := fun o m => (List.mem_append.mp m).elim (D.kc.2.1 o) (hbo o)
  have x0 : oct 0 := oct_of (by decide) (by decide)
  have x1 : oct 1 := oct_of (by decide) (by decide)
  have hc3 : oct (0 : Int) ∧ oct (0 : Int) ∧ oct (c.2.length : Int) := ⟨x0, x0, oct_of (by omega) (by omega)⟩
  have hd3 : oct (1 : Int) ∧ oct (0 : Int) ∧ oct (d.2.length : Int) := ⟨x1, x0, oct_of (by omega) (by omega)⟩
  have hoc := hdr_oct D.kc hc3 hw hq
  have hod := hdr_oct D.kd hd3 hv hoc
  have n2 : enAt (hdr c 0 0 (c.2.length : Int) w1 w2 w3 w4 (c.2 ++ (tl1 c ++ tl1 d))) = none :=
    chk_none (ns := codes c.1) (p := c.2) (t := tl1 c ++ tl1 d) (v := [w1, w2, w3, w4]) rfl ⟨by omega, by omega, by omega⟩ (by omega) hne hoc
  have lc : (hdr c 0 0 (c.2.length : Int) w1 w2 w3 w4 (c.2 ++ (tl1 c ++ tl1 d))).length < 1000 := by
    unfold hdr
    simp only [List.length_append, List.length_cons] at blt ⊢
    omega
  have n1 : enAt (hdr d 1 0 (d.2.length : Int) v1 v2 v3 v4 (hdr c 0 0 (c.2.length : Int) w1 w2 w3 w4 (c.2 ++ (tl1 c ++ tl1 d)))) = none := by
    refine big_none (ns := codes d.1) (by decide) hod ?_
    simp only [List.length_append, List.length_cons] at lc ⊢
    omega
  rw [zeros_run k hod]
  rw [(hdr_run D.kd hnd (q := hdr c 0 0 (c.2.length : Int) w1 w2 w3 w4 (c.2 ++ (tl1 c ++ tl1 d))) rfl hd3 ⟨by decide, by decide, by omega⟩ hv hoc n1 k).2]
  rw [(hdr_run D.kc hnc (q := c.2 ++ (tl1 c ++ tl1 d)) (t := t ++ (tl1 c ++ tl1 d)) (by rw [et]; rfl) hc3 ⟨by decide, by decide, by omega⟩ hw hq n2 (k + 14)).2]
  exact (D.inmost (k + 28)).2
/-- the first of the innermost entries torn at its first octet -/
theorem Deep.inmost0 {a b c d : Pr} (D : Deep a b c d) (i : Nat) : R (0 :: (c.2 ++ (tl1 c ++ tl1 d)).drop 1) = (entE b).length ∧ Ch i (0 :: (c.2 ++ (tl1 c ++ tl1 d)).drop 1) = [(i + (entE a).length, b)] := by
  obtain ⟨l1, l2, l3, l4, l5, l6, l7⟩ := D.lens
  have := D.la
  have := D.lb
  obtain ⟨hbo, baf, brt, blt, bct⟩ := D.behind
  have hq : ∀ o ∈ c.2 ++ (tl1 c ++ tl1 d), oct o := fun o m => (List.mem_append.mp m).elim (D.kc.2.1 o) (hbo o)
  have hl : (c.2 ++ (tl1 c ++ tl1 d)).length = 134 + a.2.length + b.2.length := by rw [List.length_append, blt]; omega
  rw [D.pc, arch_2, List.append_assoc, List.append_assoc] at hq ⊢
  rw [D.pc, arch_2, List.append_assoc, List.append_assoc] at hl
  generalize hT : dirO [a, b] ++ endO (entE a ++ entE b) (dirO [a, b]) = T at *
  have g2 := gap_tail2 (b := entE a ++ entE b) (r := tl1 c ++ tl1 d) D.ka D.kb D.pa D.la D.lb (by rw [List.length_append]; omega) (by rw [List.length_append]; omega) (by have := D.na; omega) (by have := D.nb; omega) baf (by rw [hT]; exact oct_ap (oct_ap hq))
  rw [hT] at g2
  obtain ⟨t2, e2⟩ : ∃ t, T ++ (tl1 c ++ tl1 d) = 66 :: 80 :: t := by
    rw [← hT, List.append_assoc]
    exact dir_66 _ _
  rw [List.length_append, List.length_append] at hl
  have B : ∀ j, R (entE b ++ (T ++ (tl1 c ++ tl1 d))) = (entE b).length ∧ Ch j (entE b ++ (T ++ (tl1 c ++ tl1 d))) = [(j, b)] := fun j => by
    have r0 := (g2.run 0).1
    have c0 := (g2.run (j + (entE b).length)).2
    have hq2 := oct_ap hq
    rw [e2] at r0 c0 hq2 hl ⊢
    have z := R_low D.kb D.pb D.lb hq2 (by rw [List.length_append]; omega) j
    rw [r0, c0, brt, bct] at z
    exact z
  obtain ⟨t1, e1⟩ := ent_66 b (T ++ (tl1 c ++ tl1 d))
  have h1l : (66 :: 80 :: t1).length = (entE b).length + (T ++ (tl1 c ++ tl1 d)).length := by rw [← e1, List.length_append]
  rw [e1] at hq B
  have g1 := gap_low D.ka D.pa D.la hq (by rw [List.length_append]; omega)
  have d1 : (entE a ++ (entE b ++ (T ++ (tl1 c ++ tl1 d)))).drop 1 = (fro a ++ (numO 4 (AR.chk 7 a.2) ++ a.2)) ++ 66 :: 80 :: t1 := by rw [e1, ent_fro]; rfl
  have la : (0 :: (fro a ++ (numO 4 (AR.chk 7 a.2) ++ a.2))).length = (entE a).length := by rw [ent_fro]; rfl
  have h0 : enAt (0 :: ((fro a ++ (numO 4 (AR.chk 7 a.2) ++ a.2)) ++ 66 :: 80 :: t1)) = none := enAt_zero _ fun o m => hq o (by
    rw [ent_fro]
    exact List.mem_cons_of_mem _ m)
  have z := (Gap.cons h0 g1).run i
  rw [la, (B 0).1, (B (i + (entE a).length)).2] at z
  rw [d1]
  exact z
end AR
/-! k79: the third tear; concrete lists. -/
namespace AR
open PySem PySem.Spec PyProof.Rows L2 DI
variable [Nm]
/-- a header that is none, ahead of 0, 80 -/
theorem hdr_run0 {e : Pr} (h : okPr e) (hn : e.1.length = 3) {x y z v1 v2 v3 v4 : Int} {q t : List Int} (eq : q = 0 :: 80 :: t) (hx : oct x ∧ oct y ∧ oct z) (hx6 : x ≠ 66 ∧ y ≠ 66 ∧ z ≠ 66) (hv : oct v1 ∧ oct v2 ∧ oct v3 ∧ oct v4) (hq : ∀ o ∈ q, oct o)
    (h0 : enAt (hdr e x y z v1 v2 v3 v4 q) = none) (k : Nat) : R (hdr e x y z v1 v2 v3 v4 q) = R q ∧ Ch k (hdr e x y z v1 v2 v3 v4 q) = Ch (k + 14) q := by
  have hcl := codes_len e.1
  have ho := hdr_oct h hx hv hq
  subst eq
  have ho2 : ∀ o ∈ ([80, 69, ((codes e.1).length : Int)] ++ codes e.1 ++ [x, y, z]) ++ (v1 :: v2 :: v3 :: v4 :: 0 :: 80 :: t), oct o := fun o m => ho o (by
    unfold hdr
    simp only [List.mem_cons, List.mem_append, List.not_mem_nil, or_false] at m ⊢
    rcases m with ((((rfl | rfl | rfl) | m) | rfl | rfl | rfl) | m) <;> simp_all)
  have ho3 := oct_ap ho2
  have g1 : enAt (v1 :: v2 :: v3 :: v4 :: 0 :: 80 :: t) = none := by
    by_cases h : v1 = 66 ∧ v2 = 80 ∧ v3 = 69
    · obtain ⟨rfl, rfl, rfl⟩ := h
      exact no_sign ho3 (by unfold nmS; omega)
    · exact no_mark ho3 (by omega)
  have g2 : enAt (v2 :: v3 :: v4 :: 0 :: 80 :: t) = none := by
    by_cases h : v2 = 66 ∧ v3 = 80 ∧ v4 = 69
    · obtain ⟨rfl, rfl, rfl⟩ := h
      exact no_len (oct_tl ho3) (by omega)
    · exact no_mark (oct_tl ho3) (by omega)
  have g3 : enAt (v3 :: v4 :: 0 :: 80 :: t) = none := no_mark (oct_tl (oct_tl ho3)) (by omega)
  have g4 : enAt (v4 :: 0 :: 80 :: t) = none := no_mark (oct_tl (oct_tl (oct_tl ho3))) (by omega)
  have G : Gap (66 :: (([80, 69, ((codes e.1).length : Int)] ++ codes e.1 ++ [x, y, z]) ++ [v1, v2, v3, v4])) (0 :: 80 :: t) := by
    refine Gap.cons ?_ (Gap.app (a' := [v1, v2, v3, v4]) (Gap.ne (by simpa using ho2) fun o m => ?_) (.cons g1 (.cons g2 (.cons g3 (.cons g4 (.nil _))))))
    · unfold hdr at h0
      simpa using h0
    · rcases List.mem_append.mp m with m | m
      · rcases List.mem_append.mp m with m | m
        · simp only [List.mem_cons, List.not_mem_nil, or_false] at m
          rcases m with rfl | rfl | rfl
          · decide
          · decide
          · omega
        · exact name_ne h.1 o (List.mem_cons_of_mem _ m)
      · simp only [List.mem_cons, List.not_mem_nil, or_false] at m
        rcases m with rfl | rfl | rfl
        · exact hx6.1
        · exact hx6.2.1
        · exact hx6.2.2
  have zz := G.run k
  have le : (66 :: (([80, 69, ((codes e.1).length : Int)] ++ codes e.1 ++ [x, y, z]) ++ [v1, v2, v3, v4])).length = 14 := by
    simp only [List.length_append, List.length_cons, List.length_nil]
    omega
  rw [le] at zz
  have es : (66 :: (([80, 69, ((codes e.1).length : Int)] ++ codes e.1 ++ [x, y, z]) ++ [v1, v2, v3, v4])) ++ 0 :: 80 :: t = hdr e x y z v1 v2 v3 v4 (0 :: 80 :: t) := by
    unfold hdr
    simp
  rw [es] at zz
  exact zz
/-- what another first octet changes of a check -/
def p257 (n : Nat) : Int := pwf 257 n % 4294967291
theorem hor_lin (f : Int) : ∀ (row : List Int) (a : Int), hor f a row = a * pwf f row.length + hor f 0 row
  | [], a => by show a = a * 1 + 0; omega
  | x :: row, a => by
    rw [hor_cons, hor_lin f row (a * f + x), hor_cons, hor_lin f row (0 * f + x)]
    show (a * f + x) * pwf f row.length + hor f 0 row = a * (pwf f row.length * f) + ((0 * f + x) * pwf f row.length + hor f 0 row)
    rw [Int.zero_mul, Int.zero_add, Int.add_mul, Int.mul_assoc, Int.mul_comm f, Int.add_assoc]
theorem chk_first (p : List Int) : (AR.chk 7 (66 :: p) - AR.chk 7 (0 :: p)) % 4294967291 = 66 * p257 p.length % 4294967291 := by
  have h1 := chk_hor (66 :: p) 7 7 rfl
  have h2 := chk_hor (0 :: p) 7 7 rfl
  simp only [List.map_cons] at h1 h2
  rw [hor_cons, hor_lin, List.length_map] at h1 h2
  unfold p257
  generalize pwf 257 p.length = w at *
  generalize hor 257 0 (p.map (· + 1)) = v at *
  omega
def tearB (n : Nat) : Bool := (List.range 511).all fun i => decide (i = 255) || decide ((((i : Int) - 255) * 16777216 + 66 * p257 n) % 4294967291 ≠ 0)
theorem tear_ok : (List.range 11).all (fun k => tearB (69 + k)) = true := by decide +kernel
/-- a check with another first octet is not that of the payload with another first octet -/
theorem tear_arith {c d v1 v2 v3 v4 w u : Int} (hf : (c - d) % 4294967291 = 66 * u % 4294967291) (c0 : 0 ≤ c) (c1 : c < 4294967291) (d0 : 0 ≤ d) (d1 : d < 4294967291)
    (h1 : v1 = c / 256 / 256 / 256 % 256) (h2 : v2 = c / 256 / 256 % 256) (h3 : v3 = c / 256 % 256) (h4 : v4 = c % 256)
    (g1 : w = d / 256 / 256 / 256 % 256) (g2 : v2 = d / 256 / 256 % 256) (g3 : v3 = d / 256 % 256) (g4 : v4 = d % 256) : ((w - v1) * 16777216 + 66 * u) % 4294967291 = 0 := by
  have e1 : c = v1 * 16777216 + v2 * 65536 + v3 * 256 + v4 := by omega
  have e2 : d = w * 16777216 + v2 * 65536 + v3 * 256 + v4 := by omega
  have e3 : c - d = (v1 - w) * 16777216 := by omega
  omega
theorem tear_at (n : Nat) (h : 69 ≤ n ∧ n ≤ 79) (x : Int) (hx : -255 ≤ x ∧ x ≤ 255) (h0 : x ≠ 0) : (x * 16777216 + 66 * p257 n) % 4294967291 ≠ 0 := by
  have ht := List.all_eq_true.mp tear_ok (n - 69) (List.mem_range.mpr (by omega))
  have e : 69 + (n - 69) = n := by omega
  rw [e] at ht
  have hb := List.all_eq_true.mp ht (x + 255).toNat (List.mem_range.mpr (by omega))
  have e1 : (((x + 255).toNat : Nat) : Int) - 255 = x := by omega
  rw [e1] at hb
  rcases (Bool.or_eq_true _ _).mp hb with hb | hb
  · have := of_decide_eq_true hb
    omega
  · exact of_decide_eq_true hb
/-- a check with another first octet is not that of the payload with another first octet -/
theorem tear_ne {p : List Int} (hl : 69 ≤ p.length ∧ p.length ≤ 79) {v1 v2 v3 v4 w : Int} (hv : [v1, v2, v3, v4] = numO 4 (AR.chk 7 (66 :: p))) (hw : oct w) (hne : w ≠ v1) : [w, v2, v3, v4] ≠ numO 4 (AR.chk 7 (0 :: p)) := fun h => by
  have hf := chk_first p
  have r1 := chk_range (c := 7) (by decide) (66 :: p)
  have r2 := chk_range (c := 7) (by decide) (0 :: p)
  have ho := numO_oct 4 (AR.chk 7 (66 :: p))
  rw [← hv] at ho
  have ho1 := ho v1 (by simp)
  unfold oct at hw ho1
  rw [numO4] at hv h
  simp only [List.cons.injEq, and_true] at hv h
  exact tear_at p.length hl (w - v1) (by omega) (by omega) (tear_arith hf r1.1 r1.2 r2.1 r2.2 hv.1 hv.2.1 hv.2.2.1 hv.2.2.2 h.1 h.2.1 h.2.2.1 h.2.2.2)
/-- the third tear -/
theorem Deep.torn3 {a b c d : Pr} (D : Deep a b c d) (k : Nat) (v1 v2 v3 v4 w1 w2 w3 w4 u : Int) (hv : oct v1 ∧ oct v2 ∧ oct v3 ∧ oct v4) (hu : [u, w2, w3, w4] = numO 4 (AR.chk 7 c.2)) (hw : oct w1) (hne : w1 ≠ u) :
    Ch 0 (List.replicate k (0 : Int) ++ hdr d 1 0 (d.2.length : Int) v1 v2 v3 v4 (hdr c 0 0 (c.2.length : Int) w1 w2 w3 w4 (0 :: (c.2 ++ (tl1 c ++ tl1 d)).drop 1))) = [(k + 28 + (entE a).length, b)] := by
  obtain ⟨t, et⟩ := D.mc
  obtain ⟨l1, l2, l3, l4, l5, l6, l7⟩ := D.lens
  have := D.la
  have := D.lb
  have hnc := D.nc
  have hnd := D.nd
  have hcc := codes_len c.1
  have hcd := codes_len d.1
  obtain ⟨hbo, baf, brt, blt, bct⟩ := D.behind
  have hq : ∀ o ∈ c.2 ++ (tl1 c ++ tl1 d), oct o := fun o m => (List.mem_append.mp m).elim (D.kc.2.1 o) (hbo o)
  have x0 : oct 0 := oct_of (by decide) (by decide)
  have x1 : oct 1 := oct_of (by decide) (by decide)
  have ed : (0 : Int) :: (c.2 ++ (tl1 c ++ tl1 d)).drop 1 = (0 :: 80 :: t) ++ (tl1 c ++ tl1 d) := by rw [et]; rfl
  have hq0 : ∀ o ∈ (0 : Int) :: (c.2 ++ (tl1 c ++ tl1 d)).drop 1, oct o := fun o m => by
    rcases List.mem_cons.mp m with rfl | m
    · exact x0
    · exact hq o (List.mem_of_mem_drop m)
  have hww : ∀ o ∈ [u, w2, w3, w4], oct o := by rw [hu]; exact numO_oct _ _
  have hwa : oct w1 ∧ oct w2 ∧ oct w3 ∧ oct w4 := ⟨hw, hww _ (by simp), hww _ (by simp), hww _ (by simp)⟩
  have hc3 : oct (0 : Int) ∧ oct (0 : Int) ∧ oct (c.2.length : Int) := ⟨x0, x0, oct_of (by omega) (by omega)⟩
  have hd3 : oct (1 : Int) ∧ oct (0 : Int) ∧ oct (d.2.length : Int) := ⟨x1, x0, oct_of (by omega) (by omega)⟩
  have hoc := hdr_oct D.kc hc3 hwa hq0
  have hod := hdr_oct D.kd hd3 hv hoc
  have hlt : (80 :: t).length + 1 = c.2.length := by rw [et]; simp
  have hne2 : [w1, w2, w3, w4] ≠ numO 4 (AR.chk 7 (0 :: 80 :: t)) := by
    refine tear_ne (v1 := u) (by omega) ?_ hw hne
    rw [hu, et]
  have n2 : enAt (hdr c 0 0 (c.2.length : Int) w1 w2 w3 w4 (0 :: (c.2 ++ (tl1 c ++ tl1 d)).drop 1)) = none := by
    rw [ed] at hoc ⊢
    refine chk_none (ns := codes c.1) (p := 0 :: 80 :: t) (t := tl1 c ++ tl1 d) (v := [w1, w2, w3, w4]) rfl ?_ (by simp only [List.length_cons] at hlt ⊢; omega) hne2 hoc
    rw [show (0 :: 80 :: t).length = c.2.length from by simp only [List.length_cons] at hlt ⊢; omega]
    exact ⟨by omega, by omega, by omega⟩
  have lc : (hdr c 0 0 (c.2.length : Int) w1 w2 w3 w4 (0 :: (c.2 ++ (tl1 c ++ tl1 d)).drop 1)).length < 1000 := by
    unfold hdr
    simp only [List.length_append, List.length_cons, List.length_drop] at blt ⊢
    omega
  have n1 : enAt (hdr d 1 0 (d.2.length : Int) v1 v2 v3 v4 (hdr c 0 0 (c.2.length : Int) w1 w2 w3 w4 (0 :: (c.2 ++ (tl1 c ++ tl1 d)).drop 1))) = none := by
    refine big_none (ns := codes d.1) (by decide) hod ?_
    simp only [List.length_append, List.length_cons] at lc ⊢
    omega
  rw [zeros_run k hod]
  rw [(hdr_run D.kd hnd (q := hdr c 0 0 (c.2.length : Int) w1 w2 w3 w4 (0 :: (c.2 ++ (tl1 c ++ tl1 d)).drop 1)) rfl hd3 ⟨by decide, by decide, by omega⟩ hv hoc n1 k).2]
  rw [(hdr_run0 D.kc hnc (q := 0 :: (c.2 ++ (tl1 c ++ tl1 d)).drop 1) (t := t ++ (tl1 c ++ tl1 d)) (by rw [et]; rfl) hc3 ⟨by decide, by decide, by omega⟩ hwa hq0 n2 (k + 14)).2]
  exact (D.inmost0 (k + 28)).2
/-! with fuel, for what is written out -/
def RF : Nat → List Int → Nat
  | 0, _ => 0
  | _ + 1, [] => 0
  | n + 1, o :: t => match enAt (o :: t) with
    | none => RF n t
    | some e => max (RF n t) ((entE e).length + RF n ((o :: t).drop (entE e).length))
theorem RF_ok : ∀ (n : Nat) (l : List Int), l.length ≤ n → RF n l = R l := by
  intro n
  induction n with
  | zero =>
    intro l h
    rw [List.length_eq_zero_iff.mp (show l.length = 0 by omega), R_nil]
    rfl
  | succ n ih =>
    intro l h
    cases l with
    | nil => rw [R_nil]; rfl
    | cons o t =>
      simp only [List.length_cons] at h
      have i1 := ih t (by omega)
      cases hn : enAt (o :: t) with
      | none =>
        rw [R_none hn, ← i1]
        show (match enAt (o :: t) with | none => _ | some e => _) = _
        rw [hn]
      | some e =>
        have hp := ent_pos e
        have i2 := ih ((o :: t).drop (entE e).length) (by rw [List.length_drop, List.length_cons]; omega)
        rw [R_some hn, ← i1, ← i2]
        show (match enAt (o :: t) with | none => _ | some e => _) = _
        rw [hn]
def ChF : Nat → Nat → List Int → List (Nat × Pr)
  | 0, _, _ => []
  | _ + 1, _, [] => []
  | n + 1, i, o :: t => match enAt (o :: t) with
    | none => ChF n (i + 1) t
    | some e => if RF (n + 1) (o :: t) = (entE e).length + RF n ((o :: t).drop (entE e).length) then (i, e) :: ChF n (i + (entE e).length) ((o :: t).drop (entE e).length) else ChF n (i + 1) t
theorem ChF_ok : ∀ (n i : Nat) (l : List Int), l.length ≤ n → ChF n i l = Ch i l := by
  intro n
  induction n with
  | zero =>
    intro i l h
    rw [List.length_eq_zero_iff.mp (show l.length = 0 by omega), Ch_nil]
    rfl
  | succ n ih =>
    intro i l h
    cases l with
    | nil => rw [Ch_nil]; rfl
    | cons o t =>
      have h' := h
      simp only [List.length_cons] at h
      cases hn : enAt (o :: t) with
      | none =>
        rw [Ch_none hn, ← ih (i + 1) t (by omega)]
        show (match enAt (o :: t) with | none => _ | some e => _) = _
        rw [hn]
      | some e =>
        have hp := ent_pos e
        have hd : ((o :: t).drop (entE e).length).length ≤ n := by rw [List.length_drop, List.length_cons]; omega
        rw [Ch_some hn, ← ih _ _ hd, ← ih (i + 1) t (by omega), ← RF_ok _ _ h', ← RF_ok _ _ hd]
        show (match enAt (o :: t) with | none => _ | some e => _) = _
        rw [hn]
end AR
namespace K79
open PySem PySem.Spec PyProof.Rows L2 DI AR
variable [Nm]
def top (i : Nat) : Stmt := PySem.Challenge.pw_bookpack_k79_entries_in_entries_saved.main.body.getD i (.Pass ⟨0, 0, 0, 0⟩)
structure Txt (K : PySem.W.Frag) (mg : Str → Option Value) : Prop where
  isinstance : mg "isinstance" = none
  tuple : mg "tuple" = none
  len : mg "len" = none
  zip : mg "zip" = none
  enumerate : mg "enumerate" = none
  bool : mg "bool" = none
  int : mg "int" = none
  str : mg "str" = none
  all : mg "all" = none
  sorted : mg "sorted" = none
  reversed : mg "reversed" = none
  range : mg "range" = none
structure Cn (K : PySem.W.Frag) (mg : Str → Option Value) : Prop where
  MODULUS : Gc K mg "MODULUS" (.int 4294967291)
  FACTOR : Gc K mg "FACTOR" (.int 257)
  FIRST_CHECK : Gc K mg "FIRST_CHECK" (.int 7)
  _LINE_END : Gc K mg "_LINE_END" (.int 10)
  _LOW : Gc K mg "_LOW" (.int 32)
  _SIGNS : Gc K mg "_SIGNS" (.str " !\"#$\t&'()*+,-./0123456789:;<=>?@ABCDEFGHIJKLMNOPQRSTUVWXYZ[\\]^_`abcdefghijklmnopqrstuvwxyz{|}~")
  _NO_TEXT : Gc K mg "_NO_TEXT" (.str "\t")
  MOST_NAME : Gc K mg "MOST_NAME" (.int 40)
  MOST_PAYLOAD : Gc K mg "MOST_PAYLOAD" (.int 150000)
  _MARK : Gc K mg "_MARK" (.tup [(.int 66), (.int 80), (.int 69)])
  _NAME_SIGNS : Gc K mg "_NAME_SIGNS" (.str "abcdefghijklmnopqrstuvwxyz0123456789./-")
structure Ec (K : PySem.W.Frag) (mg : Str → Option Value) : Prop where
  BadOctets : Cl K mg "BadOctets" ["index"]
def trD (x : Nat × Pr) : D := .tup [.int (x.1 : Int), .str x.2.1, .int (x.2.2.length : Int)]
def F__law_told : FT := ⟨fun ds n Q => ∃ os : List Int, ds = [.lst (oc os)] ∧ (∀ o ∈ os, oct o) ∧ os.length ≤ 5000000 ∧ Q (.lst ((Ch 0 os).map trD)) n, fun ds n P P' h ⟨a, e, o, l, q⟩ => ⟨a, e, o, l, h _ _ q⟩⟩
def F__law_drawn_payload : FT := ⟨fun ds n Q => ∃ most : Nat, ds = [.drw, .int most] ∧ most ≤ 100000 ∧ n < 2 ^ 59 ∧ ∀ (p : List Int) (m : Nat), (∀ o ∈ p, o ∈ al10) → p.length ≤ most → n ≤ m → m ≤ n + (2 + 2 * most) → Q (.lst (oc p)) m, fun ds n P P' h ⟨most, e, y, x, q⟩ => ⟨most, e, y, x, fun z m a b c d => h _ _ (q z m a b c d)⟩⟩
def F__law_deep_right : FT := ⟨fun ds n Q => ∃ a b : List Int, ds = [.drw, .lst (oc a), .lst (oc b)] ∧ (∀ o ∈ a, o ∈ al10) ∧ (∀ o ∈ b, o ∈ al10) ∧ a.length ≤ 5 ∧ b.length ≤ 5 ∧ n < 2 ^ 57 ∧ ∀ m, n ≤ m → m ≤ n + 10 → Q (.bl true) m, fun ds n P P' h ⟨a, b, e, x1, x2, x3, x4, y, q⟩ => ⟨a, b, e, x1, x2, x3, x4, y, fun m u v => h _ _ (q m u v)⟩⟩
def F__law_overlaps_right : FT := ⟨fun ds n Q => ∃ k : Nat, ds = [.int (k : Int)] ∧ 1 ≤ k ∧ k ≤ 12 ∧ Q (.bl true) n, fun ds n P P' h ⟨a, e, o, l, q⟩ => ⟨a, e, o, l, h _ _ q⟩⟩
def F__law_named_right : FT := ⟨fun ds n Q => ∃ k : Nat, ds = [.int (k : Int)] ∧ 1 ≤ k ∧ k ≤ 12 ∧ Q (.bl true) n, fun ds n P P' h ⟨a, e, o, l, q⟩ => ⟨a, e, o, l, h _ _ q⟩⟩
def F__law_hidden_right : FT := ⟨fun ds n Q => ds = [] ∧ Q (.bl true) n, fun ds n P P' h ⟨e, q⟩ => ⟨e, h _ _ q⟩⟩
theorem al10_oct {o : Int} (h : o ∈ al10) : oct o := by
  simp only [al10, List.mem_cons, List.not_mem_nil, or_false] at h
  unfold oct
  omega
/-! lists of triples, compared -/
theorem plainA_tr : ∀ xs : List (Nat × Pr), plainA (xs.map trD) = true
  | [] => by simp only [List.map_nil, plainA]
  | e :: t => by
    rw [List.map_cons]
    simp only [plainA, trD, DI.plain, plainA_tr t, Bool.true_and]
theorem lay_tr : ∀ xs : List (Nat × Pr), (∀ x ∈ xs, PyData.strOk x.2.1 = true) → PyData.canLayAll0 (toPyA (xs.map trD)) = true
  | [], _ => by simp only [List.map_nil, toPyA, PyData.canLayAll0]
  | e :: t, h => by
    have h1 := h e List.mem_cons_self
    have h2 := lay_tr t fun x m => h x (List.mem_cons_of_mem _ m)
    rw [List.map_cons]
    simp only [toPyA, trD, toPy, PyData.canLayAll0, PyData.canLay0, h1, h2, Bool.true_and]
theorem depth_tr : ∀ xs : List (Nat × Pr), PyData.depthAll (toPyA (xs.map trD)) ≤ 1
  | [] => by simp only [List.map_nil, toPyA, PyData.depthAll]; omega
  | e :: t => by
    rw [List.map_cons]
    have := depth_tr t
    simp only [toPyA, trD, toPy, PyData.depthAll, PyData.depth]
    omega
theorem shp_tr (xs : List (Nat × Pr)) (h : ∀ x ∈ xs, PyData.strOk x.2.1 = true) : shp (.lst (xs.map trD)) := by
  refine ⟨by simp only [DI.plain, plainA_tr], ?_⟩
  have := depth_tr xs
  unfold SeqAt.shaped
  simp only [toPy, PyData.canLay0, lay_tr xs h, PyData.depth, Bool.true_and]
  exact decide_eq_true (by omega)
theorem ceq_tr (xs : List (Nat × Pr)) (h : ∀ x ∈ xs, PyData.strOk x.2.1 = true) : cEq (.lst (xs.map trD)) (.lst (xs.map trD)) := .inr ⟨shp_tr _ h, shp_tr _ h⟩
theorem eqA_tr : ∀ xs : List (Nat × Pr), PyData.eqvAll (toPyA (xs.map trD)) (toPyA (xs.map trD)) = true
  | [] => by simp only [List.map_nil, toPyA, PyData.eqvAll]
  | e :: t => by
    rw [List.map_cons]
    simp only [toPyA, PyData.eqvAll, trD, toPy, PyData.eqv, eqA_tr]
    simp
theorem eqD_tr (xs : List (Nat × Pr)) : eqD (.lst (xs.map trD)) (.lst (xs.map trD)) = true := by
  unfold eqD
  simp only [toPy, PyData.eqv, eqA_tr]
/-! the four -/
abbrev nIn : Str := "in"
abbrev nIm : Str := "im"
abbrev nMid : Str := "mid"
abbrev nOut : Str := "out"
def eIn (a : List Int) : Pr := (nIn, a)
def eIm (b : List Int) : Pr := (nIm, b)
def eMid (a b : List Int) : Pr := (nMid, arch [eIn a, eIm b])
def eOut (a b : List Int) : Pr := (nOut, arch [eMid a b])
theorem nm_in : isName nIn = true := by decide +kernel
theorem nm_im : isName nIm = true := by decide +kernel
theorem nm_mid : isName nMid = true := by decide +kernel
theorem nm_out : isName nOut = true := by decide +kernel
theorem good_two {a b : List Int} (ha : ∀ o ∈ a, o ∈ al10) (hb : ∀ o ∈ b, o ∈ al10) (la : a.length ≤ 5) (lb : b.length ≤ 5) : Good [eIn a, eIm b] := ⟨by simp, fun e m => by
  simp only [List.mem_cons, List.not_mem_nil, or_false] at m
  rcases m with rfl | rfl
  · exact ⟨nm_in, fun o m => al10_oct (ha o m), by show a.length ≤ _; omega⟩
  · exact ⟨nm_im, fun o m => al10_oct (hb o m), by show b.length ≤ _; omega⟩, by show [nIn, nIm].Nodup; decide +kernel⟩
theorem deep_of {a b : List Int} (ha : ∀ o ∈ a, o ∈ al10) (hb : ∀ o ∈ b, o ∈ al10) (la : a.length ≤ 5) (lb : b.length ≤ 5) : Deep (eIn a) (eIm b) (eMid a b) (eOut a b) := by
  have hg := good_two ha hb la lb
  have ho := arch_oct hg
  have l2 := arch2_len (eIn a) (eIm b)
  have e1 := ent_len (eIn a)
  have e2 := ent_len (eIm b)
  have e1a : (eIn a).2.length = a.length := rfl
  have e2a : (eIm b).2.length = b.length := rfl
  have n1 : (eIn a).1.length = 2 := rfl
  have n2 : (eIm b).1.length = 2 := rfl
  have kc : okPr (eMid a b) := ⟨nm_mid, ho, by show (arch [eIn a, eIm b]).length ≤ _; omega⟩
  have ho2 := arch_oct (one_good kc)
  have l3 := arch1_len (eMid a b)
  have e3 := ent_len (eMid a b)
  have e3a : (eMid a b).2.length = (arch [eIn a, eIm b]).length := rfl
  have n3 : (eMid a b).1.length = 3 := rfl
  exact {
    ka := hg.all _ (by simp)
    kb := hg.all _ (by simp)
    kc := kc
    kd := ⟨nm_out, ho2, by show (arch [eMid a b]).length ≤ _; omega⟩
    pa := ha
    pb := hb
    la := la
    lb := lb
    na := rfl
    nb := rfl
    nc := rfl
    nd := rfl
    pc := rfl
    pd := rfl }
theorem okAl (x : D) (m : x ∈ oc al10) : ∃ o : Int, x = .int o ∧ o ∈ al10 := by
  obtain ⟨o, mo, rfl⟩ := List.mem_map.mp m
  exact ⟨o, rfl, mo⟩
theorem zl1 {e : Pr} {z : Str} (h : e.1 = z) : [D.lst [D.tup [.str z, .lst (oc e.2)]]] = [D.lst ([e].map zlD)] := by
  subst h
  rfl
theorem tr1 {e : Pr} {z : Str} {k : Int} {m : Int} {j : Nat} (h : e.1 = z) (hk : k = (j : Int)) (hm : m = (e.2.length : Int)) : D.lst [D.tup [.int k, .str z, .int m]] = .lst ([(j, e)].map trD) := by
  subst h hk hm
  rfl
theorem tr2 {e f : Pr} {y z : Str} {k l m o : Int} {i j : Nat} (h : e.1 = y) (h' : f.1 = z) (hk : k = (i : Int)) (hl : l = (j : Int)) (hm : m = (e.2.length : Int)) (ho : o = (f.2.length : Int)) : D.lst [D.tup [.int k, .str y, .int m], D.tup [.int l, .str z, .int o]] = .lst ([(i, e), (j, f)].map trD) := by
  subst h h' hk hl hm ho
  rfl
theorem oc_len (a : List Int) : (oc a).length = a.length := List.length_map ..
theorem oc_app (a b : List Int) : oc a ++ oc b = oc (a ++ b) := by unfold oc; rw [List.map_append]
theorem str_of {xs : List (Nat × Pr)} (h : ∀ x ∈ xs, isName x.2.1 = true) : ∀ x ∈ xs, PyData.strOk x.2.1 = true := fun x m => strOk_name (h x m)
theorem spl {A q : List Int} {x : Int} {n : Nat} (h : A.length = n) : cutL (oc (A ++ x :: q)) none (some (n : Int)) = oc A ∧ cutL (oc (A ++ x :: q)) (some ((n + 1 : Nat) : Int)) none = oc q ∧ atI (oc (A ++ x :: q)) (n : Int) = some (.int x) := by
  subst h
  have e0 : oc (A ++ x :: q) = oc A ++ .int x :: oc q := by unfold oc; rw [List.map_append, List.map_cons]
  have e1 : A.length = (oc A).length := (oc_len A).symm
  rw [e0, e1]
  generalize oc A = B
  generalize oc q = r
  have sN : HT.sIx (B ++ D.int x :: r).length (B ++ D.int x :: r).length none = (B ++ D.int x :: r).length := rfl
  refine ⟨?_, ?_, ?_⟩
  · unfold cutL
    rw [sIx_nat, show HT.sIx (B ++ D.int x :: r).length 0 none = 0 from rfl, List.drop_zero, Nat.sub_zero, List.length_append, Nat.min_eq_left (by omega), List.take_left]
  · unfold cutL
    rw [sIx_nat, sN, Nat.min_eq_left (by rw [List.length_append, List.length_cons]; omega)]
    have e2 : (B ++ D.int x :: r).drop (B.length + 1) = r := by
      rw [← List.drop_drop, List.drop_left]
      rfl
    rw [e2, List.take_of_length_le]
    rw [List.length_append, List.length_cons]
    omega
  · rw [DI.atI_nat, List.getElem?_append_right (Nat.le_refl _), Nat.sub_self]
    rfl
theorem eqD_tr1 (x : Nat × Pr) : eqD (.lst [trD x]) (.lst (List.map trD [x])) = true := eqD_tr [x]
/-- an entry's octets, its header written out -/
theorem ent_hdr {e : Pr} (h : e.2.length < 256) : ∃ v1 v2 v3 v4, [v1, v2, v3, v4] = numO 4 (chk 7 e.2) ∧ ∀ r, entE e ++ r = hdr e 0 0 (e.2.length : Int) v1 v2 v3 v4 (e.2 ++ r) := by
  refine ⟨_, _, _, _, (numO4 _).symm, fun r => ?_⟩
  have cl := codes_len e.1
  have e3 : numO 3 (e.2.length : Int) = [0, 0, (e.2.length : Int)] := by
    have : numO 3 (e.2.length : Int) = [(e.2.length : Int) / 256 / 256 % 256, (e.2.length : Int) / 256 % 256, (e.2.length : Int) % 256] := by simp [numO]
    rw [this]
    simp only [List.cons.injEq, and_true]
    omega
  unfold entE ent hdr
  rw [e3, numO4, cl]
  simp
/-- the front of a header, fourteen octets -/
def frt (e : Pr) (x y z v1 v2 v3 v4 : Int) : List Int := [66, 80, 69, ((codes e.1).length : Int)] ++ codes e.1 ++ [x, y, z, v1, v2, v3, v4]
theorem frt_app (e : Pr) (x y z v1 v2 v3 v4 : Int) (q : List Int) : frt e x y z v1 v2 v3 v4 ++ q = hdr e x y z v1 v2 v3 v4 q := by
  unfold frt hdr
  simp
theorem frt_len {e : Pr} (h : e.1.length = 3) (x y z v1 v2 v3 v4 : Int) : (frt e x y z v1 v2 v3 v4).length = 14 := by
  have cl := codes_len e.1
  unfold frt
  simp only [List.length_append, List.length_cons, List.length_nil]
  omega
theorem R_tot (os : List Int) {L : List (Nat × Pr)} (h : Ch 0 os = L) : R os = tot L := by
  have z := (Ch_all os os.length 0 (by omega)).2.2.1
  rw [List.drop_zero, h] at z
  exact z.symm
theorem one_oct (y : Int) : oct (y % 256) := by
  unfold oct
  omega
theorem oc_mid (A q : List Int) (y : Int) : oc A ++ [D.int y] ++ oc q = oc (A ++ y :: q) := by
  unfold oc
  simp
/-! what is written out -/
def shw (x : Nat × Pr) : Nat × Str × Nat := (x.1, x.2.1, x.2.2.length)
def injM (m : Nat) : D := .int (m : Int)
theorem tr_shw (x : Nat × Pr) : trD x = .tup [.int ((shw x).1 : Int), .str (shw x).2.1, .int ((shw x).2.2 : Int)] := rfl
def shD (y : Nat × Str × Nat) : D := .tup [.int (y.1 : Int), .str y.2.1, .int (y.2.2 : Int)]
theorem map_shw (xs : List (Nat × Pr)) : xs.map trD = (xs.map shw).map shD := by
  rw [List.map_map]
  rfl
def eB (n : Nat) : Pr := (("b" : Str), List.replicate n 9)
def ovL (k m : Nat) : List Int := ([66, 80, 69, 1, 97] ++ numO 3 (k : Int) ++ numO 4 (chk 7 ((entE (eB (k + m))).take k))) ++ entE (eB (k + m))
def ovD (k m : Nat) : List (Nat × Str × Nat) := if m = 0 then [(0, ("a" : Str), k)] else [(12, ("b" : Str), k + m)]
theorem ov_ok : ((List.range 12).all fun k => (List.range 3).all fun m => decide ((ChF 60 0 (ovL (k + 1) m)).map shw = ovD (k + 1) m) && decide ((ovL (k + 1) m).length ≤ 60)) = true := by decide +kernel
theorem ov_at {k m : Nat} (h : 1 ≤ k) (h2 : k ≤ 12) (hm : m ≤ 2) : (Ch 0 (ovL k m)).map trD = (ovD k m).map shD ∧ (ovL k m).length ≤ 60 := by
  have z := List.all_eq_true.mp ov_ok (k - 1) (List.mem_range.mpr (by omega))
  rw [show k - 1 + 1 = k from by omega] at z
  have z2 := List.all_eq_true.mp z m (List.mem_range.mpr (by omega))
  rw [Bool.and_eq_true, decide_eq_true_eq, decide_eq_true_eq] at z2
  rw [map_shw, ← ChF_ok 60 0 _ z2.2, z2.1]
  exact ⟨rfl, z2.2⟩
theorem nm_b : isName ("b" : Str) = true := by decide +kernel
theorem nm_a : isName ("a" : Str) = true := by decide +kernel
theorem ok_B {n : Nat} (h : n ≤ 100000) : okPr (eB n) := ⟨nm_b, rep_oct (oct_of (by decide) (by decide)) _, by show (List.replicate n (9 : Int)).length ≤ _; rw [List.length_replicate]; omega⟩
theorem ent_oct {e : Pr} (h : okPr e) : ∀ o ∈ entE e, oct o := fun o m => by
  have nz := name_len2 h.1
  unfold entE ent at m
  simp only [List.mem_append, List.mem_cons, List.not_mem_nil, or_false] at m
  rcases m with (((m | m) | m) | m) | m
  · rcases m with rfl | rfl | rfl <;> (unfold oct; decide)
  · rcases m with rfl | m
    · unfold oct; omega
    · exact codes_oct h.1 o m
  · exact numO_oct _ _ o m
  · exact numO_oct _ _ o m
  · exact h.2.1 o m
def sh0 (ys : List (Nat × Str × Nat)) : List (Nat × Pr) := ys.map fun y => (y.1, (y.2.1, List.replicate y.2.2 0))
theorem sh0_D (ys : List (Nat × Str × Nat)) : ys.map shD = (sh0 ys).map trD := by
  unfold sh0
  rw [List.map_map]
  refine List.map_congr_left fun y _ => ?_
  unfold shD
  show _ = D.tup [.int (y.1 : Int), .str y.2.1, .int ((List.replicate y.2.2 (0 : Int)).length : Int)]
  rw [List.length_replicate]
theorem ceq_sh {ys : List (Nat × Str × Nat)} (h : ∀ y ∈ ys, isName y.2.1 = true) : cEq (.lst (ys.map shD)) (.lst (ys.map shD)) ∧ eqD (.lst (ys.map shD)) (.lst (ys.map shD)) = true := by
  rw [sh0_D]
  refine ⟨ceq_tr _ fun x m => ?_, eqD_tr _⟩
  unfold sh0 at m
  obtain ⟨y, my, rfl⟩ := List.mem_map.mp m
  exact strOk_name (h y my)
def I_ov (k n : Nat) (rest : List Nat) (s : S) : Prop := (∀ m ∈ rest, m ≤ 2) ∧ ∃ x1 x2 x3 x4 x5 : Sl, s = ⟨[.val (.int (k : Int)), x1, x2, x3, x4, x5], n⟩
def eA (n : Nat) : Pr := (("a" : Str), List.replicate n 1)
def eB2 : Pr := (("b" : Str), [2])
theorem ok_A {n : Nat} (h : n ≤ 100000) : okPr (eA n) := ⟨nm_a, rep_oct (oct_of (by decide) (by decide)) _, by show (List.replicate n (1 : Int)).length ≤ _; rw [List.length_replicate]; omega⟩
theorem ok_B2 : okPr eB2 := ⟨nm_b, fun o m => by rw [List.mem_singleton.mp m]; exact oct_of (by decide) (by decide), by decide⟩
def ndL (k : Nat) : List Int := entE (eA k) ++ entE eB2 ++ ([66, 80, 90] ++ numO 3 ((entE (eA k)).length : Int) ++ numO 3 ((entE eB2).length : Int)) ++ numO 4 (chk 7 (entE eB2))
def ndD (k : Nat) : List (Nat × Str × Nat) := [(0, ("a" : Str), k), ((entE (eA k)).length, ("b" : Str), 1)]
theorem nd_ok : ((List.range 12).all fun k => decide ((ChF 60 0 (ndL (k + 1))).map shw = ndD (k + 1)) && decide ((ndL (k + 1)).length ≤ 60)) = true := by decide +kernel
theorem nd_at {k : Nat} (h : 1 ≤ k) (h2 : k ≤ 12) : (Ch 0 (ndL k)).map trD = (ndD k).map shD ∧ (ndL k).length ≤ 60 := by
  have z2 := List.all_eq_true.mp nd_ok (k - 1) (List.mem_range.mpr (by omega))
  rw [show k - 1 + 1 = k from by omega] at z2
  rw [Bool.and_eq_true, decide_eq_true_eq, decide_eq_true_eq] at z2
  rw [map_shw, ← ChF_ok 60 0 _ z2.2, z2.1]
  exact ⟨rfl, z2.2⟩
def eA1 : Pr := (("a" : Str), [1])
theorem ok_A1 : okPr eA1 := ⟨nm_a, fun o m => by rw [List.mem_singleton.mp m]; exact oct_of (by decide) (by decide), by decide⟩
theorem hid_ok : ((ChF 60 0 (arch [eA1])).map shw = [(0, ("a" : Str), 1)] ∧ (arch [eA1]).length ≤ 60) ∧ ((ChF 60 0 (cutL (arch [eA1]) (some 13) none)).map shw = [] ∧ (cutL (arch [eA1]) (some 13) none).length ≤ 60) ∧ (ChF 60 0 (entE eA1)).map shw = [(0, ("a" : Str), 1)] ∧ (entE eA1).length ≤ 60 := by decide +kernel
theorem hid_1 : (Ch 0 (arch [eA1])).map trD = [(0, ("a" : Str), 1)].map shD ∧ (arch [eA1]).length ≤ 60 := ⟨by rw [map_shw, ← ChF_ok 60 0 _ hid_ok.1.2, hid_ok.1.1], hid_ok.1.2⟩
theorem hid_2 : (Ch 0 (cutL (arch [eA1]) (some 13) none)).map trD = ([] : List (Nat × Str × Nat)).map shD ∧ (cutL (arch [eA1]) (some 13) none).length ≤ 60 := ⟨by rw [map_shw, ← ChF_ok 60 0 _ hid_ok.2.1.2, hid_ok.2.1.1], hid_ok.2.1.2⟩
theorem hid_3 : (Ch 0 (entE eA1)).map trD = [(0, ("a" : Str), 1)].map shD ∧ (entE eA1).length ≤ 60 := ⟨by rw [map_shw, ← ChF_ok 60 0 _ hid_ok.2.2.2, hid_ok.2.2.1], hid_ok.2.2.2⟩
theorem hid_ne : cEq (.lst [shD (0, ("a" : Str), 1)]) (.lst []) ∧ eqD (.lst [shD (0, ("a" : Str), 1)]) (.lst []) = false := by
  have h := shp_tr (sh0 [(0, ("a" : Str), 1)]) fun x m => by
    unfold sh0 at m
    obtain ⟨y, my, rfl⟩ := List.mem_map.mp m
    rw [List.mem_singleton.mp my]
    exact strOk_name nm_a
  rw [← sh0_D] at h
  refine ⟨.inr ⟨h, shp_tr [] fun x m => (List.not_mem_nil m).elim⟩, ?_⟩
  unfold eqD
  simp only [toPy, PyData.eqv, toPyA, PyData.eqvAll]
theorem len_B2 : (entE eB2).length = 13 := by decide +kernel
local macro_rules | `(tactic| walk_at "wx") => `(tactic| try simp (config := {maxSteps := 10000000, implicitDefEqProofs := false, dsimp := false}) only [↓f_wC, ↓g_wVar, vtake, ↓f_wBin, ↓f_wBinV, ↓f_wBinR, ↓f_wT, ↓f_wChain, ↓f_wTru, ↓f_wTruV, ↓f_tAnd, ↓f_tOr, ↓f_tNot, ↓f_andV, ↓f_orV, ↓f_notV, ↓f_if, ↓f_noPart, ↓f_part, ↓f_sl, ↓f_slV, ↓f_nil, ↓f_cons, ↓f_bor, ↓f_tup, ↓f_lst, ↓f_fn, ↓f_isi, ↓f_wIsiV, ↓f_mt, ↓f_call, ↓f_next, ↓f_seq, ↓f_break, ↓f_cont, ↓f_drop, ↓f_ret, ↓f_retN, ↓f_ifS, ↓f_set, ↓f_ofL, ↓f_sz, ↓f_own, ↓f_par, ↓f_wParO, ↓f_par3, ↓f_asgT, ↓f_iL, ↓f_iT, ↓f_iS, ↓f_iR1, ↓f_for, ↓f_lc, ↓f_yes, ↓f_dgL, ↓f_dgA, ↓f_dgC, ↓f_dpL, ↓f_dpA, ↓f_app, ↓f_pop, ↓f_wG, ↓f_wiE, ↓f_wiET, ↓f_wiZ, ↓f_wCopy, ↓f_wPut, ↓f_wUnl, ↓f_wStep, ↓f_wRev, ↓f_wRevV, ↓f_wRevT, ↓f_wOwnC, ↓f_wPar3a, ↓f_wPar3b, ↓f_wDic, ↓f_wNever, ↓e_rev, ↓f_wDGetV, ↓f_wDInV, ↓f_wDNew, ↓f_wDPut, ↓f_wiItems, ↓f_wiVals, ↓f_wiKeys, ↓f_wExt, ↓f_wCopyQ, ↓f_wRepL, ↓f_wAugI, ↓f_wSorted, ↓f_wDc, ↓f_wiQ, ↓f_down, ↓f_iR2, ↓f_iR3, ↓f_wiZT, ↓f_wiZM, ↓f_raise, ↓f_callX, ↓f_told, ↓f_try1, ↓f_wtl, ↓f_catO, ↓e_sum, ↓e_min1, ↓e_listT, ↓e_listL, ↓e_intB, ↓at0c, ↓at1c, ↓at32, ↓e_isB, ↓e_isnB, env0, env1, ↓bl_bl, ↓int_int, ↓str_str, ↓get_some, ↓get_lazy, ↓ft_lazy, gt_some, DI.gt_if, vget, ownE, List.length_cons, List.length_nil, List.replicate, List.getElem?_cons_zero, List.getElem?_cons_succ, List.set_cons_zero, List.set_cons_succ, Nat.zero_add, Nat.add_sub_cancel, Nat.reduceAdd, Nat.reduceSub, Nat.reduceLT, Nat.reduceLeDiff, true_and, if_true, if_false, Bool.false_eq_true, List.length_set, ↓e_ltI, ↓e_leI, ↓e_gtI, ↓e_geI, ↓e_ltS, ↓e_leS, ↓e_addI, ↓e_addS, ↓e_addT, ↓e_addL, ↓e_subI, ↓e_modI, ↓e_divI, ↓e_mulI, ↓e_eq, ↓e_ne, ↓e_ixL, ↓e_ixT, ↓e_ixS, ↓e_lenL, ↓e_lenT, ↓e_lenS, c_lenL, c_lenT, c_lenS, c_ixL, c_ixT, c_ixS, c_addI, c_addS, c_addT, c_addL, c_modI, c_divI, c_mulI, c_slL, c_slT, c_slS, ↓e_slL, ↓e_slT, ↓e_slS, ↓e_tupL, ↓e_tupT, ↓e_int, ↓e_ord, c_ord, ↓e_strI, c_strI, ↓e_inS, ↓e_ninS, ↓e_all, ↓e_any, c_inS, c_eqI, c_eqS, c_eqB, ↓eqD_int, ↓eqD_str, ↓eqD_bl, decide_eq_true_eq, decide_not, Bool.not_eq_true', decide_eq_false_iff_not, cT, gIsi, tyD, Option.map_some, c0, lstD_lst, tupD_tup, dctD_dct, dicE, seqD_lst, seqD_tup, innE, wipeE, toBor, Bool.not_false, Bool.not_true, eq_self, List.map_cons, List.map_nil, gNm, gTp, gLs, gsCons, gsNil, Option.bind_some, ↓e_isN, ↓e_keyI, ↓e_keyS, ↓e_notN, n_non, n_int, n_str, n_bl, n_lst, n_tup, n_dic0, n_dct, isT, String.reduceBEq, Bool.or_false, Bool.or_true, Bool.true_or, Bool.false_or, Bool.and_false, Bool.and_true, Bool.true_and, Bool.false_and, decide_true, decide_false])
theorem rc_core {c0 s x2 : Sl} {f : Int} {n : Nat} {P : List D → Nat → Prop} (row : List Int) (hz : row.length ≤ 15000002) (f0 : 0 ≤ f) (f1 : f < 4294967291) (q : P (oc (prs f row)) n) :
    lcGo (gTp 2 (gsCons (gNm 5) (gsCons (gNm 6) gsNil))) [5, 6] wtYes (wBin cMod (gI fun i j => D.int (i % j)) (wBin cAdd gAdd (wBin cMul gMulI (wVar 5) (wVar 3)) (wVar 6)) (wC (D.int 4294967291)))
      [c0, s, x2, .val (.int f), .emp, .emp, .emp] (zipD (evn (List.drop 0 (oc row))) (evn (List.drop 1 (oc row)))) [] n P := by
  rw [List.drop_zero, evn_map, ← List.map_drop, evn_map, zip_ints]
  refine lcGo_mp (fun p => .int ((p.1 * f + p.2) % 4294967291)) _ n (line_of ?_) (fun p m P hP => ?_) ?_
  · rw [List.length_zip, evn_len]
    omega
  · show cMul (.int p.1) (.int f) ∧ cAdd (.int (p.1 * f)) (.int p.2) ∧ cMod (.int (p.1 * f + p.2)) (.int 4294967291) ∧ _
    exact ⟨.inr ⟨by omega, by omega⟩, trivial, by show (0 : Int) < 4294967291; decide, hP _ rfl⟩
  · have e : (List.map (fun p : Int × Int => D.int ((p.1 * f + p.2) % 4294967291)) ((evn row).zip (evn (List.drop 1 row)))) = oc (prs f row) := by
      unfold prs oc
      rw [List.zip, List.map_zipWith, List.map_zipWith]
    rw [e]
    exact q
theorem sc_running_check : FnScope ["check", "octets", "row", "factor", "octet", "high", "low"] ["check", "octets"] (defScope (top 12)) := ⟨rfl, rfl, rfl, by decide +kernel, rfl, by decide +kernel, by decide +kernel⟩
theorem ok_running_check {P : Program} {w : World} {K : PySem.W.Frag} {mg : Str → Option Value} {base : Heap} (T : Txt K mg) (C : Cn K mg) (Z : Ec K mg) (bk : Bk K mg) {f : Addr} {fd : FuncData} (U : Fun K "running_check" "running_check" (top 12) f fd) (dr : Option Addr) :
    FnG P w K mg base 1 f fd ["check", "octets"] (SpD K dr [false, false] F_running_check) := by
  refine fnd_of (k := 0) U sc_running_check rfl (fun cdv A callers s0 H E G0 hr hga =>
    (sd_cons (sd_set 2 sc_running_check.nd (pd_add (pd_lst (ad_cons (pd_var 0 (pv 0)) ad_nil)) (pd_ofL (ld_lc (own := [("octet", 4)]) sc_running_check.nd (id_seq (pd_var 1 (pv 1))) (lct_name) (by change blkC ["check", "octets", "row", "factor", "octet", "high", "low"] (defScope (top 12)) _ _ = true; decide +kernel) (fun _ _ _ _ _ => pg_name (i := 4) sc_running_check.nd rfl (.inl rfl)) (fun _ _ _ _ _ _ _ => (pts_yes)) (fun _ _ _ _ _ _ _ => (pd_add (pd_var 4 (pv 4)) pd_int))))))
      (sd_cons (sd_set 3 sc_running_check.nd (pd_const C.FACTOR))
      (sd_cons (sd_while (td_cmp cm_gt (pd_bt bt_len T.len (ad_cons (pd_var 2 (pv 2)) ad_nil)) pd_int) (sd_cons (sd_if (td_cmp (cm_eq hr) (pd_mod (pd_bt bt_len T.len (ad_cons (pd_var 2 (pv 2)) ad_nil)) pd_int) pd_int) (sd_one (sd_set 2 sc_running_check.nd (pd_add (pd_lst (ad_cons pd_int ad_nil)) (pd_var 2 (pv 2))))) sd_nil)
      (sd_cons (sd_setLc 2 (own := [("high", 5), ("low", 6)]) sc_running_check.nd (id_zip (pd_step0 (pd_var 2 (pv 2))) (pd_step1 (pd_var 2 (pv 2))) T.zip) (LcG.t (lcg_tup (n := 2) (lcg_cons (lcg_name (j := 5)) (lcg_cons (lcg_name (j := 6)) lcg_nil)))) (by change blkC ["check", "octets", "row", "factor", "octet", "high", "low"] (defScope (top 12)) _ _ = true; decide +kernel) (fun _ _ _ _ _ => (pg_tup (n := 2) rfl (pgs_cons (pg_name (i := 5) sc_running_check.nd rfl (.inl rfl)) (pgs_cons (pg_name (i := 6) sc_running_check.nd rfl (.inl rfl)) pgs_nil)))) (fun _ _ _ _ _ _ _ => (pts_yes)) (fun _ _ _ _ _ _ _ => (pd_mod (pd_add (pd_mul (pd_var 5 (pv 5)) (pd_var 3 (pv 3))) (pd_var 6 (pv 6))) (pd_const C.MODULUS))))
      (sd_one (sd_set 3 sc_running_check.nd (pd_mod (pd_mul (pd_var 3 (pv 3)) (pd_var 3 (pv 3))) (pd_const C.MODULUS)))))))
      (sd_one (sd_ret (pd_ix (pd_var 2 (pv 2)) pd_int))))))) ?_
  intro ds n Q hl hF
  obtain ⟨c, ns, s, rfl, hs, c0, c1, ho, hz, q⟩ := hF
  walk_at "wx"
  rw [hs]
  walk_at "wx"
  refine ⟨line_of (by decide), lcGo_mp (fun o => .int (o + 1)) ns n (line_of (by omega)) (fun o m P hP => ?_) ?_⟩
  · walk_at "wx"
    exact hP _ rfl
  refine ⟨by show ([D.int c] : List D).length + (ns.map fun o => D.int (o + 1)).length ≤ sizeLine; simp only [List.length_map, List.length_cons, List.length_nil]; exact line_of (by omega), ?_⟩
  walk_at "wx"
  rw [f_while]
  have e0 : ([D.int c] ++ ns.map fun o => D.int (o + 1)) = oc (c :: ns.map (· + 1)) := by simp
  rw [e0]
  have hr := chk_range ⟨c0, c1⟩ ns
  have hh := chk_hor ns c c rfl
  have ho1 : ∀ x ∈ c :: ns.map (· + 1), 0 ≤ x ∧ x < 4294967291 := fun x m => by
    rcases List.mem_cons.mp m with rfl | m
    · exact ⟨c0, c1⟩
    · obtain ⟨o, mo, rfl⟩ := List.mem_map.mp m
      have := ho o mo
      unfold oct at this
      exact ⟨by omega, by omega⟩
  refine ⟨fun m s1 => ∃ row f, s1 = ⟨[.val (.int c), .val s, .val (.lst (oc row)), .val (.int f), .emp, .emp, .emp], n⟩ ∧ m = row.length ∧ 0 < row.length ∧ 0 ≤ f ∧ f < 4294967291 ∧ row.length ≤ 15000001 ∧ (∀ x ∈ row, 0 ≤ x ∧ x < 4294967291) ∧ hor f 0 row % 4294967291 = chk c ns % 4294967291,
    ⟨_, c :: ns.map (· + 1), 257, rfl, rfl, by simp, by decide, by decide, by simp; omega, ho1, ?_⟩, ?_⟩
  · rw [hor_cons, hh]
    simp
  rintro m s1 ⟨row, f, rfl, rfl, r0, f0, f1, rz, hx, hv⟩
  walk_at "wx"
  have hlen : (oc row).length = row.length := List.length_map ..
  by_cases h1 : 1 < row.length
  · rw [hlen, if_pos (by omega)]
    refine ⟨by decide, ?_⟩
    by_cases h2 : row.length % 2 = 1
    · rw [if_pos (by omega)]
      refine ⟨line_of (by decide), line_of (by omega), ?_⟩
      rw [show [D.int 0] ++ oc row = oc (0 :: row) from rfl]
      refine rc_core (0 :: row) (by simp; omega) f0 f1 ⟨.inl ⟨by omega, by omega⟩, by decide, _, ?_, _, _, rfl, rfl, ?_, Int.emod_nonneg _ (by decide), Int.emod_lt_of_pos _ (by decide), ?_, prs_range _ _, ?_⟩
      · rw [prs_len]
        simp only [List.length_cons]
        omega
      · rw [prs_len]
        simp only [List.length_cons]
        omega
      · rw [prs_len]
        simp only [List.length_cons]
        omega
      · rw [prs_hor f ((row.length + 1) / 2) (0 :: row) 0 0 (by simp only [List.length_cons]; omega) rfl, prs_zero, hv]
    · rw [if_neg (by omega)]
      refine rc_core row (by omega) f0 f1 ⟨.inl ⟨by omega, by omega⟩, by decide, _, ?_, _, _, rfl, rfl, ?_, Int.emod_nonneg _ (by decide), Int.emod_lt_of_pos _ (by decide), ?_, prs_range _ _, ?_⟩
      · rw [prs_len]
        omega
      · rw [prs_len]
        omega
      · rw [prs_len]
        omega
      · rw [prs_hor f (row.length / 2) row 0 0 (by omega) rfl, hv]
  · rw [hlen, if_neg (by omega)]
    match row, r0, h1, hx, hv with
    | [x], _, _, hx, hv =>
      have h3 := hx x List.mem_cons_self
      have h4 : x = chk c ns := by
        unfold hor at hv
        simp only [List.foldl_cons, List.foldl_nil, Int.zero_mul, Int.zero_add] at hv
        rw [Int.emod_eq_of_lt h3.1 h3.2, Int.emod_eq_of_lt hr.1 hr.2] at hv
        exact hv
      walk_at "wx"
      rw [h4]
      exact q
    | _ :: _ :: _, _, h1, _, _ => simp at h1
theorem sc_number_of : FnScope ["octets", "number", "octet"] ["octets"] (defScope (top 13)) := ⟨rfl, rfl, rfl, by decide +kernel, rfl, by decide +kernel, by decide +kernel⟩
theorem ok_number_of {P : Program} {w : World} {K : PySem.W.Frag} {mg : Str → Option Value} {base : Heap} (T : Txt K mg) (C : Cn K mg) (Z : Ec K mg) (bk : Bk K mg) {f : Addr} {fd : FuncData} (U : Fun K "number_of" "number_of" (top 13) f fd) (dr : Option Addr) :
    FnG P w K mg base 1 f fd ["octets"] (SpD K dr [false] F_number_of) := by
  refine fnd_of (k := 0) U sc_number_of rfl (fun cdv A callers s0 H E G0 hr hga =>
    (sd_cons (sd_set 1 sc_number_of.nd pd_int)
      (sd_cons (sd_for (id_seq (pd_var 0 (pv 0))) (gd_name 2 sc_number_of.nd) (sd_one (sd_set 1 sc_number_of.nd (pd_add (pd_mul (pd_var 1 (pv 1)) pd_int) (pd_var 2 (pv 2))))))
      (sd_one (sd_ret (pd_var 1 (pv 1))))))) ?_
  intro ds n Q hl hF
  obtain ⟨s, ns, rfl, hs, q⟩ := hF
  walk_at "wx"
  rw [hs]
  walk_at "wx"
  refine forW_ty (inj := D.int) (fun t s1 => ∃ a x2, s1 = ⟨[.val s, .val (.int a), x2], n⟩ ∧ t.foldl (fun a o => a * 256 + o) a = numb ns) ns _ ⟨0, _, rfl, rfl⟩ (fun o t s1 _ hI => ?_) (fun s1 hI => ?_)
  · obtain ⟨a, x2, rfl, e⟩ := hI
    walk_at "wx"
    exact ⟨.inr ⟨by decide, by decide⟩, _, _, rfl, e⟩
  · obtain ⟨a, x2, rfl, e⟩ := hI
    walk_at "wx"
    rw [← e] at q
    exact q
theorem sc__first_odd : FnScope ["values", "index", "octet"] ["values"] (defScope (top 15)) := ⟨rfl, rfl, rfl, by decide +kernel, rfl, by decide +kernel, by decide +kernel⟩
theorem ok__first_odd {P : Program} {w : World} {K : PySem.W.Frag} {mg : Str → Option Value} {base : Heap} (T : Txt K mg) (C : Cn K mg) (Z : Ec K mg) (bk : Bk K mg) {f : Addr} {fd : FuncData} (U : Fun K "_first_odd" "_first_odd" (top 15) f fd) (dr : Option Addr) :
    FnG P w K mg base 1 f fd ["values"] (SpD K dr [false] F__first_odd) := by
  refine fnd_of (k := 0) U sc__first_odd rfl (fun cdv A callers s0 H E G0 hr hga =>
    (sd_cons (sd_for (id_enumT (pd_var 0 (pv 0)) T.enumerate) (gd_tup (n := 2) (gds_cons (gd_name 1 sc__first_odd.nd) (gds_cons (gd_name 2 sc__first_odd.nd) gds_nil))) (sd_one (sd_if (PW.pt (wd_or (td_not (td_val (pd_isi (pd_var 2 (pv 2)) rfl kit_int T.isinstance T.int))) (wd_or (td_val (pd_isi (pd_var 2 (pv 2)) rfl kit_bool T.isinstance T.bool)) (wd_or1 (td_not (td_chain cm_le cm_le pd_int (pd_var 2 (pv 2)) pd_int)))))) (sd_one (sd_ret (pd_var 1 (pv 1)))) sd_nil)))
      (sd_one (sd_ret pd_non)))) ?_
  intro ds n Q hl hF
  obtain ⟨xs, rfl, ht, q⟩ := hF
  walk_at "wx"
  refine forW_ind (fun i s => (∃ x1 x2, s = ⟨[.val (.tup xs), x1, x2], n⟩) ∧ oddAt 0 xs = oddAt i (xs.drop i)) _ 0 _ ⟨⟨_, _, rfl⟩, by simp⟩ (fun i d s hd hI => ?_) (fun s hI => ?_)
  · obtain ⟨⟨x1, x2, rfl⟩, e⟩ := hI
    obtain ⟨y, hy, rfl⟩ := enumD_get hd
    obtain ⟨t, et⟩ := ht y (List.mem_of_getElem? hy)
    rw [Nat.zero_add] at e
    have hlt : i < xs.length := (List.getElem?_eq_some_iff.mp hy).1
    have ed : xs.drop i = y :: xs.drop (i + 1) := by
      rw [List.drop_eq_getElem_cons hlt, (List.getElem?_eq_some_iff.mp hy).2]
    rw [ed] at e
    have e2 : oddAt 0 xs = if isOct y then oddAt (i + 1) (xs.drop (i + 1)) else .int (i : Int) := e
    rw [Nat.zero_add]
    cases y with
    | int o =>
      simp only [isOct] at e2
      by_cases h1 : 0 ≤ o <;> by_cases h2 : o ≤ 255 <;> simp only [h1, h2, decide_true, decide_false, Bool.and_self, Bool.and_false, Bool.false_and, Bool.false_eq_true, if_true, if_false] at e2 <;> walk_at "wx" <;> simp only [h1, h2, decide_true, decide_false, Bool.not_true, Bool.not_false, Bool.false_eq_true, if_true, if_false] <;> (first | exact ⟨⟨_, _, rfl⟩, e2⟩ | (rw [← e2]; exact q))
    | bl b => walk_at "wx"; rw [e2] at q; exact q
    | non => walk_at "wx"; rw [e2] at q; exact q
    | str z => walk_at "wx"; rw [e2] at q; exact q
    | lst z => walk_at "wx"; rw [e2] at q; exact q
    | tup z => walk_at "wx"; rw [e2] at q; exact q
    | dic0 => walk_at "wx"; rw [e2] at q; exact q
    | dct _ _ => cases et
    | drw => cases et
    | exc _ _ _ => cases et
  · obtain ⟨⟨x1, x2, rfl⟩, e⟩ := hI
    rw [Nat.zero_add, show xs.drop (enumD xs).length = [] from List.drop_of_length_le (by unfold enumD; simp)] at e
    walk_at "wx"
    rw [e] at q
    exact q
theorem sc__sign_of : FnScope ["octet", "at"] ["octet"] (defScope (top 16)) := ⟨rfl, rfl, rfl, by decide +kernel, rfl, by decide +kernel, by decide +kernel⟩
theorem ok__sign_of {P : Program} {w : World} {K : PySem.W.Frag} {mg : Str → Option Value} {base : Heap} (T : Txt K mg) (C : Cn K mg) (Z : Ec K mg) (bk : Bk K mg) {f : Addr} {fd : FuncData} (U : Fun K "_sign_of" "_sign_of" (top 16) f fd) (dr : Option Addr) :
    FnG P w K mg base 1 f fd ["octet"] (SpD K dr [false] F__sign_of) := by
  refine fnd_of (k := 0) U sc__sign_of rfl (fun cdv A callers s0 H E G0 hr hga =>
    (sd_cons (sd_if (td_cmp (cm_eq hr) (pd_var 0 (pv 0)) (pd_const C._LINE_END)) (sd_one (sd_ret pd_str)) sd_nil)
      (sd_cons (sd_set 1 sc__sign_of.nd (pd_sub (pd_var 0 (pv 0)) (pd_const C._LOW)))
      (sd_one (sd_ret (pd_ifExp (td_chain cm_le cm_lt pd_int (pd_var 1 (pv 1)) (pd_bt bt_len T.len (ad_cons (pd_const C._SIGNS) ad_nil))) (pd_ix (pd_const C._SIGNS) (pd_var 1 (pv 1))) (pd_const C._NO_TEXT))))))) ?_
  intro ds n Q hl hF
  obtain ⟨o, rfl, ho, q⟩ := hF
  unfold oct at ho
  walk_at "wx"
  have hs : SG.length = 95 := sg_len
  by_cases h10 : o = 10
  · rw [if_pos h10]
    subst h10
    exact q
  rw [if_neg h10]
  have hno : ¬ (0 ≤ o - 32 ∧ o - 32 < 95) → sign o = "\t" := fun h => by
    unfold sign sgn
    rw [if_neg h10, if_neg (by omega)]
    rfl
  by_cases h1 : 0 ≤ o - 32
  · rw [if_pos h1]
    refine ⟨line_of (by rw [hs]; decide), ?_⟩
    by_cases h2 : o - 32 < 95
    · rw [if_pos (by rw [hs]; exact h2), sign_at h10 h1 h2]
      exact ⟨line_of (by rw [hs]; decide), q⟩
    · rw [if_neg (by rw [hs]; exact h2), ← hno (fun z => h2 z.2)]
      exact q
  · rw [if_neg h1, ← hno (fun z => h1 z.1)]
    exact q
theorem sc_is_entry_name : FnScope ["value", "c"] ["value"] (defScope (top 22)) := ⟨rfl, rfl, rfl, by decide +kernel, rfl, by decide +kernel, by decide +kernel⟩
theorem ok_is_entry_name {P : Program} {w : World} {K : PySem.W.Frag} {mg : Str → Option Value} {base : Heap} (T : Txt K mg) (C : Cn K mg) (Z : Ec K mg) (bk : Bk K mg) {f : Addr} {fd : FuncData} (U : Fun K "is_entry_name" "is_entry_name" (top 22) f fd) (dr : Option Addr) :
    FnG P w K mg base 1 f fd ["value"] (SpD K dr [false] F_is_entry_name) := by
  refine fnd_of (k := 0) U sc_is_entry_name rfl (fun cdv A callers s0 H E G0 hr hga =>
    (sd_one (sd_ret (pd_and (pd_isi (pd_var 0 (pv 0)) rfl kit_str T.isinstance T.str) (pd_and (pd_chain cm_le cm_le pd_int (pd_bt bt_len T.len (ad_cons (pd_var 0 (pv 0)) ad_nil)) (pd_const C.MOST_NAME)) (pd_one (pd_bt bt_all T.all (ad_cons (pd_ofL (ld_lc (own := [("c", 1)]) sc_is_entry_name.nd (id_str (pd_var 0 (pv 0))) (lct_name) (by change blkC ["value", "c"] (defScope (top 22)) _ _ = true; decide +kernel) (fun _ _ _ _ _ => pg_name (i := 1) sc_is_entry_name.nd rfl (.inl rfl)) (fun _ _ _ _ _ _ _ => (pts_yes)) (fun _ _ _ _ _ _ _ => (pd_cmp (cm_in) (pd_var 1 (pv 1)) (pd_const C._NAME_SIGNS))))) ad_nil)))))))) ?_
  intro ds n Q hl hF
  obtain ⟨d, rfl, ⟨t, ht⟩, hz, q⟩ := hF
  cases d with
  | str z =>
    have hz := hz z rfl
    walk_at "wx"
    refine ⟨line_of (by omega), ?_⟩
    have sl := slen z
    by_cases h1 : 1 ≤ z.length
    · rw [if_pos (by omega)]
      by_cases h2 : z.length ≤ 40
      · rw [if_pos (by omega), chrs_eq]
        refine lcGo_mp (fun c => .bl (inStr ⟨#[c]⟩ NS)) _ n (line_of (by omega)) (fun c m P hP => ?_) ?_
        · walk_at "wx"
          exact hP _ rfl
        · rw [blsOf_map (fun c => inStr ⟨#[c]⟩ NS)]
          simp only [Option.map_some, get_some]
          rw [all_map']
          have e : (fun c : Nat => inStr ⟨#[c]⟩ NS) = nameCh := funext inNS
          rw [e]
          have e2 : isNameD (.str z) = z.cps.toList.all nameCh := by
            simp [isNameD, isName, h1, h2]
          rw [e2] at q
          exact q
      · rw [if_neg (by omega)]
        have e2 : isNameD (.str z) = false := by simp [isNameD, isName, h2]
        rw [e2] at q
        exact q
    · rw [if_neg (by omega)]
      have e2 : isNameD (.str z) = false := by simp [isNameD, isName, h1]
      rw [e2] at q
      exact q
  | drw => cases ht
  | dct _ _ => cases ht
  | exc _ _ _ => cases ht
  | _ => walk_at "wx"; exact q
theorem cut_neg2 {α : Type} (l : List α) : cutL l none (some (-2)) = l.take (l.length - 2) := by
  unfold cutL
  have e : HT.sIx l.length l.length (some (-2)) = l.length - 2 := by
    show (if (-2 : Int) < 0 then ((-2 : Int) + (l.length : Int)).toNat else min (-2 : Int).toNat l.length) = _
    rw [if_pos (by decide)]
    omega
  rw [e]
  rfl
theorem enum_oc (l : List Int) (k : Nat) (h : k ≤ l.length) : enumD ((oc l).take k) = (List.range k).map fun (i : Nat) => D.tup [.int (i : Int), .int (l.getD i 0)] := by
  unfold enumD oc
  refine List.ext_getElem? fun i => ?_
  rw [List.getElem?_map, List.getElem?_zipIdx, List.getElem?_map, List.getElem?_take, List.getElem?_map]
  by_cases hi : i < k
  · have hl : i < l.length := by omega
    rw [if_pos hi, List.getElem?_range hi, List.getElem?_eq_getElem hl]
    simp [List.getElem?_eq_getElem hl]
  · rw [if_neg hi, List.getElem?_eq_none (by rw [List.length_range]; omega)]
    rfl
theorem fm_if {α β : Type} (p : α → Bool) (g : α → β) : ∀ l : List α, l.filterMap (fun x => if p x = true then some (g x) else none) = (l.filter p).map g
  | [] => rfl
  | a :: t => by
    rw [List.filterMap_cons, List.filter_cons]
    cases h : p a with
    | true => simp [fm_if p g t]
    | false => simp [fm_if p g t]
theorem sc_marked_offsets : FnScope ["data", "first", "second", "third", "offset", "octet"] ["data"] (defScope (top 24)) := ⟨rfl, rfl, rfl, by decide +kernel, rfl, by decide +kernel, by decide +kernel⟩
theorem ok_marked_offsets {P : Program} {w : World} {K : PySem.W.Frag} {mg : Str → Option Value} {base : Heap} (T : Txt K mg) (C : Cn K mg) (Z : Ec K mg) (bk : Bk K mg) {f : Addr} {fd : FuncData} (U : Fun K "marked_offsets" "marked_offsets" (top 24) f fd) (dr : Option Addr) :
    FnG P w K mg base 1 f fd ["data"] (SpD K dr [false] F_marked_offsets) := by
  refine fnd_of (k := 0) U sc_marked_offsets rfl (fun cdv A callers s0 H E G0 hr hga =>
    (sd_cons (sd_asg (pd_const C._MARK) (gd_tup (n := 3) (gds_cons (gd_name 1 sc_marked_offsets.nd) (gds_cons (gd_name 2 sc_marked_offsets.nd) (gds_cons (gd_name 3 sc_marked_offsets.nd) gds_nil)))))
      (sd_one (sd_ret (pd_ofL (ld_lc (own := [("offset", 4), ("octet", 5)]) sc_marked_offsets.nd (id_enumT (pd_sl (pd_var 0 (pv 0)) od_none (od_some (pd_neg pd_int))) T.enumerate) (LcG.t (lcg_tup (n := 2) (lcg_cons (lcg_name (j := 4)) (lcg_cons (lcg_name (j := 5)) lcg_nil)))) (by change blkC ["data", "first", "second", "third", "offset", "octet"] (defScope (top 24)) _ _ = true; decide +kernel) (fun _ _ _ _ _ => (pg_tup (n := 2) rfl (pgs_cons (pg_name (i := 4) sc_marked_offsets.nd rfl (.inl rfl)) (pgs_cons (pg_name (i := 5) sc_marked_offsets.nd rfl (.inl rfl)) pgs_nil)))) (fun _ _ _ _ _ _ _ => (pts_of (PW.pt (wd_and (td_cmp (cm_eq hr) (pd_var 5 (pv 5)) (pd_var 1 (pv 1))) (wd_and (td_cmp (cm_eq hr) (pd_ix (pd_var 0 (pv 0)) (pd_add (pd_var 4 (pv 4)) pd_int)) (pd_var 2 (pv 2))) (wd_and1 (td_cmp (cm_eq hr) (pd_ix (pd_var 0 (pv 0)) (pd_add (pd_var 4 (pv 4)) pd_int)) (pd_var 3 (pv 3))))))))) (fun _ _ _ _ _ _ _ => (pd_var 4 (pv 4))))))))) ?_
  intro ds n Q hl hF
  obtain ⟨os, rfl, hz, q⟩ := hF
  walk_at "wx"
  have hlen : (oc os).length = os.length := List.length_map ..
  rw [cut_neg2, hlen, enum_oc _ _ (by omega)]
  have at_ : ∀ k : Nat, k < os.length → atI (oc os) (k : Int) = some (.int (os.getD k 0)) := fun k hk => by
    rw [DI.atI_nat, List.getElem?_map, List.getD_eq_getElem?_getD, List.getElem?_eq_getElem hk]
    rfl
  refine lcGo_fn (fun i : Nat => if isMk os i = true then some (D.int (i : Int)) else none) _ [] n (by rw [List.length_range]; exact line_of (by simp; omega)) (fun i mi P hP => ?_) ?_
  · have hi := List.mem_range.mp mi
    unfold lcOne
    walk_at "wx"
    unfold isMk at hP
    by_cases h1 : os.getD i 0 = 66
    · rw [if_pos h1, show (i : Int) + 1 = ((i + 1 : Nat) : Int) from by omega, at_ _ (by omega)]
      rw [decide_eq_true h1] at hP
      walk_at "wx"
      by_cases h2 : os.getD (i + 1) 0 = 80
      · rw [if_pos h2, show (i : Int) + 2 = ((i + 2 : Nat) : Int) from by omega, at_ _ (by omega)]
        rw [decide_eq_true h2] at hP
        walk_at "wx"
        by_cases h3 : os.getD (i + 2) 0 = 69
        · rw [if_pos h3]
          rw [decide_eq_true h3] at hP
          exact hP
        · rw [if_neg h3]
          rw [decide_eq_false h3] at hP
          exact hP
      · rw [if_neg h2]
        rw [decide_eq_false h2] at hP
        exact hP
    · rw [if_neg h1]
      rw [decide_eq_false h1] at hP
      exact hP
  · rw [fm_if, List.nil_append]
    unfold marks oc at q
    rw [List.map_map] at q
    exact q
theorem sc__factor_of : FnScope ["count", "made", "power", "rest"] ["count"] (defScope (top 29)) := ⟨rfl, rfl, rfl, by decide +kernel, rfl, by decide +kernel, by decide +kernel⟩
theorem ok__factor_of {P : Program} {w : World} {K : PySem.W.Frag} {mg : Str → Option Value} {base : Heap} (T : Txt K mg) (C : Cn K mg) (Z : Ec K mg) (bk : Bk K mg) {f : Addr} {fd : FuncData} (U : Fun K "_factor_of" "_factor_of" (top 29) f fd) (dr : Option Addr) :
    FnG P w K mg base 1 f fd ["count"] (SpD K dr [false] F__factor_of) := by
  refine fnd_of (k := 0) U sc__factor_of rfl (fun cdv A callers s0 H E G0 hr hga =>
    (sd_cons (sd_set 1 sc__factor_of.nd pd_int)
      (sd_cons (sd_set 2 sc__factor_of.nd (pd_const C.FACTOR))
      (sd_cons (sd_set 3 sc__factor_of.nd (pd_var 0 (pv 0)))
      (sd_cons (sd_while (td_cmp cm_gt (pd_var 3 (pv 3)) pd_int) (sd_cons (sd_if (td_cmp (cm_eq hr) (pd_mod (pd_var 3 (pv 3)) pd_int) pd_int) (sd_one (sd_set 1 sc__factor_of.nd (pd_mod (pd_mul (pd_var 1 (pv 1)) (pd_var 2 (pv 2))) (pd_const C.MODULUS)))) sd_nil)
      (sd_cons (sd_set 2 sc__factor_of.nd (pd_mod (pd_mul (pd_var 2 (pv 2)) (pd_var 2 (pv 2))) (pd_const C.MODULUS)))
      (sd_one (sd_set 3 sc__factor_of.nd (pd_div (pd_var 3 (pv 3)) pd_int))))))
      (sd_one (sd_ret (pd_var 1 (pv 1))))))))) ?_
  intro ds n Q hl hF
  obtain ⟨k, rfl, q⟩ := hF
  walk_at "wx"
  rw [f_while]
  refine ⟨fun m s1 => ∃ (mde pwr : Int) (rst : Nat), s1 = ⟨[.val (.int k), .val (.int mde), .val (.int pwr), .val (.int rst)], n⟩ ∧ m = rst ∧ 0 ≤ mde ∧ mde < 4294967291 ∧ 0 ≤ pwr ∧ pwr < 4294967291 ∧ (mde * pwf pwr rst) % 4294967291 = pw k, ⟨_, 1, 257, k, rfl, rfl, by decide, by decide, by decide, by decide, ?_⟩, ?_⟩
  · rw [Int.one_mul, pw_pwf]
  rintro rst s1 ⟨mde, pwr, _, rfl, rfl, m0, m1, p0, p1, e⟩
  walk_at "wx"
  by_cases h1 : 0 < rst
  · rw [if_pos (by omega)]
    refine ⟨by decide, ?_⟩
    have er : (rst : Int) / 2 = ((rst / 2 : Nat) : Int) := by omega
    have key : ∀ mm : Int, 0 ≤ mm → mm < 4294967291 → (mm * pwf (pwr * pwr % 4294967291) (rst / 2)) % 4294967291 = pw k → 
        (CMul pwr pwr ∧ (0 : Int) < 4294967291 ∧ CDiv (rst : Int) 2 ∧ ∃ m', m' < rst ∧ ∃ (a b : Int) (c : Nat), (⟨[.val (.int k), .val (.int mm), .val (.int (pwr * pwr % 4294967291)), .val (.int ((rst : Int) / 2))], n⟩ : S) = ⟨[.val (.int k), .val (.int a), .val (.int b), .val (.int c)], n⟩ ∧ m' = c ∧ 0 ≤ a ∧ a < 4294967291 ∧ 0 ≤ b ∧ b < 4294967291 ∧ (a * pwf b c) % 4294967291 = pw k) := fun mm a0 a1 ea =>
      ⟨.inl ⟨by omega, by omega⟩, by decide, ⟨by decide, by decide⟩, rst / 2, by omega, mm, _, rst / 2, by rw [er], rfl, a0, a1, Int.emod_nonneg _ (by decide), Int.emod_lt_of_pos _ (by decide), ea⟩
    by_cases h2 : rst % 2 = 1
    · rw [if_pos (by omega)]
      refine ⟨.inl ⟨by omega, by omega⟩, by decide, ?_⟩
      refine key _ (Int.emod_nonneg _ (by decide)) (Int.emod_lt_of_pos _ (by decide)) ?_
      rw [← e]
      have e3 : rst = 2 * (rst / 2) + 1 := by omega
      have e4 : pwf pwr rst = pwf pwr (2 * (rst / 2)) * pwr := by
        conv => lhs; rw [e3]
        rfl
      rw [e4, ← pwf_two]
      have e5 : mde * (pwf (pwr * pwr) (rst / 2) * pwr) = (mde * pwr) * pwf (pwr * pwr) (rst / 2) := by
        rw [Int.mul_comm (pwf _ _) pwr, Int.mul_assoc]
      rw [e5]
      exact (mulmod (Int.emod_emod _ _)).trans (mulmod2 (pwf_mod (Int.emod_emod _ _) _))
    · rw [if_neg (by omega)]
      refine key _ m0 m1 ?_
      rw [← e]
      have e3 : rst = 2 * (rst / 2) := by omega
      have e4 : pwf pwr rst = pwf (pwr * pwr) (rst / 2) := by
        conv => lhs; rw [e3]
        rw [← pwf_two]
      rw [e4]
      exact mulmod2 (pwf_mod (Int.emod_emod _ _) _)
  · rw [if_neg (by omega)]
    have e0 : rst = 0 := by omega
    subst e0
    have e2 : mde = pw k := by
      rw [← e]
      show mde = (mde * 1) % _
      rw [Int.mul_one, Int.emod_eq_of_lt m0 m1]
    rw [e2]
    exact q
def tabM (os : List Int) (m : Nat) : List Int := List.replicate m 0 ++ (tab os).drop m
theorem tabM_len (os : List Int) (m : Nat) (h : m ≤ os.length + 1) : (tabM os m).length = os.length + 1 := by
  unfold tabM
  rw [List.length_append, List.length_replicate, List.length_drop, tab_len]
  omega
theorem tabM_get (os : List Int) (m k : Nat) (h : m ≤ k) (hk : k ≤ os.length) : (oc (tabM os m))[k]? = some (.int (R (os.drop k) : Int)) := by
  unfold tabM oc
  rw [List.getElem?_map, List.getElem?_append_right (by rw [List.length_replicate]; exact h), List.length_replicate, List.getElem?_drop, show m + (k - m) = k from by omega, tab_get hk]
  rfl
theorem tabM_set (os : List Int) (m : Nat) (h : m ≤ os.length) : (oc (tabM os (m + 1))).set m (.int (R (os.drop m) : Int)) = oc (tabM os m) := by
  unfold oc
  rw [← List.map_set]
  congr 1
  unfold tabM
  rw [List.replicate_succ', List.append_assoc, List.set_append_right _ _ (by rw [List.length_replicate]; exact Nat.le_refl _), List.length_replicate, Nat.sub_self, List.singleton_append, List.set_cons_zero]
  congr 1
  have hlt : m < (tab os).length := by rw [tab_len]; omega
  rw [List.drop_eq_getElem_cons hlt]
  have q := tab_get h
  rw [(List.getElem?_eq_some_iff.mp q).2]
theorem tabM_start (os : List Int) : tabM os os.length = List.replicate (os.length + 1) 0 := by
  unfold tabM
  have hlt : os.length < (tab os).length := by rw [tab_len]; omega
  have q := tab_get (os := os) (k := os.length) (Nat.le_refl _)
  have e0 : os.drop os.length = [] := List.drop_of_length_le (Nat.le_refl _)
  have e1 : (tab os).drop (os.length + 1) = [] := List.drop_of_length_le (by rw [tab_len]; exact Nat.le_refl _)
  rw [e0, R_nil] at q
  rw [List.drop_eq_getElem_cons hlt, (List.getElem?_eq_some_iff.mp q).2, e1, List.replicate_succ']
  rfl
def I_mo (os : List Int) (sd : D) (n : Nat) (i : Nat) (s : S) : Prop := ∃ (x3 x4 x5 : Sl), s = ⟨[.val (.int (os.length : Int)), .val sd, .own (oc (tabM os (os.length - i))), x3, x4, x5], n⟩
theorem sc__most_octets : FnScope ["size", "entries", "table", "offset", "most", "end"] ["size", "entries"] (defScope (top 34)) := ⟨rfl, rfl, rfl, by decide +kernel, rfl, by decide +kernel, by decide +kernel⟩
theorem ok__most_octets {P : Program} {w : World} {K : PySem.W.Frag} {mg : Str → Option Value} {base : Heap} (T : Txt K mg) (C : Cn K mg) (Z : Ec K mg) (bk : Bk K mg) {f : Addr} {fd : FuncData} (U : Fun K "_most_octets" "_most_octets" (top 34) f fd) (dr : Option Addr) :
    FnG P w K mg base 1 f fd ["size", "entries"] (SpD K dr [false, false] F__most_octets) := by
  refine fnd_of (k := 0) U sc__most_octets rfl (fun cdv A callers s0 H E G0 hr hga =>
    (sd_cons (sd_own 2 sc__most_octets.nd (ld_rep (pd_lst (ad_cons pd_int ad_nil)) (pd_add (pd_var 0 (pv 0)) pd_int)))
      (sd_cons (sd_for (id_down (pd_var 0 (pv 0)) T.reversed T.range) (gd_name 3 sc__most_octets.nd) (sd_cons (sd_set 4 sc__most_octets.nd (pd_ixV 2 (pv 2) (pd_add (pd_var 3 (pv 3)) pd_int)))
      (sd_cons (sd_if (td_cmp (cm_din hr) (pd_var 3 (pv 3)) (pd_var 1 (pv 1))) (sd_cons (sd_set 5 sc__most_octets.nd (pd_ix (pd_dget hr (pd_var 1 (pv 1)) (pd_var 3 (pv 3))) pd_int))
      (sd_one (sd_if (td_cmp cm_gt (pd_add (pd_sub (pd_var 5 (pv 5)) (pd_var 3 (pv 3))) (pd_ixV 2 (pv 2) (pd_var 5 (pv 5)))) (pd_var 4 (pv 4))) (sd_one (sd_set 4 sc__most_octets.nd (pd_add (pd_sub (pd_var 5 (pv 5)) (pd_var 3 (pv 3))) (pd_ixV 2 (pv 2) (pd_var 5 (pv 5)))))) sd_nil))) sd_nil)
      (sd_one (sd_put 2 (pv 2) (pd_var 3 (pv 3)) (pd_var 4 (pv 4)))))))
      (sd_one (sd_ret (pd_var 2 (pv 2))))))) ?_
  intro ds n Q hl hF
  obtain ⟨os, e, ho, hz, q⟩ := hF
  obtain ⟨sd, hsd⟩ : ∃ sd, sd = soundD os := ⟨_, rfl⟩
  rw [← hsd] at e
  subst e
  walk_at "wx"
  rw [show (os.length : Int) + 1 = ((os.length + 1 : Nat) : Int) from by omega, rep_one]
  refine ⟨line_of (by decide), crep_one _ (by omega), ?_⟩
  walk_at "wx"
  refine ⟨os.length, rfl, by omega, by omega, ?_⟩
  refine forW_ind (I_mo os sd n) _ 0 _ ⟨.emp, .emp, .emp, by rw [Nat.sub_zero, tabM_start]; rfl⟩ (fun i d s hd hI => ?_) (fun s hI => ?_)
  · obtain ⟨x3, x4, x5, rfl⟩ := hI
    rw [Nat.zero_add]
    unfold dwnD at hd
    rw [List.getElem?_map] at hd
    obtain ⟨j, hj, rfl⟩ := Option.map_eq_some_iff.mp hd
    have hi : i < os.length := by
      have q := (List.getElem?_eq_some_iff.mp hj).1
      rw [List.length_range] at q
      exact q
    rw [List.getElem?_range (by simpa using hi)] at hj
    cases hj
    obtain ⟨k, hk⟩ : ∃ k, k = os.length - 1 - i := ⟨_, rfl⟩
    have ek : ((((os.length : Int)).toNat : Nat) : Int) - 1 - (i : Int) = (k : Int) := by
      rw [Int.toNat_natCast]
      omega
    rw [ek, show os.length - i = k + 1 from by omega]
    walk_at "wx"
    have hk1 : k + 1 ≤ os.length := by omega
    have hkl : k < os.length := by omega
    have ed : os.drop k = os[k] :: os.drop (k + 1) := List.drop_eq_getElem_cons hkl
    have g1 : gDIn (.int (k : Int)) sd = some (.bl (enAt (os.drop k)).isSome) := by rw [hsd]; exact sound_in k
    have put : ∀ (v : Int) (x5 : Sl), v = (R (os.drop k) : Int) → I_mo os sd n (i + 1) ⟨[.val (.int (os.length : Int)), .val sd, .own ((oc (tabM os (k + 1))).set k (.int v)), .val (.int (k : Int)), .val (.int v), x5], n⟩ := fun v x5 e => by
      rw [e, tabM_set os k (by omega)]
      have e2 : os.length - (i + 1) = k := by omega
      exact ⟨.val (.int (k : Int)), .val (.int (R (os.drop k) : Int)), x5, by rw [e2]⟩
    have i0 : wPut.intD0 (D.int (k : Int)) = some (k : Int) := rfl
    have ix : ixN (oc (tabM os (k + 1))).length (k : Int) = some k := by
      have hl : (oc (tabM os (k + 1))).length = os.length + 1 := by
        unfold oc
        rw [List.length_map, tabM_len _ _ (by omega)]
      rw [hl, DI.ixN_nat (by omega) (by omega), Int.toNat_natCast]
    rw [show (k : Int) + 1 = ((k + 1 : Nat) : Int) from by omega, DI.atI_nat, tabM_get os (k + 1) (k + 1) (Nat.le_refl _) hk1]
    walk_at "wx"
    rw [g1]
    cases h : enAt (os.drop k) with
    | none =>
      rw [show (none : Option Pr).isSome = false from rfl]
      walk_at "wx"
      rw [i0]
      walk_at "wx"
      rw [ix]
      walk_at "wx"
      exact put _ _ (by rw [ed, R_none (by rw [← ed]; exact h)])
    | some e =>
      rw [show (some e : Option Pr).isSome = true from rfl]
      have g2 : gDGet sd (.int (k : Int)) = some (.tup [.str e.1, .int ((k + (11 + e.1.length) : Nat) : Int), .int ((k + (entE e).length : Nat) : Int)]) := by rw [hsd]; exact sound_get ho h
      have hp := ent_pos e
      have hle := enAt_len (oct_drop ho k) h
      rw [List.length_drop] at hle
      walk_at "wx"
      rw [g2]
      walk_at "wx"
      rw [DI.atI_nat, tabM_get os (k + 1) (k + (entE e).length) (by omega) (by omega)]
      walk_at "wx"
      have hr := R_some (by rw [← ed]; exact h : enAt (os[k] :: os.drop (k + 1)) = some e)
      rw [← ed, List.drop_drop] at hr
      by_cases hc : ((k + (entE e).length : Nat) : Int) - (k : Int) + (R (os.drop (k + (entE e).length)) : Int) > (R (os.drop (k + 1)) : Int)
      · rw [if_pos hc]
        rw [DI.atI_nat, tabM_get os (k + 1) (k + (entE e).length) (by omega) (by omega)]
        walk_at "wx"
        rw [i0]
        walk_at "wx"
        rw [ix]
        walk_at "wx"
        exact put _ _ (by omega)
      · rw [if_neg hc]
        rw [i0]
        walk_at "wx"
        rw [ix]
        walk_at "wx"
        exact put _ _ (by omega)
  · obtain ⟨x3, x4, x5, rfl⟩ := hI
    rw [Nat.zero_add, show (dwnD ((os.length : Int)).toNat).length = os.length from by unfold dwnD; rw [List.length_map, List.length_range, Int.toNat_natCast], Nat.sub_self]
    walk_at "wx"
    exact q
theorem sc__law_mixed : FnScope ["cell", "k", "mixed"] ["cell", "k"] (defScope (top 37)) := ⟨rfl, rfl, rfl, by decide +kernel, rfl, by decide +kernel, by decide +kernel⟩
theorem ok__law_mixed {P : Program} {w : World} {K : PySem.W.Frag} {mg : Str → Option Value} {base : Heap} (T : Txt K mg) (C : Cn K mg) (Z : Ec K mg) (bk : Bk K mg) {f : Addr} {fd : FuncData} (U : Fun K "_law_mixed" "_law_mixed" (top 37) f fd) (dr : Option Addr) :
    FnG P w K mg base 1 f fd ["cell", "k"] (SpD K dr [false, false] F__law_mixed) := by
  refine fnd_of (k := 0) U sc__law_mixed rfl (fun cdv A callers s0 H E G0 hr hga =>
    (sd_cons (sd_set 2 sc__law_mixed.nd (pd_mod (pd_bt bt_int T.int (ad_cons (pd_add (pd_add (pd_add (pd_mod (pd_bt bt_int T.int (ad_cons (pd_var 0 (pv 0)) ad_nil)) pd_int) (pd_mul (pd_mul pd_int (pd_var 1 (pv 1))) (pd_var 1 (pv 1)))) (pd_mul pd_int (pd_var 1 (pv 1)))) pd_int) ad_nil)) pd_int))
      (sd_cons (sd_set 2 sc__law_mixed.nd (pd_mod (pd_bt bt_int T.int (ad_cons (pd_mul (pd_mod (pd_bt bt_int T.int (ad_cons (pd_mul (pd_var 2 (pv 2)) (pd_var 2 (pv 2))) ad_nil)) pd_int) (pd_var 2 (pv 2))) ad_nil)) pd_int))
      (sd_one (sd_ret (pd_div (pd_mod (pd_bt bt_int T.int (ad_cons (pd_mul (pd_var 2 (pv 2)) (pd_add pd_int (pd_mul pd_int (pd_mod (pd_bt bt_int T.int (ad_cons (pd_var 1 (pv 1)) ad_nil)) pd_int)))) ad_nil)) pd_int) pd_int)))))) ?_
  intro ds n Q hl hF
  obtain ⟨c, k, rfl, h0, h1, q⟩ := hF
  walk_at "wx"
  try simp only [gInt, get_some, gI, gMulI, cI, cMul, cMod, cDiv, gMod, gDiv, DI.gSub, gAdd, cAdd]
  have hm : ∀ {a b : Int}, CMul (a % 2147483647) b := cm_mod (by decide) (by decide)
  have hm2 : ∀ {a b : Int}, CMul (a % 2147483629) b := cm_mod (by decide) (by decide)
  exact ⟨by decide, .inl ⟨by decide, by decide⟩, .inr ⟨by omega, by omega⟩, .inl ⟨by decide, by decide⟩, by decide, hm, by decide, hm, by decide, by decide, .inl ⟨by decide, by decide⟩, hm2, by decide, ⟨by decide, by decide⟩, q _⟩
def I_ln (v : Int) (k n : Nat) (t : List Nat) (s : S) : Prop := ∃ (acc : List Int) (r : Int) (x3 : Sl), s = ⟨[.val (.int r), .val (.int k), .val (.lst (oc acc)), x3], n⟩ ∧ numO t.length r ++ acc = numO k v ∧ acc.length + t.length ≤ 100
theorem sc__law_number : FnScope ["number", "many", "found", "turn"] ["number", "many"] (defScope (top 39)) := ⟨rfl, rfl, rfl, by decide +kernel, rfl, by decide +kernel, by decide +kernel⟩
theorem ok__law_number {P : Program} {w : World} {K : PySem.W.Frag} {mg : Str → Option Value} {base : Heap} (T : Txt K mg) (C : Cn K mg) (Z : Ec K mg) (bk : Bk K mg) {f : Addr} {fd : FuncData} (U : Fun K "_law_number" "_law_number" (top 39) f fd) (dr : Option Addr) :
    FnG P w K mg base 1 f fd ["number", "many"] (SpD K dr [false, false] F__law_number) := by
  refine fnd_of (k := 0) U sc__law_number rfl (fun cdv A callers s0 H E G0 hr hga =>
    (sd_cons (sd_set 2 sc__law_number.nd (pd_lst ad_nil))
      (sd_cons (sd_for (id_range1 (ad_cons (pd_var 1 (pv 1)) ad_nil) T.range) (gd_name 3 sc__law_number.nd) (sd_cons (sd_set 2 sc__law_number.nd (pd_add (pd_lst (ad_cons (pd_mod (pd_bt bt_int T.int (ad_cons (pd_var 0 (pv 0)) ad_nil)) pd_int) ad_nil)) (pd_var 2 (pv 2))))
      (sd_one (sd_set 0 sc__law_number.nd (pd_div (pd_var 0 (pv 0)) pd_int)))))
      (sd_one (sd_ret (pd_var 2 (pv 2))))))) ?_
  intro ds n Q hl hF
  obtain ⟨v, k, rfl, hk, q⟩ := hF
  walk_at "wx"
  refine ⟨line_of (by decide), k, rfl, by omega, by omega, ?_⟩
  rw [rng_map]
  refine forW_ty (I := I_ln v k n) _ _ ⟨[], v, .emp, rfl, by simp, by simpa using hk⟩ (fun o t s1 _ hI => ?_) (fun s1 hI => ?_)
  · obtain ⟨acc, r, x3, rfl, e, hz⟩ := hI
    simp only [List.length_cons] at hz e
    walk_at "wx"
    refine ⟨by decide, line_of (by decide), line_of (by rw [List.length_map]; omega), ⟨by decide, by decide⟩, r % 256 :: acc, r / 256, _, rfl, ?_, by simp only [List.length_cons]; omega⟩
    rw [← e]
    simp [numO]
  · obtain ⟨acc, r, x3, rfl, e, hz⟩ := hI
    walk_at "wx"
    have e2 : acc = numO k v := e
    rw [e2]
    exact q
def I_ls (ns : List Int) (n : Nat) (t : List Int) (s : S) : Prop := ∃ (f : Int) (x2 : Sl), s = ⟨[.val (.lst (oc ns)), .val (.int f), x2], n⟩ ∧ 0 ≤ f ∧ f < 4294967291 ∧ (∀ o ∈ t, oct o) ∧ chk f t = chk 7 ns
theorem sc__law_sum : FnScope ["octets", "found", "octet"] ["octets"] (defScope (top 40)) := ⟨rfl, rfl, rfl, by decide +kernel, rfl, by decide +kernel, by decide +kernel⟩
theorem ok__law_sum {P : Program} {w : World} {K : PySem.W.Frag} {mg : Str → Option Value} {base : Heap} (T : Txt K mg) (C : Cn K mg) (Z : Ec K mg) (bk : Bk K mg) {f : Addr} {fd : FuncData} (U : Fun K "_law_sum" "_law_sum" (top 40) f fd) (dr : Option Addr) :
    FnG P w K mg base 1 f fd ["octets"] (SpD K dr [false] F__law_sum) := by
  refine fnd_of (k := 0) U sc__law_sum rfl (fun cdv A callers s0 H E G0 hr hga =>
    (sd_cons (sd_set 1 sc__law_sum.nd pd_int)
      (sd_cons (sd_for (id_seq (pd_var 0 (pv 0))) (gd_name 2 sc__law_sum.nd) (sd_one (sd_set 1 sc__law_sum.nd (pd_mod (pd_bt bt_int T.int (ad_cons (pd_add (pd_add (pd_mul (pd_var 1 (pv 1)) pd_int) (pd_var 2 (pv 2))) pd_int) ad_nil)) pd_int))))
      (sd_one (sd_ret (pd_var 1 (pv 1))))))) ?_
  intro ds n Q hl hF
  obtain ⟨ns, rfl, ho, q⟩ := hF
  walk_at "wx"
  refine forW_ty (I := I_ls ns n) (inj := D.int) ns _ ⟨7, .emp, rfl, by decide, by decide, ho, rfl⟩ (fun o t s1 _ hI => ?_) (fun s1 hI => ?_)
  · obtain ⟨f, x2, rfl, f0, f1, ht, e⟩ := hI
    walk_at "wx"
    refine ⟨.inl ⟨by omega, by omega⟩, by decide, _, _, rfl, Int.emod_nonneg _ (by decide), Int.emod_lt_of_pos _ (by decide), fun o m => ht o (List.mem_cons_of_mem _ m), ?_⟩
    rw [← e]
    rfl
  · obtain ⟨f, x2, rfl, f0, f1, ht, e⟩ := hI
    walk_at "wx"
    have e2 : f = chk 7 ns := e
    rw [e2]
    exact q
abbrev LOW : Str := "-./0123456789"
abbrev HIGH : Str := "abcdefghijklmnopqrstuvwxyz"
theorem low_at : ∀ i : Fin 13, Builtin.Str.occurrences LOW ⟨#[45 + i.val]⟩ 0 LOW.length 1 = [i.val] := by decide +kernel
theorem high_at : ∀ i : Fin 26, Builtin.Str.occurrences HIGH ⟨#[97 + i.val]⟩ 0 HIGH.length 1 = [i.val] := by decide +kernel
theorem in_low (c : Nat) : inStr ⟨#[c]⟩ LOW = (decide (45 ≤ c) && decide (c ≤ 57)) := by
  unfold inStr
  rw [StrLaws.found_one]
  have e : LOW.cps.toList = [45, 46, 47, 48, 49, 50, 51, 52, 53, 54, 55, 56, 57] := by decide +kernel
  rw [e]
  simp only [List.mem_cons, List.not_mem_nil, or_false, ← Bool.decide_and]
  exact decide_eq_decide.mpr (by omega)
theorem idx_low {c : Nat} (h1 : 45 ≤ c) (h2 : c ≤ 57) : gIndex LOW (.str ⟨#[c]⟩) = some (.int ((c - 45 : Nat) : Int)) := by
  have z := low_at ⟨c - 45, by omega⟩
  rw [show (45 + (⟨c - 45, by omega⟩ : Fin 13).val) = c from by simp; omega] at z
  unfold gIndex
  simp only [z]
theorem idx_high {c : Nat} (h1 : 97 ≤ c) (h2 : c ≤ 122) : gIndex HIGH (.str ⟨#[c]⟩) = some (.int ((c - 97 : Nat) : Int)) := by
  have z := high_at ⟨c - 97, by omega⟩
  rw [show (97 + (⟨c - 97, by omega⟩ : Fin 26).val) = c from by simp; omega] at z
  unfold gIndex
  simp only [z]
theorem sc__law_signs : FnScope ["title", "low", "high", "sign"] ["title"] (defScope (top 41)) := ⟨rfl, rfl, rfl, by decide +kernel, rfl, by decide +kernel, by decide +kernel⟩
theorem ok__law_signs {P : Program} {w : World} {K : PySem.W.Frag} {mg : Str → Option Value} {base : Heap} (T : Txt K mg) (C : Cn K mg) (Z : Ec K mg) (bk : Bk K mg) {f : Addr} {fd : FuncData} (U : Fun K "_law_signs" "_law_signs" (top 41) f fd) (dr : Option Addr) :
    FnG P w K mg base 1 f fd ["title"] (SpD K dr [false] F__law_signs) := by
  refine fnd_of (k := 0) U sc__law_signs rfl (fun cdv A callers s0 H E G0 hr hga =>
    (sd_cons (sd_asg (pd_tup (ad_cons pd_str (ad_cons pd_str ad_nil))) (gd_tup (n := 2) (gds_cons (gd_name 1 sc__law_signs.nd) (gds_cons (gd_name 2 sc__law_signs.nd) gds_nil))))
      (sd_one (sd_ret (pd_ofL (ld_lc (own := [("sign", 3)]) sc__law_signs.nd (id_str (pd_var 0 (pv 0))) (lct_name) (by change blkC ["title", "low", "high", "sign"] (defScope (top 41)) _ _ = true; decide +kernel) (fun _ _ _ _ _ => pg_name (i := 3) sc__law_signs.nd rfl (.inl rfl)) (fun _ _ _ _ _ _ _ => (pts_yes)) (fun _ _ _ _ _ _ _ => (pd_ifExp (td_cmp (cm_in) (pd_var 3 (pv 3)) (pd_var 1 (pv 1))) (pd_add pd_int (pd_mt mt_idx (pd_var 1 (pv 1)) (pd_var 3 (pv 3)))) (pd_add pd_int (pd_mt mt_idx (pd_var 2 (pv 2)) (pd_var 3 (pv 3)))))))))))) ?_
  intro ds n Q hl hF
  obtain ⟨z, rfl, hz, q⟩ := hF
  have hn := name_len2 hz
  walk_at "wx"
  refine ⟨line_of (by decide), ?_⟩
  rw [chrs_eq]
  unfold isName at hz
  simp only [Bool.and_eq_true, decide_eq_true_eq] at hz
  refine lcGo_mp (inj := fun c => .str ⟨#[c]⟩) (fun c => .int (c : Int)) z.cps.toList n (line_of (by rw [← slen]; omega)) (fun c mc P hP => ?_) ?_
  · have hc := List.all_eq_true.mp hz.2 c mc
    unfold nameCh at hc
    simp only [Bool.or_eq_true, Bool.and_eq_true, decide_eq_true_eq] at hc
    walk_at "wx"
    rw [in_low]
    by_cases h1 : c ≤ 57
    · have h2 : 45 ≤ c := by omega
      rw [if_pos (by simp [h1, h2])]
      refine ⟨trivial, ?_⟩
      rw [idx_low h2 h1]
      walk_at "wx"
      rw [show (45 : Int) + ((c - 45 : Nat) : Int) = (c : Int) from by omega]
      exact hP _ rfl
    · have h2 : 97 ≤ c := by omega
      rw [if_neg (by simp [h1])]
      refine ⟨trivial, ?_⟩
      rw [idx_high h2 (by omega)]
      walk_at "wx"
      rw [show (97 : Int) + ((c - 97 : Nat) : Int) = (c : Int) from by omega]
      exact hP _ rfl
  · have e : (z.cps.toList.map fun (c : Nat) => D.int (c : Int)) = oc (codes z) := by
      unfold oc codes
      rw [List.map_map]
      rfl
    rw [e]
    exact q
theorem sc_require_data : FnScope ["data", "index"] ["data"] (defScope (top 11)) := ⟨rfl, rfl, rfl, by decide +kernel, rfl, by decide +kernel, by decide +kernel⟩
theorem ok_require_data {P : Program} {w : World} {K : PySem.W.Frag} {mg : Str → Option Value} {base : Heap} (T : Txt K mg) (C : Cn K mg) (Z : Ec K mg) (bk : Bk K mg) (D__first_odd : Dn P w K mg base 1 "_first_odd" ["values"] F__first_odd) {f : Addr} {fd : FuncData} (U : Fun K "require_data" "require_data" (top 11) f fd) (dr : Option Addr) :
    FnG P w K mg base 2 f fd ["data"] (SpD K dr [false] F_require_data) := by
  refine fnd_of (k := 1) U sc_require_data rfl (fun cdv A callers s0 H E G0 hr hga =>
    (sd_cons (sd_if (td_not (td_val (pd_isi (pd_var 0 (pv 0)) rfl kit_tuple T.isinstance T.tuple))) (sd_one sd_never) sd_nil)
      (sd_cons (sd_set 1 sc_require_data.nd (pd_cl D__first_odd hr (by decide) hga (ad_cons (pd_var 0 (pv 0)) ad_nil)))
      (sd_one (sd_if (td_cmp cm_notN (pd_var 1 (pv 1)) pd_non) (sd_one sd_never) sd_nil))))) ?_
  intro ds n Q hl hF
  obtain ⟨ns, rfl, ho, q⟩ := hF
  walk_at "wx"
  refine ⟨oc ns, rfl, tyOk_oc ns, ?_⟩
  rw [oddAt_oc ho]
  walk_at "wx"
  exact q
theorem sc_text_of : FnScope ["octets", "octet"] ["octets"] (defScope (top 14)) := ⟨rfl, rfl, rfl, by decide +kernel, rfl, by decide +kernel, by decide +kernel⟩
theorem ok_text_of {P : Program} {w : World} {K : PySem.W.Frag} {mg : Str → Option Value} {base : Heap} (T : Txt K mg) (C : Cn K mg) (Z : Ec K mg) (bk : Bk K mg) (D__sign_of : Dn P w K mg base 1 "_sign_of" ["octet"] F__sign_of) {f : Addr} {fd : FuncData} (U : Fun K "text_of" "text_of" (top 14) f fd) (dr : Option Addr) :
    FnG P w K mg base 2 f fd ["octets"] (SpD K dr [false] F_text_of) := by
  refine fnd_of (k := 1) U sc_text_of rfl (fun cdv A callers s0 H E G0 hr hga =>
    (sd_one (sd_ret (pd_mt (mt_jn) pd_str (pd_ofL (ld_lc (own := [("octet", 1)]) sc_text_of.nd (id_seq (pd_var 0 (pv 0))) (lct_name) (by change blkC ["octets", "octet"] (defScope (top 14)) _ _ = true; decide +kernel) (fun _ _ _ _ _ => pg_name (i := 1) sc_text_of.nd rfl (.inl rfl)) (fun _ _ _ _ _ _ _ => (pts_yes)) (fun _ _ _ _ _ _ _ => (pd_cl D__sign_of hr (by decide) hga (ad_cons (pd_var 1 (pv 1)) ad_nil))))))))) ?_
  intro ds n Q hl hF
  obtain ⟨s, ns, rfl, hs, ho, hz, q⟩ := hF
  walk_at "wx"
  rw [hs]
  walk_at "wx"
  refine lcGo_mp (fun o => .str (sign o)) ns n (line_of (by omega)) (fun o m P hP => ?_) ?_
  · walk_at "wx"
    exact ⟨o, rfl, ho o m, hP _ rfl⟩
  · have e : (rowD (D.lst (ns.map fun o => D.str (sign o)))).bind strsOf = some (ns.map sign) := by
      show strsOf _ = _
      exact strsOf_map sign ns
    refine ⟨fun ys h => ?_, ?_⟩
    · rw [e] at h
      cases h
      have z := one_len sgn ns
      rw [show (ns.map sign).map (·.length) = (ns.map fun a => (⟨#[sgn a]⟩ : Str)).map (·.length) from rfl, z, List.length_map]
      show ns.length + ns.length * 0 ≤ 16777216
      omega
    · unfold gJoin
      rw [e]
      simp only [Option.map_some, get_some]
      rw [join_txt]
      exact q
theorem sc__sums : FnScope ["data", "heads", "places", "name", "begin", "end", "check", "sums", "running", "before", "place"] ["data", "heads"] (defScope (top 27)) := ⟨rfl, rfl, rfl, by decide +kernel, rfl, by decide +kernel, by decide +kernel⟩
theorem ok__sums {P : Program} {w : World} {K : PySem.W.Frag} {mg : Str → Option Value} {base : Heap} (T : Txt K mg) (C : Cn K mg) (Z : Ec K mg) (bk : Bk K mg) (D_running_check : Dn P w K mg base 1 "running_check" ["check", "octets"] F_running_check) {f : Addr} {fd : FuncData} (U : Fun K "_sums" "_sums" (top 27) f fd) (dr : Option Addr) :
    FnG P w K mg base 2 f fd ["data", "heads"] (SpD K dr [false, false] F__sums) := by
  refine fnd_of (k := 1) U sc__sums rfl (fun cdv A callers s0 H E G0 hr hga =>
    (sd_cons (sd_dnew 2 sc__sums.nd)
      (sd_cons (sd_for (id_vals (pd_var 1 (pv 1))) (gd_tup (n := 4) (gds_cons (gd_name 3 sc__sums.nd) (gds_cons (gd_name 4 sc__sums.nd) (gds_cons (gd_name 5 sc__sums.nd) (gds_cons (gd_name 6 sc__sums.nd) gds_nil))))) (sd_cons (sd_dput hr 2 (pv 2) (pd_var 4 (pv 4)) pd_bl)
      (sd_one (sd_dput hr 2 (pv 2) (pd_var 5 (pv 5)) pd_bl))))
      (sd_cons (sd_dnew 7 sc__sums.nd)
      (sd_cons (sd_set 8 sc__sums.nd pd_int)
      (sd_cons (sd_set 9 sc__sums.nd pd_int)
      (sd_cons (sd_for (id_seq (pd_sorted (pd_ofL (ld_lc (own := [("place", 10)]) sc__sums.nd (id_keys (pd_var 2 (pv 2))) (lct_name) (by change blkC ["data", "heads", "places", "name", "begin", "end", "check", "sums", "running", "before", "place"] (defScope (top 27)) _ _ = true; decide +kernel) (fun _ _ _ _ _ => pg_name (i := 10) sc__sums.nd rfl (.inl rfl)) (fun _ _ _ _ _ _ _ => (pts_yes)) (fun _ _ _ _ _ _ _ => (pd_bt bt_int T.int (ad_cons (pd_var 10 (pv 10)) ad_nil))))) T.sorted)) (gd_name 10 sc__sums.nd) (sd_cons (sd_set 8 sc__sums.nd (pd_cl D_running_check hr (by decide) hga (ad_cons (pd_var 8 (pv 8)) (ad_cons (pd_sl (pd_var 0 (pv 0)) (od_some (pd_var 9 (pv 9))) (od_some (pd_var 10 (pv 10)))) ad_nil))))
      (sd_cons (sd_set 9 sc__sums.nd (pd_var 10 (pv 10)))
      (sd_one (sd_dput hr 7 (pv 7) (pd_var 10 (pv 10)) (pd_var 8 (pv 8)))))))
      (sd_one (sd_ret (pd_var 7 (pv 7))))))))))) ?_
  intro ds n Q hl hF
  obtain ⟨os, ks, hs, rfl, ho, hz, hok, hlen, q⟩ := hF
  walk_at "wx"
  refine forW_ty (inj := hdD) (fun t s1 => ∃ ns es x3 x4 x5 x6, s1 = ⟨[.val (.tup (oc os)), .val (.dct ks (hs.map hdD)), .dic (kI ns) es, x3, x4, x5, x6, .emp, .emp, .emp, .emp], n⟩ ∧ (∀ m ∈ ns, 0 ≤ m ∧ m ≤ os.length) ∧ (∀ h ∈ hs, h ∈ t ∨ (h.b ∈ ns ∧ h.e ∈ ns)) ∧ ns.length + 2 * t.length ≤ 2 * hs.length) hs _ ⟨[], [], _, _, _, _, rfl, by simp, fun h m => .inl m, by simp⟩ (fun h t s1 hp hI => ?_) (fun s1 hI => ?_)
  · obtain ⟨ns, es, x3, x4, x5, x6, rfl, h1, h2, h3⟩ := hI
    obtain ⟨pre, epre⟩ := hp
    have hm : h ∈ hs := by rw [epre]; simp
    obtain ⟨b0, be, el⟩ := hok h hm
    simp only [List.length_cons] at h3
    unfold hdD
    walk_at "wx"
    rw [putK_kI, putK_kI]
    have l1 := addI_len ns h.b
    have l2 := addI_len (addI ns h.b) h.e
    refine ⟨line_lt (by unfold kI; rw [List.length_map]; omega), line_lt (by unfold kI; rw [List.length_map]; omega), _, _, _, _, _, _, rfl, fun m mm => ?_, fun g gm => ?_, by omega⟩
    · rcases mem_addI.mp mm with mm | rfl
      · rcases mem_addI.mp mm with mm | rfl
        · exact h1 m mm
        · exact ⟨b0, by omega⟩
      · exact ⟨by omega, el⟩
    · rcases h2 g gm with gt | ⟨g1, g2⟩
      · rcases List.mem_cons.mp gt with rfl | gt
        · exact .inr ⟨mem_addI.mpr (.inl (mem_addI.mpr (.inr rfl))), mem_addI.mpr (.inr rfl)⟩
        · exact .inl gt
      · exact .inr ⟨mem_addI.mpr (.inl (mem_addI.mpr (.inl g1))), mem_addI.mpr (.inl (mem_addI.mpr (.inl g2)))⟩
  · obtain ⟨ns, es, x3, x4, x5, x6, rfl, h1, h2, h3⟩ := hI
    walk_at "wx"
    rw [keys_kI]
    simp only [List.length_nil, Nat.mul_zero, Nat.add_zero] at h3
    refine lcGo_mp D.int ns n (line_of (by omega)) (fun m _ P hP => ?_) ?_
    · walk_at "wx"
      exact hP _ rfl
    rw [intsD_ints, gt_some]
    intro ns' hperm hsort
    have hl' := hperm.length_eq
    refine forW_ty (inj := D.int) (fun t s1 => ∃ run bef ks2 es2 x10, s1 = ⟨[.val (.tup (oc os)), .val (.dct ks (hs.map hdD)), .val (.dct (kI ns) es), x3, x4, x5, x6, .dic ks2 es2, .val (.int run), .val (.int bef), x10], n⟩ ∧ ks2.length = es2.length ∧ (∀ m ∈ ns', m ∈ t ∨ dGet ks2 es2 (Sum.inl m) = some (.int (chk 0 (os.take m.toNat)))) ∧ run = chk 0 (os.take bef.toNat) ∧ 0 ≤ bef ∧ (∀ m ∈ t, bef ≤ m ∧ m ≤ os.length) ∧ t.Pairwise (· ≤ ·) ∧ ks2.length + t.length ≤ ns'.length)
      ns' _ ⟨0, 0, [], [], _, rfl, rfl, fun m mm => .inl mm, by simp [chk], Int.le_refl _, fun m mm => h1 m (hperm.mem_iff.mp mm), hsort, by simp⟩ (fun pl t s1 _ hI => ?_) (fun s1 hI => ?_)
    · obtain ⟨run, bef, ks2, es2, x10, rfl, e1, e2, er, b0, e4, e5, e6⟩ := hI
      obtain ⟨p1, p2⟩ := e4 pl List.mem_cons_self
      obtain ⟨s1, s2⟩ := List.pairwise_cons.mp e5
      simp only [List.length_cons] at e6
      walk_at "wx"
      have r0 := chk_range (c := 0) (by decide) (os.take bef.toNat)
      rw [← er] at r0
      refine ⟨_, cutL os (some bef) (some pl), _, rfl, seq_cut _ _ _, r0.1, r0.2, fun o m => ho o (cutL_mem m), by have := cutL_len os (some bef) (some pl); omega, ?_⟩
      walk_at "wx"
      have ebn : bef = ((bef.toNat : Nat) : Int) := by omega
      have epn : pl = ((pl.toNat : Nat) : Int) := by omega
      have ec : chk (chk 0 (os.take bef.toNat)) (cutL os (some bef) (some pl)) = chk 0 (os.take pl.toNat) := by
        conv => rhs; rw [take_cut os bef.toNat pl.toNat (by omega), chk_app]
        rw [← ebn, ← epn]
      rw [er, ec]
      refine ⟨line_lt (by omega), _, pl, _, _, _, rfl, put_lens e1, fun m mm => ?_, rfl, by omega, fun m mm => ⟨s1 m mm, (e4 m (List.mem_cons_of_mem _ mm)).2⟩, s2, ?_⟩
      · rw [get_put e1]
        rcases e2 m mm with mt | hg
        · rcases List.mem_cons.mp mt with rfl | mt
          · exact .inr (by rw [if_pos rfl])
          · exact .inl mt
        · right
          by_cases e : (Sum.inl m : Key) = Sum.inl pl
          · rw [if_pos e]
            cases Sum.inl.inj e
            rfl
          · rw [if_neg e]
            exact hg
      · have lk : (dPutK ks2 (Sum.inl pl)).length ≤ ks2.length + 1 := by
          unfold dPutK
          split
          · omega
          · simp
        omega
    · obtain ⟨run, bef, ks2, es2, x10, rfl, e1, e2, _⟩ := hI
      walk_at "wx"
      refine q _ _ fun h hm => ?_
      have hb := (h2 h hm).resolve_left (fun z => nomatch z)
      exact ⟨(e2 _ (hperm.mem_iff.mpr hb.1)).resolve_left (fun z => nomatch z), (e2 _ (hperm.mem_iff.mpr hb.2)).resolve_left (fun z => nomatch z)⟩
theorem sc__check_between : FnScope ["sums", "begin", "end"] ["sums", "begin", "end"] (defScope (top 28)) := ⟨rfl, rfl, rfl, by decide +kernel, rfl, by decide +kernel, by decide +kernel⟩
theorem ok__check_between {P : Program} {w : World} {K : PySem.W.Frag} {mg : Str → Option Value} {base : Heap} (T : Txt K mg) (C : Cn K mg) (Z : Ec K mg) (bk : Bk K mg) (D__factor_of : Dn P w K mg base 1 "_factor_of" ["count"] F__factor_of) {f : Addr} {fd : FuncData} (U : Fun K "_check_between" "_check_between" (top 28) f fd) (dr : Option Addr) :
    FnG P w K mg base 2 f fd ["sums", "begin", "end"] (SpD K dr [false, false, false] F__check_between) := by
  refine fnd_of (k := 1) U sc__check_between rfl (fun cdv A callers s0 H E G0 hr hga =>
    (sd_one (sd_ret (pd_mod (pd_add (pd_dget hr (pd_var 0 (pv 0)) (pd_var 2 (pv 2))) (pd_mul (pd_sub (pd_const C.FIRST_CHECK) (pd_dget hr (pd_var 0 (pv 0)) (pd_var 1 (pv 1)))) (pd_cl D__factor_of hr (by decide) hga (ad_cons (pd_sub (pd_var 2 (pv 2)) (pd_var 1 (pv 1))) ad_nil)))) (pd_const C.MODULUS))))) ?_
  intro ds n Q hl hF
  obtain ⟨ks, es, b, e, x, y, rfl, hx, hy, hbe, q⟩ := hF
  walk_at "wx"
  have g1 : gDGet (.dct ks es) (.int e) = some (.int x) := hx
  have g2 : gDGet (.dct ks es) (.int b) = some (.int y) := hy
  rw [g1]
  walk_at "wx"
  rw [g2]
  walk_at "wx"
  have ee : e - b = (((e - b).toNat : Nat) : Int) := by omega
  refine ⟨(e - b).toNat, by rw [← ee], ?_⟩
  walk_at "wx"
  have r := pw_range (e - b).toNat
  exact ⟨.inr ⟨by omega, by omega⟩, by decide, q⟩
theorem sc__law_next : FnScope ["draw", "bound", "found", "every", "cell"] ["draw", "bound"] (defScope (top 38)) := ⟨rfl, rfl, rfl, by decide +kernel, rfl, by decide +kernel, by decide +kernel⟩
theorem ok__law_next {P : Program} {w : World} {K : PySem.W.Frag} {mg : Str → Option Value} {base : Heap} (T : Txt K mg) (C : Cn K mg) (Z : Ec K mg) (bk : Bk K mg) (D__law_mixed : Dn P w K mg base 1 "_law_mixed" ["cell", "k"] F__law_mixed) {f : Addr} {fd : FuncData} (U : Fun K "_law_next" "_law_next" (top 38) f fd) (dr : Option Addr) :
    FnG P w K mg base 2 f fd ["draw", "bound"] (SpD K dr [false, false] F__law_next) := by
  refine fnd_of (k := 1) U sc__law_next rfl (fun cdv A callers s0 H E G0 hr hga =>
    (sd_cons (sd_if (td_cmp cm_gt (dgL_of hr 0 (pv 0)) pd_int) (sd_cons (sd_set 2 sc__law_next.nd (pd_mod (pd_bt bt_int T.int (ad_cons (dgL_of hr 0 (pv 0)) ad_nil)) (pd_var 1 (pv 1))))
      (sd_cons (sdpL hr 0 (pv 0) (pd_div (dgL_of hr 0 (pv 0)) (pd_var 1 (pv 1))))
      (sd_one (sd_ret (pd_var 2 (pv 2)))))) sd_nil)
      (sd_cons (sd_set 3 sc__law_next.nd (dgC_of hr 0 (pv 0)))
      (sd_cons (sd_set 4 sc__law_next.nd (pd_ix (pd_var 3 (pv 3)) (pd_mod (pd_bt bt_int T.int (ad_cons (dgA_of hr 0 (pv 0)) ad_nil)) (pd_bt bt_len T.len (ad_cons (pd_var 3 (pv 3)) ad_nil)))))
      (sd_cons (sdpA hr 0 (pv 0) (pd_add (dgA_of hr 0 (pv 0)) pd_int))
      (sd_cons (sd_if (PW.pt (wd_and (td_cmp cm_ge (pd_var 4 (pv 4)) (pd_pow pd_int pd_int)) (wd_and1 (td_cmp cm_le (dgA_of hr 0 (pv 0)) (pd_bt bt_len T.len (ad_cons (pd_var 3 (pv 3)) ad_nil)))))) (sd_cons (sdpL hr 0 (pv 0) (pd_div (pd_var 4 (pv 4)) (pd_var 1 (pv 1))))
      (sd_one (sd_ret (pd_mod (pd_bt bt_int T.int (ad_cons (pd_var 4 (pv 4)) ad_nil)) (pd_var 1 (pv 1)))))) sd_nil)
      (sd_cons (sdpU hr 0 (pv 0) (pd_add (dgU_of hr 0 (pv 0)) pd_int))
      (sd_one (sd_ret (pd_mod (pd_bt bt_int T.int (ad_cons (pd_cl D__law_mixed hr (by decide) hga (ad_cons (pd_cl D__law_mixed hr (by decide) hga (ad_cons (pd_var 4 (pv 4)) (ad_cons (dgA_of hr 0 (pv 0)) ad_nil))) (ad_cons (dgU_of hr 0 (pv 0)) ad_nil))) ad_nil)) (pd_var 1 (pv 1)))))))))))) ?_
  intro ds n Q hl hF
  obtain ⟨b, rfl, hn, h0, h1, q⟩ := hF
  walk_at "wx"
  intro l
  have Qb : ∀ a : Int, Q (.int (a % b)) (n + 2) := fun a => q _ (Int.emod_nonneg _ (Int.ne_of_gt h0)) (Int.emod_lt_of_pos _ h0)
  split
  · intro l2
    walk_at "wx"
    exact ⟨h0, fun l3 => ⟨⟨h0, h1⟩, _, n + 2, rfl, by omega, Qb _⟩⟩
  · intro ns k1 k2 l2 l20 l21
    walk_at "wx"
    rw [List.length_map]
    have kz : (0 : Int) < (ns.length : Int) := by omega
    refine ⟨kz, ?_⟩
    obtain ⟨a, ea, ma⟩ := atI_lt (xs := ns.map D.int) (i := l2 % (ns.length : Int)) (Int.emod_nonneg _ (by omega)) (by rw [List.length_map]; exact Int.emod_lt_of_pos _ kz)
    obtain ⟨c, _, rfl⟩ := List.mem_map.mp ma
    rw [ea]
    walk_at "wx"
    intro l3 l30 l31
    refine ⟨_, rfl, by omega, by omega, ?_⟩
    refine ⟨⟨by decide, by decide, by decide⟩, ?_⟩
    rw [show gPow (D.int 10) (D.int 18) = some (.int 1000000000000000000) from rfl]
    walk_at "wx"
    split
    · intro l4 l40 l41
      rw [List.length_map]
      split
      · exact ⟨⟨h0, h1⟩, _, n + 2, rfl, by omega, h0, Qb _⟩
      · walk_at "wx"
        intro l5 l50 l51
        refine ⟨_, rfl, by omega, by omega, ?_⟩
        intro l6 l60 l61
        refine ⟨c, l6, rfl, l60, by omega, fun r => ?_⟩
        walk_at "wx"
        intro l7 l70 l71
        refine ⟨r, l7, rfl, l70, by omega, fun r2 => ?_⟩
        walk_at "wx"
        exact ⟨h0, Qb _⟩
    · walk_at "wx"
      intro l5 l50 l51
      refine ⟨_, rfl, by omega, by omega, ?_⟩
      intro l6 l60 l61
      refine ⟨c, l6, rfl, l60, by omega, fun r => ?_⟩
      walk_at "wx"
      intro l7 l70 l71
      refine ⟨r, l7, rfl, l70, by omega, fun r2 => ?_⟩
      walk_at "wx"
      exact ⟨h0, Qb _⟩
theorem sc__law_entry : FnScope ["title", "payload", "head"] ["title", "payload"] (defScope (top 42)) := ⟨rfl, rfl, rfl, by decide +kernel, rfl, by decide +kernel, by decide +kernel⟩
theorem ok__law_entry {P : Program} {w : World} {K : PySem.W.Frag} {mg : Str → Option Value} {base : Heap} (T : Txt K mg) (C : Cn K mg) (Z : Ec K mg) (bk : Bk K mg) (D__law_signs : Dn P w K mg base 1 "_law_signs" ["title"] F__law_signs) (D__law_number : Dn P w K mg base 1 "_law_number" ["number", "many"] F__law_number) (D__law_sum : Dn P w K mg base 1 "_law_sum" ["octets"] F__law_sum) {f : Addr} {fd : FuncData} (U : Fun K "_law_entry" "_law_entry" (top 42) f fd) (dr : Option Addr) :
    FnG P w K mg base 2 f fd ["title", "payload"] (SpD K dr [false, false] F__law_entry) := by
  refine fnd_of (k := 1) U sc__law_entry rfl (fun cdv A callers s0 H E G0 hr hga =>
    (sd_cons (sd_set 2 sc__law_entry.nd (pd_add (pd_lst (ad_cons pd_int (ad_cons pd_int (ad_cons pd_int (ad_cons (pd_bt bt_len T.len (ad_cons (pd_var 0 (pv 0)) ad_nil)) ad_nil))))) (pd_cl D__law_signs hr (by decide) hga (ad_cons (pd_var 0 (pv 0)) ad_nil))))
      (sd_one (sd_ret (pd_add (pd_add (pd_add (pd_var 2 (pv 2)) (pd_cl D__law_number hr (by decide) hga (ad_cons (pd_bt bt_len T.len (ad_cons (pd_var 1 (pv 1)) ad_nil)) (ad_cons pd_int ad_nil)))) (pd_cl D__law_number hr (by decide) hga (ad_cons (pd_cl D__law_sum hr (by decide) hga (ad_cons (pd_var 1 (pv 1)) ad_nil)) (ad_cons pd_int ad_nil)))) (pd_var 1 (pv 1))))))) ?_
  intro ds n Q hl hF
  obtain ⟨⟨z, p⟩, rfl, hok, q⟩ := hF
  have hn := name_len2 hok.1
  have hp := hok.2.2
  have lz : (oc (codes z)).length = z.length := by rw [List.length_map, codes_len]
  have ln3 : ∀ v, (oc (numO 3 v)).length = 3 := fun v => by rw [List.length_map, numO_len]
  have ln4 : ∀ v, (oc (numO 4 v)).length = 4 := fun v => by rw [List.length_map, numO_len]
  simp only at hn hp
  have lp : (oc p).length = p.length := List.length_map ..
  walk_at "wx"
  refine ⟨line_of (Nat.le_trans hn.2 (by decide)), line_of (by decide), z, rfl, hok.1, ?_⟩
  walk_at "wx"
  rw [lp]
  refine ⟨line_of (by simp only [List.length_append, List.length_cons, List.length_nil, lz, ln3, ln4, lp] <;> omega), _, 3, rfl, by decide, ?_⟩
  walk_at "wx"
  refine ⟨line_of (by simp only [List.length_append, List.length_cons, List.length_nil, lz, ln3, ln4, lp] <;> omega), p, rfl, hok.2.1, ?_⟩
  walk_at "wx"
  refine ⟨_, 4, rfl, by decide, ?_⟩
  walk_at "wx"
  have e : [D.int 66, .int 80, .int 69, .int (z.length : Int)] ++ oc (codes z) ++ oc (numO 3 (p.length : Int)) ++ oc (numO 4 (chk 7 p)) ++ oc p = oc (entE (z, p)) := by
    unfold entE ent oc
    simp
  rw [e]
  exact ⟨line_of (by simp only [List.length_append, List.length_cons, List.length_nil, lz, ln3, ln4, lp] <;> omega), line_of (by simp only [List.length_append, List.length_cons, List.length_nil, lz, ln3, ln4, lp] <;> omega), q⟩
theorem sc__law_row : FnScope ["title", "at", "payload", "head"] ["title", "at", "payload"] (defScope (top 43)) := ⟨rfl, rfl, rfl, by decide +kernel, rfl, by decide +kernel, by decide +kernel⟩
theorem ok__law_row {P : Program} {w : World} {K : PySem.W.Frag} {mg : Str → Option Value} {base : Heap} (T : Txt K mg) (C : Cn K mg) (Z : Ec K mg) (bk : Bk K mg) (D__law_number : Dn P w K mg base 1 "_law_number" ["number", "many"] F__law_number) (D__law_signs : Dn P w K mg base 1 "_law_signs" ["title"] F__law_signs) (D__law_sum : Dn P w K mg base 1 "_law_sum" ["octets"] F__law_sum) {f : Addr} {fd : FuncData} (U : Fun K "_law_row" "_law_row" (top 43) f fd) (dr : Option Addr) :
    FnG P w K mg base 2 f fd ["title", "at", "payload"] (SpD K dr [false, false, false] F__law_row) := by
  refine fnd_of (k := 1) U sc__law_row rfl (fun cdv A callers s0 H E G0 hr hga =>
    (sd_cons (sd_set 3 sc__law_row.nd (pd_add (pd_add (pd_lst (ad_cons (pd_bt bt_len T.len (ad_cons (pd_var 0 (pv 0)) ad_nil)) ad_nil)) (pd_cl D__law_signs hr (by decide) hga (ad_cons (pd_var 0 (pv 0)) ad_nil))) (pd_cl D__law_number hr (by decide) hga (ad_cons (pd_var 1 (pv 1)) (ad_cons pd_int ad_nil)))))
      (sd_one (sd_ret (pd_add (pd_add (pd_var 3 (pv 3)) (pd_cl D__law_number hr (by decide) hga (ad_cons (pd_bt bt_len T.len (ad_cons (pd_var 2 (pv 2)) ad_nil)) (ad_cons pd_int ad_nil)))) (pd_cl D__law_number hr (by decide) hga (ad_cons (pd_cl D__law_sum hr (by decide) hga (ad_cons (pd_var 2 (pv 2)) ad_nil)) (ad_cons pd_int ad_nil)))))))) ?_
  intro ds n Q hl hF
  obtain ⟨⟨z, p⟩, a, rfl, hok, q⟩ := hF
  have hn := name_len2 hok.1
  have hp := hok.2.2
  have lz : (oc (codes z)).length = z.length := by rw [List.length_map, codes_len]
  have ln3 : ∀ v, (oc (numO 3 v)).length = 3 := fun v => by rw [List.length_map, numO_len]
  have ln4 : ∀ v, (oc (numO 4 v)).length = 4 := fun v => by rw [List.length_map, numO_len]
  simp only at hn hp
  have lp : (oc p).length = p.length := List.length_map ..
  walk_at "wx"
  refine ⟨line_of (Nat.le_trans hn.2 (by decide)), line_of (by decide), z, rfl, hok.1, ?_⟩
  walk_at "wx"
  refine ⟨line_of (by simp only [List.length_append, List.length_cons, List.length_nil, lz, ln3, ln4, lp] <;> omega), a, 3, rfl, by decide, ?_⟩
  walk_at "wx"
  rw [lp]
  refine ⟨line_of (by simp only [List.length_append, List.length_cons, List.length_nil, lz, ln3, ln4, lp] <;> omega), _, 3, rfl, by decide, ?_⟩
  walk_at "wx"
  refine ⟨line_of (by simp only [List.length_append, List.length_cons, List.length_nil, lz, ln3, ln4, lp] <;> omega), p, rfl, hok.2.1, ?_⟩
  walk_at "wx"
  refine ⟨_, 4, rfl, by decide, ?_⟩
  walk_at "wx"
  have e : [D.int (z.length : Int)] ++ oc (codes z) ++ oc (numO 3 a) ++ oc (numO 3 (p.length : Int)) ++ oc (numO 4 (chk 7 p)) = oc (rowO a (z, p)) := by
    unfold rowO tailR oc
    simp
  rw [e]
  exact ⟨line_of (by simp only [List.length_append, List.length_cons, List.length_nil, lz, ln3, ln4, lp] <;> omega), q⟩
def I_lt (rows : List (List Int)) (a n : Nat) (t : List (List Int)) (s : S) : Prop := ∃ (done : List (List Int)) (x3 : Sl), rows = done ++ t ∧ s = ⟨[.val (.lst (rows.map fun r => .lst (oc r))), .val (.int (a : Int)), .val (.lst (oc (dirH rows.length ++ done.flatten))), x3, .emp], n⟩
theorem flat_len : ∀ (rs : List (List Int)), (∀ r ∈ rs, r.length ≤ 51) → rs.flatten.length ≤ 51 * rs.length
  | [], _ => by simp
  | r :: t, h => by
    have a := h r List.mem_cons_self
    have b := flat_len t fun x m => h x (List.mem_cons_of_mem _ m)
    rw [List.flatten_cons, List.length_append, List.length_cons]
    omega
theorem sc__law_tail : FnScope ["rows", "at", "directory", "row", "tail"] ["rows", "at"] (defScope (top 44)) := ⟨rfl, rfl, rfl, by decide +kernel, rfl, by decide +kernel, by decide +kernel⟩
theorem ok__law_tail {P : Program} {w : World} {K : PySem.W.Frag} {mg : Str → Option Value} {base : Heap} (T : Txt K mg) (C : Cn K mg) (Z : Ec K mg) (bk : Bk K mg) (D__law_number : Dn P w K mg base 1 "_law_number" ["number", "many"] F__law_number) (D__law_sum : Dn P w K mg base 1 "_law_sum" ["octets"] F__law_sum) {f : Addr} {fd : FuncData} (U : Fun K "_law_tail" "_law_tail" (top 44) f fd) (dr : Option Addr) :
    FnG P w K mg base 2 f fd ["rows", "at"] (SpD K dr [false, false] F__law_tail) := by
  refine fnd_of (k := 1) U sc__law_tail rfl (fun cdv A callers s0 H E G0 hr hga =>
    (sd_cons (sd_set 2 sc__law_tail.nd (pd_add (pd_lst (ad_cons pd_int (ad_cons pd_int (ad_cons pd_int ad_nil)))) (pd_cl D__law_number hr (by decide) hga (ad_cons (pd_bt bt_len T.len (ad_cons (pd_var 0 (pv 0)) ad_nil)) (ad_cons pd_int ad_nil)))))
      (sd_cons (sd_for (id_seq (pd_var 0 (pv 0))) (gd_name 3 sc__law_tail.nd) (sd_one (sd_set 2 sc__law_tail.nd (pd_add (pd_var 2 (pv 2)) (pd_var 3 (pv 3))))))
      (sd_cons (sd_set 4 sc__law_tail.nd (pd_add (pd_add (pd_lst (ad_cons pd_int (ad_cons pd_int (ad_cons pd_int ad_nil)))) (pd_cl D__law_number hr (by decide) hga (ad_cons (pd_var 1 (pv 1)) (ad_cons pd_int ad_nil)))) (pd_cl D__law_number hr (by decide) hga (ad_cons (pd_bt bt_len T.len (ad_cons (pd_var 2 (pv 2)) ad_nil)) (ad_cons pd_int ad_nil)))))
      (sd_one (sd_ret (pd_add (pd_add (pd_var 2 (pv 2)) (pd_var 4 (pv 4))) (pd_cl D__law_number hr (by decide) hga (ad_cons (pd_cl D__law_sum hr (by decide) hga (ad_cons (pd_var 2 (pv 2)) ad_nil)) (ad_cons pd_int ad_nil)))))))))) ?_
  intro ds n Q hl hF
  obtain ⟨rows, a, rfl, hm, hr, q⟩ := hF
  have lr : (rows.map fun r => D.lst (oc r)).length = rows.length := List.length_map ..
  have ln2 : ∀ v, (oc (numO 2 v)).length = 2 := fun v => by rw [List.length_map, numO_len]
  have ln3 : ∀ v, (oc (numO 3 v)).length = 3 := fun v => by rw [List.length_map, numO_len]
  have ln4 : ∀ v, (oc (numO 4 v)).length = 4 := fun v => by rw [List.length_map, numO_len]
  walk_at "wx"
  rw [lr]
  refine ⟨line_of (by decide), _, 2, rfl, by decide, ?_⟩
  walk_at "wx"
  have e0 : [D.int 66, D.int 80, D.int 68] ++ oc (numO 2 (rows.length : Int)) = oc (dirH rows.length ++ ([] : List (List Int)).flatten) := by
    unfold dirH oc
    simp
  rw [e0, ln2]
  have ld : (dirH rows.length).length = 5 := by
    unfold dirH
    rw [List.length_append, numO_len]
    rfl
  refine ⟨line_of (by decide), forW_ty (I := I_lt rows a n) _ _ ⟨[], .emp, rfl, rfl⟩ (fun r t s1 _ hI => ?_) (fun s1 hI => ?_)⟩
  · obtain ⟨done, x3, er, rfl⟩ := hI
    walk_at "wx"
    have hf : (done ++ [r]).flatten.length ≤ 51 * (done ++ [r]).length := flat_len _ fun x m => (hr x (by
      rw [er]
      rcases List.mem_append.mp m with m | m
      · exact List.mem_append_left _ m
      · simp at m
        subst m
        simp)).1
    have hl2 : rows.length = done.length + (t.length + 1) := by rw [er]; simp
    rw [List.length_append] at hf
    have e1 : oc (dirH rows.length ++ done.flatten) ++ oc r = oc (dirH rows.length ++ (done ++ [r]).flatten) := by
      unfold oc
      simp
    have l1 : (oc (dirH rows.length ++ done.flatten)).length + (oc r).length = 5 + (done ++ [r]).flatten.length := by
      rw [List.length_map, List.length_map, List.length_append, ld]
      simp
      omega
    rw [l1, e1]
    refine ⟨line_of (by simp only [List.length_cons, List.length_nil] at hf; omega), done ++ [r], _, by rw [er]; simp, rfl⟩
  · obtain ⟨done, x3, er, rfl⟩ := hI
    rw [List.append_nil] at er
    subst er
    have hf := flat_len rows fun r m => (hr r m).1
    have hdl : (oc (dirH rows.length ++ rows.flatten)).length = (dirH rows.length ++ rows.flatten).length := List.length_map ..
    have hdo : ∀ o ∈ dirH rows.length ++ rows.flatten, oct o := fun o m => by
      rcases List.mem_append.mp m with m | m
      · exact dirH_oct _ o m
      · obtain ⟨r, mr, mo⟩ := List.mem_flatten.mp m
        exact (hr r mr).2 o mo
    have hdz : (dirH rows.length ++ rows.flatten).length ≤ 5105 := by
      rw [List.length_append, ld]
      omega
    generalize dirH rows.length ++ rows.flatten = d at *
    walk_at "wx"
    refine ⟨line_of (by decide), _, 3, rfl, by decide, ?_⟩
    walk_at "wx"
    rw [hdl]
    refine ⟨line_of (by simp only [List.length_append, List.length_cons, List.length_nil, ln3, ln4, hdl] <;> omega), _, 3, rfl, by decide, ?_⟩
    walk_at "wx"
    refine ⟨line_of (by simp only [List.length_append, List.length_cons, List.length_nil, ln3, ln4, hdl] <;> omega), line_of (by simp only [List.length_append, List.length_cons, List.length_nil, ln3, ln4, hdl] <;> omega), d, rfl, hdo, ?_⟩
    walk_at "wx"
    refine ⟨_, 4, rfl, by decide, ?_⟩
    walk_at "wx"
    have e : oc d ++ ([D.int 66, .int 80, .int 90] ++ oc (numO 3 (a : Int)) ++ oc (numO 3 (d.length : Int))) ++ oc (numO 4 (chk 7 d)) = oc (d ++ ([66, 80, 90] ++ (numO 3 a ++ numO 3 d.length) ++ numO 4 (chk 7 d))) := by
      unfold oc
      simp
    rw [e]
    exact ⟨line_of (by simp only [List.length_append, List.length_cons, List.length_nil, ln3, ln4, hdl] <;> omega), q⟩
theorem sc_name_at : FnScope ["octets", "at", "name"] ["octets", "at"] (defScope (top 23)) := ⟨rfl, rfl, rfl, by decide +kernel, rfl, by decide +kernel, by decide +kernel⟩
theorem ok_name_at {P : Program} {w : World} {K : PySem.W.Frag} {mg : Str → Option Value} {base : Heap} (T : Txt K mg) (C : Cn K mg) (Z : Ec K mg) (bk : Bk K mg) (D_text_of : Dn P w K mg base 2 "text_of" ["octets"] F_text_of) (D_is_entry_name : Dn P w K mg base 1 "is_entry_name" ["value"] F_is_entry_name) {f : Addr} {fd : FuncData} (U : Fun K "name_at" "name_at" (top 23) f fd) (dr : Option Addr) :
    FnG P w K mg base 3 f fd ["octets", "at"] (SpD K dr [false, false] F_name_at) := by
  refine fnd_of (k := 2) U sc_name_at rfl (fun cdv A callers s0 H E G0 hr hga =>
    (sd_cons (sd_if (td_cmp cm_ge (pd_var 1 (pv 1)) (pd_bt bt_len T.len (ad_cons (pd_var 0 (pv 0)) ad_nil))) (sd_one (sd_ret pd_non)) sd_nil)
      (sd_cons (sd_set 2 sc_name_at.nd (pd_cl D_text_of hr (by decide) hga (ad_cons (pd_sl (pd_var 0 (pv 0)) (od_some (pd_add (pd_var 1 (pv 1)) pd_int)) (od_some (pd_add (pd_add (pd_var 1 (pv 1)) pd_int) (pd_ix (pd_var 0 (pv 0)) (pd_var 1 (pv 1)))))) ad_nil)))
      (sd_one (sd_ret (pd_ifExp (PW.pt (wd_and (td_cmp (cm_eq hr) (pd_bt bt_len T.len (ad_cons (pd_var 2 (pv 2)) ad_nil)) (pd_ix (pd_var 0 (pv 0)) (pd_var 1 (pv 1)))) (wd_and1 (td_val (pd_cl D_is_entry_name hr (by decide) hga (ad_cons (pd_var 2 (pv 2)) ad_nil)))))) (pd_var 2 (pv 2)) pd_non)))))) ?_
  intro ds n Q hl hF
  obtain ⟨os, k, rfl, ho, hz, q⟩ := hF
  walk_at "wx"
  have hlen : (oc os).length = os.length := List.length_map ..
  rw [hlen]
  by_cases h1 : k < os.length
  · rw [if_neg (by omega)]
    obtain ⟨x, hx⟩ : ∃ x, os[k]? = some x := ⟨os[k], List.getElem?_eq_getElem h1⟩
    have hx2 : atI (oc os) (k : Int) = some (.int x) := by rw [DI.atI_nat, List.getElem?_map, hx]; rfl
    rw [hx2]
    walk_at "wx"
    rw [cutL_map]
    refine ⟨_, cutL os (some ((k : Int) + 1)) (some ((k : Int) + 1 + x)), rfl, rfl, fun o m => ho o (cutL_mem m), by have := cutL_len os (some ((k : Int) + 1)) (some ((k : Int) + 1 + x)); omega, ?_⟩
    walk_at "wx"
    have hn : nmAt os k = if ((txt (cutL os (some ((k : Int) + 1)) (some ((k : Int) + 1 + x)))).length : Int) = x ∧ isName (txt (cutL os (some ((k : Int) + 1)) (some ((k : Int) + 1 + x)))) = true then some (txt (cutL os (some ((k : Int) + 1)) (some ((k : Int) + 1 + x)))) else none := by
      unfold nmAt
      rw [hx]
    have hl2 : (txt (cutL os (some ((k : Int) + 1)) (some ((k : Int) + 1 + x)))).length ≤ 15000000 := by
      rw [txt_len]
      have := cutL_len os (some ((k : Int) + 1)) (some ((k : Int) + 1 + x))
      omega
    rw [hn] at q
    generalize txt (cutL os (some ((k : Int) + 1)) (some ((k : Int) + 1 + x))) = z at *
    refine ⟨line_of (by omega), ?_⟩
    rw [hx2]
    walk_at "wx"
    by_cases h2 : (z.length : Int) = x
    · rw [if_pos h2]
      refine ⟨_, rfl, ⟨"str", rfl⟩, fun y e => by cases e; omega, ?_⟩
      walk_at "wx"
      by_cases h3 : isName z = true
      · rw [if_pos ⟨h2, h3⟩] at q
        rw [show isNameD (.str z) = isName z from rfl, if_pos h3]
        exact q
      · rw [if_neg (fun c => h3 c.2)] at q
        rw [show isNameD (.str z) = isName z from rfl, if_neg h3]
        exact q
    · rw [if_neg h2]
      rw [if_neg (fun c => h2 c.1)] at q
      exact q
  · rw [if_pos (by omega)]
    have hn : nmAt os k = none := by
      unfold nmAt
      rw [List.getElem?_eq_none (by omega)]
    rw [hn] at q
    exact q
def rowsL : Nat → List Pr → List (List Int)
  | _, [] => []
  | a, e :: t => rowO a e :: rowsL (a + (entE e).length) t
theorem rowsL_flat : ∀ (ps : List Pr) (a : Nat), (rowsL a ps).flatten = rowsO a ps
  | [], _ => rfl
  | e :: t, a => by
    show (rowO a e :: rowsL _ t).flatten = rowO a e ++ rowsO _ t
    rw [List.flatten_cons, rowsL_flat t]
theorem rowsL_len : ∀ (ps : List Pr) (a : Nat), (rowsL a ps).length = ps.length
  | [], _ => rfl
  | e :: t, a => by
    show (rowsL _ t).length + 1 = t.length + 1
    rw [rowsL_len t]
theorem rowsL_app : ∀ (xs : List Pr) (e : Pr) (a : Nat), rowsL a (xs ++ [e]) = rowsL a xs ++ [rowO ((a + (body xs).length : Nat) : Int) e]
  | [], e, a => by simp [rowsL, body]
  | x :: t, e, a => by
    show rowO a x :: rowsL _ (t ++ [e]) = rowO a x :: rowsL _ t ++ [_]
    rw [rowsL_app t e, body_cons, List.length_append, Nat.add_assoc]
    rfl
theorem rowsL_ok : ∀ (ps : List Pr) (a : Nat), (∀ e ∈ ps, okPr e) → ∀ r ∈ rowsL a ps, r.length ≤ 51 ∧ ∀ o ∈ r, oct o
  | [], _, _, r, m => by cases m
  | e :: t, a, h, r, m => by
    rcases List.mem_cons.mp m with rfl | m
    · have := name_len2 (h e List.mem_cons_self).1
      exact ⟨by rw [row_len]; omega, row_oct _ (h e List.mem_cons_self)⟩
    · exact rowsL_ok t _ (fun x m => h x (List.mem_cons_of_mem _ m)) r m
def I_la (ps : List Pr) (n : Nat) (t : List Pr) (s : S) : Prop := ∃ (done : List Pr) (x1 x3 x4 : Sl), ps = done ++ t ∧ (x1 = .own (oc (body done)) ∨ x1 = .val (.lst (oc (body done)))) ∧ s = ⟨[.val (.lst (ps.map zlD)), x1, .own ((rowsL 0 done).map fun r => .lst (oc r)), x3, x4], n⟩
theorem sc__law_archive : FnScope ["pairs", "found", "rows", "title", "payload"] ["pairs"] (defScope (top 45)) := ⟨rfl, rfl, rfl, by decide +kernel, rfl, by decide +kernel, by decide +kernel⟩
theorem ok__law_archive {P : Program} {w : World} {K : PySem.W.Frag} {mg : Str → Option Value} {base : Heap} (T : Txt K mg) (C : Cn K mg) (Z : Ec K mg) (bk : Bk K mg) (D__law_tail : Dn P w K mg base 2 "_law_tail" ["rows", "at"] F__law_tail) (D__law_row : Dn P w K mg base 2 "_law_row" ["title", "at", "payload"] F__law_row) (D__law_entry : Dn P w K mg base 2 "_law_entry" ["title", "payload"] F__law_entry) {f : Addr} {fd : FuncData} (U : Fun K "_law_archive" "_law_archive" (top 45) f fd) (dr : Option Addr) :
    FnG P w K mg base 3 f fd ["pairs"] (SpD K dr [false] F__law_archive) := by
  refine fnd_of (k := 2) U sc__law_archive rfl (fun cdv A callers s0 H E G0 hr hga =>
    (sd_cons (sd_parO 1 2 sc__law_archive.nd)
      (sd_cons (sd_for (id_seq (pd_var 0 (pv 0))) (gd_tup (n := 2) (gds_cons (gd_name 3 sc__law_archive.nd) (gds_cons (gd_name 4 sc__law_archive.nd) gds_nil))) (sd_cons (sd_app 2 (pv 2) (pd_cl D__law_row hr (by decide) hga (ad_cons (pd_var 3 (pv 3)) (ad_cons (pd_bt bt_len T.len (ad_cons (pd_var 1 (pv 1)) ad_nil)) (ad_cons (pd_var 4 (pv 4)) ad_nil)))))
      (sd_one (sd_set 1 sc__law_archive.nd (pd_add (pd_var 1 (pv 1)) (pd_cl D__law_entry hr (by decide) hga (ad_cons (pd_var 3 (pv 3)) (ad_cons (pd_var 4 (pv 4)) ad_nil))))))))
      (sd_one (sd_ret (pd_add (pd_var 1 (pv 1)) (pd_cl D__law_tail hr (by decide) hga (ad_cons (pd_var 2 (pv 2)) (ad_cons (pd_bt bt_len T.len (ad_cons (pd_var 1 (pv 1)) ad_nil)) ad_nil))))))))) ?_
  intro ds n Q hl hF
  obtain ⟨ps, rfl, hg, hz, q⟩ := hF
  have hm := hg.many
  have hal : (arch ps).length = (body ps).length + (dirO ps).length + 13 := by
    unfold arch
    rw [List.length_append, List.length_append, endO_len]
  walk_at "wx"
  refine forW_ty (I := I_la ps n) (inj := zlD) ps _ ⟨[], .own [], .emp, .emp, rfl, .inl rfl, rfl⟩ (fun e t s1 _ hI => ?_) (fun s1 hI => ?_)
  · obtain ⟨done, x1, x3, x4, ep, hx1, rfl⟩ := hI
    obtain ⟨z, p⟩ := e
    have hok : okPr (z, p) := hg.all _ (by rw [ep]; simp)
    have lb : (oc (body done)).length = (body done).length := List.length_map ..
    rw [show zlD (z, p) = .tup [.str z, .lst (oc p)] from rfl]
    have hbz : (body done).length + (entE (z, p)).length ≤ 15000000 := by
      have e : body ps = body done ++ entE (z, p) ++ body t := by rw [ep, body_app, body_cons, List.append_assoc]
      have : (body ps).length = (body done).length + (entE (z, p)).length + (body t).length := by rw [e, List.length_append, List.length_append]
      omega
    have hdl : done.length ≤ 100 := by
      have : ps.length = done.length + (t.length + 1) := by rw [ep]; simp
      omega
    have er : (rowsL 0 done).map (fun r => D.lst (oc r)) ++ [.lst (oc (rowO ((body done).length : Int) (z, p)))] = (rowsL 0 (done ++ [(z, p)])).map fun r => .lst (oc r) := by
      rw [rowsL_app, List.map_append, Nat.zero_add]
      rfl
    have eb : oc (body done) ++ oc (entE (z, p)) = oc (body (done ++ [(z, p)])) := by
      rw [body_app, body_one]
      unfold oc
      rw [List.map_append]
    have le : (oc (entE (z, p))).length = (entE (z, p)).length := List.length_map ..
    have lr : ((rowsL 0 done).map fun r => D.lst (oc r)).length = done.length := by rw [List.length_map, rowsL_len]
    rcases hx1 with rfl | rfl
    all_goals
      walk_at "wx"
      rw [lb]
      refine ⟨(z, p), _, rfl, hok, ?_⟩
      walk_at "wx"
      rw [lr, er]
      refine ⟨line_lt (by omega), (z, p), rfl, hok, ?_⟩
      walk_at "wx"
      rw [lb, le, eb]
      exact ⟨line_of (by omega), done ++ [(z, p)], _, _, _, by rw [ep]; simp, .inr rfl, rfl⟩
  · obtain ⟨done, x1, x3, x4, ep, hx1, rfl⟩ := hI
    rw [List.append_nil] at ep
    subst ep
    have lb : (oc (body ps)).length = (body ps).length := List.length_map ..
    have lr : ((rowsL 0 ps).map fun r => D.lst (oc r)).length = ps.length := by rw [List.length_map, rowsL_len]
    rcases hx1 with rfl | rfl
    all_goals
      walk_at "wx"
      rw [lb]
      refine ⟨rowsL 0 ps, (body ps).length, rfl, by rw [rowsL_len]; exact hm, rowsL_ok ps 0 hg.all, ?_⟩
      rw [rowsL_len, rowsL_flat]
      walk_at "wx"
      have ee : dirH ps.length ++ rowsO 0 ps ++ ([66, 80, 90] ++ (numO 3 ((body ps).length : Int) ++ numO 3 ((dirH ps.length ++ rowsO 0 ps).length : Int)) ++ numO 4 (chk 7 (dirH ps.length ++ rowsO 0 ps))) = dirO ps ++ endO (body ps) (dirO ps) := rfl
      have ea : oc (body ps) ++ oc (dirO ps ++ endO (body ps) (dirO ps)) = oc (arch ps) := by
        unfold arch oc
        rw [List.append_assoc, ← List.map_append]
      have ll : (oc (dirO ps ++ endO (body ps) (dirO ps))).length = (dirO ps).length + 13 := by rw [List.length_map, List.length_append, endO_len]
      rw [ee, ea, ll, lb]
      exact ⟨line_of (by omega), q⟩
theorem sc__law_drawn_payload : FnScope ["draw", "most", "some", "turn"] ["draw", "most"] (defScope (top 47)) := ⟨rfl, rfl, rfl, by decide +kernel, rfl, by decide +kernel, by decide +kernel⟩
theorem ok__law_drawn_payload {P : Program} {w : World} {K : PySem.W.Frag} {mg : Str → Option Value} {base : Heap} (T : Txt K mg) (C : Cn K mg) (Z : Ec K mg) (bk : Bk K mg) (D__law_next : Dn P w K mg base 2 "_law_next" ["draw", "bound"] F__law_next) {f : Addr} {fd : FuncData} (U : Fun K "_law_drawn_payload" "_law_drawn_payload" (top 47) f fd) (dr : Option Addr) :
    FnG P w K mg base 3 f fd ["draw", "most"] (SpD K dr [false, false] F__law_drawn_payload) := by
  refine fnd_of (k := 2) U sc__law_drawn_payload rfl (fun cdv A callers s0 H E G0 hr hga =>
    (sd_cons (sd_set 2 sc__law_drawn_payload.nd (pd_lst (ad_cons pd_int (ad_cons pd_int (ad_cons pd_int (ad_cons pd_int (ad_cons pd_int (ad_cons pd_int (ad_cons pd_int (ad_cons pd_int (ad_cons pd_int (ad_cons pd_int ad_nil))))))))))))
      (sd_one (sd_ret (pd_ofL (ld_lc (own := [("turn", 3)]) sc__law_drawn_payload.nd (id_range1 (ad_cons (pd_cl D__law_next hr (by decide) hga (ad_cons (pd_var 0 (pv 0)) (ad_cons (pd_add (pd_var 1 (pv 1)) pd_int) ad_nil))) ad_nil) T.range) (lct_name) (by change blkC ["draw", "most", "some", "turn"] (defScope (top 47)) _ _ = true; decide +kernel) (fun _ _ _ _ _ => pg_name (i := 3) sc__law_drawn_payload.nd rfl (.inl rfl)) (fun _ _ _ _ _ _ _ => (pts_yes)) (fun _ _ _ _ _ _ _ => (pd_ix (pd_var 2 (pv 2)) (pd_cl D__law_next hr (by decide) hga (ad_cons (pd_var 0 (pv 0)) (ad_cons pd_int ad_nil))))))))))) ?_
  intro ds n Q hl hF
  obtain ⟨most, rfl, hm, hn, q⟩ := hF
  walk_at "wx"
  refine ⟨line_of (by decide), next_of (by omega) (by omega) (by omega) fun r r0 r1 => ?_⟩
  walk_at "wx"
  refine ⟨r, rfl, by omega, by omega, ?_⟩
  refine lcGo_draw (R := fun y => ∃ o : Int, y = .int o ∧ o ∈ al10) (c := 2) (N := n + 300000) _ _ _ (fun d _ m hm P hP => ?_) ?_ ?_ fun ys m e1 e2 e3 e4 => ?_
  · walk_at "wx"
    refine next_of (by omega) (by decide) (by decide) fun r r0 r1 => ?_
    walk_at "wx"
    refine pick_of (P := fun x => ∃ o : Int, x = .int o ∧ o ∈ al10) r0 (by simp; omega) (fun x m => ?_) fun x hx => ?_
    · refine okAl x ?_
      simpa [oc, al10] using m
    · walk_at "wx"
      exact hP _ _ hx (by simp) (by simp)
  · rw [rng_len]
    exact line_of (by simp only [List.length_nil]; omega)
  · rw [rng_len]
    omega
  · rw [rng_len] at e1 e4
    obtain ⟨ns, rfl, hns⟩ := intsOf ys e2
    rw [List.length_map] at e1
    walk_at "wx"
    exact q ns m hns (by omega) (by omega) (by omega)
theorem sc__head_at : FnScope ["data", "offset", "name", "at", "begin", "size"] ["data", "offset"] (defScope (top 26)) := ⟨rfl, rfl, rfl, by decide +kernel, rfl, by decide +kernel, by decide +kernel⟩
theorem ok__head_at {P : Program} {w : World} {K : PySem.W.Frag} {mg : Str → Option Value} {base : Heap} (T : Txt K mg) (C : Cn K mg) (Z : Ec K mg) (bk : Bk K mg) (D_name_at : Dn P w K mg base 3 "name_at" ["octets", "at"] F_name_at) (D_number_of : Dn P w K mg base 1 "number_of" ["octets"] F_number_of) {f : Addr} {fd : FuncData} (U : Fun K "_head_at" "_head_at" (top 26) f fd) (dr : Option Addr) :
    FnG P w K mg base 4 f fd ["data", "offset"] (SpD K dr [false, false] F__head_at) := by
  refine fnd_of (k := 3) U sc__head_at rfl (fun cdv A callers s0 H E G0 hr hga =>
    (sd_cons (sd_if (td_cmp (cm_ne hr) (pd_sl (pd_var 0 (pv 0)) (od_some (pd_var 1 (pv 1))) (od_some (pd_add (pd_var 1 (pv 1)) pd_int))) (pd_const C._MARK)) (sd_one (sd_ret pd_non)) sd_nil)
      (sd_cons (sd_set 2 sc__head_at.nd (pd_cl D_name_at hr (by decide) hga (ad_cons (pd_var 0 (pv 0)) (ad_cons (pd_add (pd_var 1 (pv 1)) pd_int) ad_nil))))
      (sd_cons (sd_if (td_cmp cm_isN (pd_var 2 (pv 2)) pd_non) (sd_one (sd_ret pd_non)) sd_nil)
      (sd_cons (sd_set 3 sc__head_at.nd (pd_add (pd_add (pd_var 1 (pv 1)) pd_int) (pd_bt bt_len T.len (ad_cons (pd_var 2 (pv 2)) ad_nil))))
      (sd_cons (sd_set 4 sc__head_at.nd (pd_add (pd_var 3 (pv 3)) pd_int))
      (sd_cons (sd_set 5 sc__head_at.nd (pd_cl D_number_of hr (by decide) hga (ad_cons (pd_sl (pd_var 0 (pv 0)) (od_some (pd_var 3 (pv 3))) (od_some (pd_add (pd_var 3 (pv 3)) pd_int))) ad_nil)))
      (sd_cons (sd_if (PW.pt (wd_or (td_cmp cm_gt (pd_var 5 (pv 5)) (pd_const C.MOST_PAYLOAD)) (wd_or1 (td_cmp cm_gt (pd_add (pd_var 4 (pv 4)) (pd_var 5 (pv 5))) (pd_bt bt_len T.len (ad_cons (pd_var 0 (pv 0)) ad_nil)))))) (sd_one (sd_ret pd_non)) sd_nil)
      (sd_one (sd_ret (pd_tup (ad_cons (pd_var 2 (pv 2)) (ad_cons (pd_var 4 (pv 4)) (ad_cons (pd_add (pd_var 4 (pv 4)) (pd_var 5 (pv 5))) (ad_cons (pd_cl D_number_of hr (by decide) hga (ad_cons (pd_sl (pd_var 0 (pv 0)) (od_some (pd_add (pd_var 3 (pv 3)) pd_int)) (od_some (pd_var 4 (pv 4)))) ad_nil)) ad_nil))))))))))))))) ?_
  intro ds n Q hl hF
  obtain ⟨os, off, rfl, ho, hz, h0, q⟩ := hF
  walk_at "wx"
  have hM : D.tup [D.int 66, D.int 80, D.int 69] = .tup (oc [66, 80, 69]) := rfl
  rw [cutL_map, hM, eqD_tints]
  refine ⟨ceq_tints _ _, ?_⟩
  by_cases h1 : cutL os (some off) (some (off + 3)) = [66, 80, 69]
  · rw [if_neg (by simp [h1])]
    have e3 : off + 3 = (((off + 3).toNat : Nat) : Int) := by omega
    refine ⟨os, (off + 3).toNat, by rw [← e3], ho, hz, ?_⟩
    cases hnm : nmAt os (off + 3).toNat with
    | none =>
      have e : headAt os off = none := by
        unfold headAt
        rw [if_pos h1, hnm]
      rw [hdF_none e] at q
      simp only [optS]
      walk_at "wx"
      exact q
    | some z =>
      have hnl := name_len (nmAt_name hnm)
      simp only [optS]
      walk_at "wx"
      refine ⟨line_of (by omega), ?_⟩
      walk_at "wx"
      refine ⟨_, _, rfl, seq_cut _ _ _, ?_⟩
      walk_at "wx"
      have e : headAt os off = if numb (cutL os (some (off + 4 + z.length)) (some (off + 4 + z.length + 3))) > 150000 ∨ off + 4 + z.length + 7 + numb (cutL os (some (off + 4 + z.length)) (some (off + 4 + z.length + 3))) > os.length then none
          else some ⟨z, off + 4 + z.length + 7, off + 4 + z.length + 7 + numb (cutL os (some (off + 4 + z.length)) (some (off + 4 + z.length + 3))), numb (cutL os (some (off + 4 + z.length + 3)) (some (off + 4 + z.length + 7)))⟩ := by
        unfold headAt
        rw [if_pos h1, hnm]
      unfold hdF at q
      rw [e] at q
      have hlen : (oc os).length = os.length := List.length_map ..
      rw [hlen]
      by_cases h2 : numb (cutL os (some (off + 4 + z.length)) (some (off + 4 + z.length + 3))) > 150000
      · rw [if_pos h2]
        rw [if_pos (.inl h2)] at q
        exact q
      · rw [if_neg h2]
        by_cases h3 : off + 4 + z.length + 7 + numb (cutL os (some (off + 4 + z.length)) (some (off + 4 + z.length + 3))) > os.length
        · rw [if_pos h3]
          rw [if_pos (.inr h3)] at q
          exact q
        · rw [if_neg h3]
          rw [if_neg (fun c => c.elim h2 h3)] at q
          refine ⟨_, _, rfl, seq_cut _ _ _, ?_⟩
          walk_at "wx"
          exact ⟨line_of (by decide), q⟩
  · rw [if_pos (by simp [h1])]
    have e : headAt os off = none := by
      unfold headAt
      rw [if_neg h1]
    rw [hdF_none e] at q
    exact q
theorem sc_sound_entries : FnScope ["data", "offsets", "heads", "offset", "head", "sums", "name", "begin", "end", "check"] ["data", "offsets"] (defScope (top 25)) := ⟨rfl, rfl, rfl, by decide +kernel, rfl, by decide +kernel, by decide +kernel⟩
theorem ok_sound_entries {P : Program} {w : World} {K : PySem.W.Frag} {mg : Str → Option Value} {base : Heap} (T : Txt K mg) (C : Cn K mg) (Z : Ec K mg) (bk : Bk K mg) (D__sums : Dn P w K mg base 2 "_sums" ["data", "heads"] F__sums) (D__head_at : Dn P w K mg base 4 "_head_at" ["data", "offset"] F__head_at) (D__check_between : Dn P w K mg base 2 "_check_between" ["sums", "begin", "end"] F__check_between) {f : Addr} {fd : FuncData} (U : Fun K "sound_entries" "sound_entries" (top 25) f fd) (dr : Option Addr) :
    FnG P w K mg base 5 f fd ["data", "offsets"] (SpD K dr [false, false] F_sound_entries) := by
  refine fnd_of (k := 4) U sc_sound_entries rfl (fun cdv A callers s0 H E G0 hr hga =>
    (sd_cons (sd_dnew 2 sc_sound_entries.nd)
      (sd_cons (sd_for (id_seq (pd_var 1 (pv 1))) (gd_name 3 sc_sound_entries.nd) (sd_cons (sd_set 4 sc_sound_entries.nd (pd_cl D__head_at hr (by decide) hga (ad_cons (pd_var 0 (pv 0)) (ad_cons (pd_var 3 (pv 3)) ad_nil))))
      (sd_one (sd_if (td_cmp cm_notN (pd_var 4 (pv 4)) pd_non) (sd_one (sd_dput hr 2 (pv 2) (pd_var 3 (pv 3)) (pd_var 4 (pv 4)))) sd_nil))))
      (sd_cons (sd_set 5 sc_sound_entries.nd (pd_cl D__sums hr (by decide) hga (ad_cons (pd_var 0 (pv 0)) (ad_cons (pd_var 2 (pv 2)) ad_nil))))
      (sd_one (sd_ret (pd_dc (own := [("offset", 3), ("name", 6), ("begin", 7), ("end", 8), ("check", 9)]) sc_sound_entries.nd (id_items (pd_var 2 (pv 2))) (LcG.t (lcg_tup (n := 2) (lcg_cons (lcg_name (j := 3)) (lcg_cons (lcg_tup (n := 4) (lcg_cons (lcg_name (j := 6)) (lcg_cons (lcg_name (j := 7)) (lcg_cons (lcg_name (j := 8)) (lcg_cons (lcg_name (j := 9)) lcg_nil))))) lcg_nil)))) (by change blkC ["data", "offsets", "heads", "offset", "head", "sums", "name", "begin", "end", "check"] (defScope (top 25)) _ _ = true; decide +kernel) (fun _ _ _ _ _ => (pg_tup (n := 2) rfl (pgs_cons (pg_name (i := 3) sc_sound_entries.nd rfl (.inl rfl)) (pgs_cons (pg_tup (n := 4) rfl (pgs_cons (pg_name (i := 6) sc_sound_entries.nd rfl (.inl rfl)) (pgs_cons (pg_name (i := 7) sc_sound_entries.nd rfl (.inl rfl)) (pgs_cons (pg_name (i := 8) sc_sound_entries.nd rfl (.inl rfl)) (pgs_cons (pg_name (i := 9) sc_sound_entries.nd rfl (.inl rfl)) pgs_nil))))) pgs_nil)))) (fun _ _ _ _ _ _ _ => (pts_of (td_cmp (cm_eq hr) (pd_var 9 (pv 9)) (pd_cl D__check_between hr (by decide) hga (ad_cons (pd_var 5 (pv 5)) (ad_cons (pd_var 7 (pv 7)) (ad_cons (pd_var 8 (pv 8)) ad_nil))))))) (fun _ _ _ _ _ _ _ => (pd_var 3 (pv 3))) (fun _ _ _ _ _ _ _ => (pd_tup (ad_cons (pd_var 6 (pv 6)) (ad_cons (pd_var 7 (pv 7)) (ad_cons (pd_var 8 (pv 8)) ad_nil)))))))))))) ?_
  intro ds n Q hl hF
  obtain ⟨os, offs, rfl, ho, hz, hoff, hlen, q⟩ := hF
  walk_at "wx"
  refine forW_ty (inj := D.int) (fun t s1 => ∃ pre x3 x4, offs = pre ++ t ∧ s1 = ⟨[.val (.tup (oc os)), .val (.lst (oc offs)), .dic (kI (dd (pre.filter (isHd os)))) ((dd (pre.filter (isHd os))).map (hdF os)), x3, x4, .emp, .emp, .emp, .emp, .emp], n⟩) offs _ ⟨[], _, _, rfl, rfl⟩ (fun o t s1 _ hI => ?_) (fun s1 hI => ?_)
  · obtain ⟨pre, x3, x4, epre, rfl⟩ := hI
    have hm : o ∈ offs := by rw [epre]; simp
    walk_at "wx"
    refine ⟨os, o, rfl, ho, hz, hoff o hm, ?_⟩
    walk_at "wx"
    have ef : ∀ b, isHd os o = b → (pre ++ [o]).filter (isHd os) = if b then pre.filter (isHd os) ++ [o] else pre.filter (isHd os) := fun b hb => by
      rw [List.filter_append, List.filter_cons, hb]
      cases b <;> simp
    cases hh : headAt os o with
    | none =>
      have hb : isHd os o = false := by unfold isHd; rw [hh]; rfl
      rw [hdF_none hh]
      walk_at "wx"
      refine ⟨pre ++ [o], .val (.int o), .val .non, by rw [epre, List.append_assoc]; rfl, ?_⟩
      rw [ef _ hb, if_neg Bool.false_ne_true]
    | some h =>
      have hb : isHd os o = true := by unfold isHd; rw [hh]; rfl
      have hf := hdF_some hh
      rw [hf]
      walk_at "wx"
      rw [← hf, putK_kI, put_same (hdF os)]
      have lp : (pre.filter (isHd os)).length ≤ pre.length := List.length_filter_le ..
      have lo : offs.length = pre.length + (t.length + 1) := by rw [epre]; simp
      have ld := dd_len (pre.filter (isHd os))
      refine ⟨line_lt (by unfold kI; rw [List.length_map]; omega), pre ++ [o], .val (.int o), .val (hdF os o), by rw [epre, List.append_assoc]; rfl, ?_⟩
      have e2 : dd ((pre ++ [o]).filter (isHd os)) = addI (dd (pre.filter (isHd os))) o := by
        rw [ef _ hb]
        show List.foldl addI [] (pre.filter (isHd os) ++ [o]) = _
        rw [List.foldl_append]
        rfl
      rw [e2]
  · obtain ⟨pre, x3, x4, epre, rfl⟩ := hI
    have epre2 : pre = offs := by rw [epre]; simp
    subst epre2
    walk_at "wx"
    generalize hns : dd (pre.filter (isHd os)) = ns
    have hmem : ∀ o ∈ ns, o ∈ pre ∧ isHd os o = true := fun o m => by
      rw [← hns, dd_mem, List.mem_filter] at m
      exact m
    have hlen2 : ns.length ≤ 5000000 := by
      have l1 : (pre.filter (isHd os)).length ≤ pre.length := List.length_filter_le ..
      have l2 := dd_len (pre.filter (isHd os))
      rw [hns] at l2
      omega
    obtain ⟨hs, ehs, hsm⟩ : ∃ hs : List Hd, ns.map (hdF os) = hs.map hdD ∧ (∀ h, h ∈ hs ↔ ∃ o ∈ ns, headAt os o = some h) ∧ hs.length = ns.length := by
      clear hns hlen2
      induction ns with
      | nil => exact ⟨[], rfl, fun h => by simp, rfl⟩
      | cons a t ih =>
        obtain ⟨hs, e1, e2, e3⟩ := ih fun o m => hmem o (List.mem_cons_of_mem _ m)
        have hb := (hmem a List.mem_cons_self).2
        unfold isHd at hb
        obtain ⟨h, hh⟩ := Option.isSome_iff_exists.mp hb
        refine ⟨h :: hs, by rw [List.map_cons, List.map_cons, e1, hdF_some hh]; rfl, fun g => ?_, by simp [e3]⟩
        simp only [List.mem_cons, e2]
        constructor
        · rintro (rfl | ⟨o, m, e⟩)
          · exact ⟨a, .inl rfl, hh⟩
          · exact ⟨o, .inr m, e⟩
        · rintro ⟨o, rfl | m, e⟩
          · rw [hh] at e
            cases e
            exact .inl rfl
          · exact .inr ⟨o, m, e⟩
    have hok : ∀ h ∈ hs, okHd os h := fun h m => by
      obtain ⟨o, mo, e⟩ := (hsm.1 h).mp m
      exact headAt_ok ho (hoff o (hmem o mo).1) e
    refine ⟨os, kI ns, hs, by rw [ehs], ho, hz, hok, by rw [hsm.2]; exact hlen2, fun ks' es hg => ?_⟩
    walk_at "wx"
    rw [items_kI]
    have nd : ns.Nodup := by rw [← hns]; exact dd_nodup _
    refine dcGo_nd (inj := fun o => .tup [.int o, hdF os o]) (isSnd os) (sndD os) ns [] n (by simpa using nd) (by simp only [List.length_nil]; exact line_of (by omega)) (fun o mo P hP => ?_) ?_
    · obtain ⟨mp, hb⟩ := hmem o mo
      unfold isHd at hb
      obtain ⟨h, hh⟩ := Option.isSome_iff_exists.mp hb
      have hmh : h ∈ hs := (hsm.1 h).mpr ⟨o, mo, hh⟩
      obtain ⟨k1, k2, k3⟩ := hok h hmh
      obtain ⟨g1, g2⟩ := hg h hmh
      unfold dcOne
      rw [hdF_some hh]
      walk_at "wx"
      refine ⟨ks', es, h.b, h.e, _, _, rfl, g2, g1, k2, ?_⟩
      have eb : h.b = ((h.b.toNat : Nat) : Int) := by omega
      have ee : h.e = ((h.e.toNat : Nat) : Int) := by omega
      have ed : (h.e - h.b).toNat = h.e.toNat - h.b.toNat := by omega
      rw [ed, between_ok h.b.toNat h.e.toNat (by omega) (by omega), ← eb, ← ee]
      walk_at "wx"
      have es : isSnd os o = decide (h.c = chk 7 (cutL os (some h.b) (some h.e))) := by
        unfold isSnd
        rw [hh]
      have ed2 : sndD os o = .tup [.str h.nm, .int h.b, .int h.e] := by
        unfold sndD
        rw [hh]
      rw [es, ed2] at hP
      by_cases hc : h.c = chk 7 (cutL os (some h.b) (some h.e))
      · rw [if_pos hc]
        rw [decide_eq_true hc, if_pos rfl] at hP
        exact ⟨line_of (by decide), hP⟩
      · rw [if_neg hc]
        rw [decide_eq_false hc, if_neg (by simp)] at hP
        exact hP
    · have eq : sndL os pre = ns.filter (isSnd os) := by
        unfold sndL
        rw [hns]
      rw [eq] at q
      simpa using q
theorem sf_head : ∀ (l : List Int) (k j : Nat) (e : Pr) (t : List (Nat × Pr)), sf k l = (j, e) :: t → ∃ d, j = k + d ∧ enAt (l.drop d) = some e ∧ t = sf (j + 1) (l.drop (d + 1)) ∧ ∀ d', d' < d → enAt (l.drop d') = none := by
  intro l
  induction l with
  | nil => intro k j e t h; cases h
  | cons o r ih =>
    intro k j e t h
    cases hn : enAt (o :: r) with
    | none =>
      rw [sf_none hn] at h
      obtain ⟨d, d1, d2, d3, d4⟩ := ih _ _ _ _ h
      refine ⟨d + 1, by omega, d2, d3, fun d' hd => ?_⟩
      cases d' with
      | zero => exact hn
      | succ d' => exact d4 d' (by omega)
    | some f =>
      rw [sf_some hn] at h
      injection h with h1 h2
      injection h1 with h3 h4
      subst h3 h4
      exact ⟨0, rfl, hn, h2.symm, fun d' hd => by omega⟩
theorem sf_empty : ∀ (l : List Int) (k : Nat), sf k l = [] → ∀ i, Ch i l = [] := by
  intro l
  induction l with
  | nil => intro k _ i; exact Ch_nil i
  | cons o r ih =>
    intro k h i
    cases hn : enAt (o :: r) with
    | none =>
      rw [sf_none hn] at h
      rw [Ch_none hn]
      exact ih _ h _
    | some f =>
      rw [sf_some hn] at h
      cases h
theorem Ch_adv : ∀ (d : Nat) (l : List Int) (i : Nat), (∀ d', d' < d → enAt (l.drop d') = none) → Ch i l = Ch (i + d) (l.drop d) := by
  intro d
  induction d with
  | zero => intro l i _; rfl
  | succ d ih =>
    intro l i h
    cases l with
    | nil => rw [List.drop_nil, Ch_nil, Ch_nil]
    | cons o t =>
      rw [Ch_none (h 0 (by omega)), ih t (i + 1) fun d' hd => h (d' + 1) (by omega), show i + 1 + d = i + (d + 1) from by omega]
      rfl
theorem sf_drop_empty : ∀ (m : Nat) (l : List Int) (k : Nat), sf k l = [] → sf (k + m) (l.drop m) = [] := by
  intro m
  induction m with
  | zero => intro l k h; exact h
  | succ m ih =>
    intro l k h
    cases l with
    | nil => rfl
    | cons o t =>
      cases hn : enAt (o :: t) with
      | none =>
        rw [sf_none hn] at h
        have z := ih t (k + 1) h
        rw [show k + (m + 1) = k + 1 + m from by omega]
        exact z
      | some f =>
        rw [sf_some hn] at h
        cases h
def itD (x : Nat × Pr) : D := .tup [.int (x.1 : Int), seD x]
def I_ce (os : List Int) (sd : D) (n : Nat) (rest : List (Nat × Pr)) (s : S) : Prop := ∃ (k f : Nat) (acc : List (Nat × Pr)) (x5 x6 x7 x8 : Sl), rest = sf k (os.drop k) ∧ Ch 0 os = acc ++ Ch (max k f) (os.drop (max k f)) ∧ s = ⟨[.val (.tup (oc os)), .val sd, .val (.lst (oc (tab os))), .own (acc.map choD), .val (.int (f : Int)), x5, x6, x7, x8], n⟩
theorem ch_len : ∀ (m : Nat) (l : List Int) (i : Nat), l.length ≤ m → (Ch i l).length ≤ l.length := by
  intro m
  induction m with
  | zero =>
    intro l i hn
    have e : l = [] := List.length_eq_zero_iff.mp (by omega)
    subst e
    rw [Ch_nil]
    exact Nat.le_refl _
  | succ m ih =>
    intro l i hn
    cases l with
    | nil => rw [Ch_nil]; exact Nat.le_refl _
    | cons o t =>
      simp only [List.length_cons] at hn
      have i1 := ih t (i + 1) (by omega)
      cases h : enAt (o :: t) with
      | none => rw [Ch_none h, List.length_cons]; omega
      | some e =>
        have hp := ent_pos e
        rw [Ch_some h]
        split
        · have i2 := ih ((o :: t).drop (entE e).length) (i + (entE e).length) (by rw [List.length_drop, List.length_cons]; omega)
          rw [List.length_drop] at i2
          simp only [List.length_cons] at *
          omega
        · simp only [List.length_cons]
          omega
theorem sc_chosen_entries : FnScope ["data", "entries", "table", "chosen", "free", "offset", "name", "begin", "end"] ["data"] (defScope (top 32)) := ⟨rfl, rfl, rfl, by decide +kernel, rfl, by decide +kernel, by decide +kernel⟩
theorem ok_chosen_entries {P : Program} {w : World} {K : PySem.W.Frag} {mg : Str → Option Value} {base : Heap} (T : Txt K mg) (C : Cn K mg) (Z : Ec K mg) (bk : Bk K mg) (D_sound_entries : Dn P w K mg base 5 "sound_entries" ["data", "offsets"] F_sound_entries) (D__most_octets : Dn P w K mg base 1 "_most_octets" ["size", "entries"] F__most_octets) (D_marked_offsets : Dn P w K mg base 1 "marked_offsets" ["data"] F_marked_offsets) {f : Addr} {fd : FuncData} (U : Fun K "chosen_entries" "chosen_entries" (top 32) f fd) (dr : Option Addr) :
    FnG P w K mg base 6 f fd ["data"] (SpD K dr [false] F_chosen_entries) := by
  refine fnd_of (k := 5) U sc_chosen_entries rfl (fun cdv A callers s0 H E G0 hr hga =>
    (sd_cons (sd_set 1 sc_chosen_entries.nd (pd_cl D_sound_entries hr (by decide) hga (ad_cons (pd_var 0 (pv 0)) (ad_cons (pd_cl D_marked_offsets hr (by decide) hga (ad_cons (pd_var 0 (pv 0)) ad_nil)) ad_nil))))
      (sd_cons (sd_set 2 sc_chosen_entries.nd (pd_cl D__most_octets hr (by decide) hga (ad_cons (pd_bt bt_len T.len (ad_cons (pd_var 0 (pv 0)) ad_nil)) (ad_cons (pd_var 1 (pv 1)) ad_nil))))
      (sd_cons (sd_own 3 sc_chosen_entries.nd (ld_lst ad_nil))
      (sd_cons (sd_set 4 sc_chosen_entries.nd pd_int)
      (sd_cons (sd_for (id_items (pd_var 1 (pv 1))) (gd_tup (n := 2) (gds_cons (gd_name 5 sc_chosen_entries.nd) (gds_cons (gd_tup (n := 3) (gds_cons (gd_name 6 sc_chosen_entries.nd) (gds_cons (gd_name 7 sc_chosen_entries.nd) (gds_cons (gd_name 8 sc_chosen_entries.nd) gds_nil)))) gds_nil))) (sd_one (sd_if (PW.pt (wd_and (td_cmp cm_ge (pd_var 5 (pv 5)) (pd_var 4 (pv 4))) (wd_and1 (td_cmp (cm_eq hr) (pd_ix (pd_var 2 (pv 2)) (pd_var 5 (pv 5))) (pd_add (pd_sub (pd_var 8 (pv 8)) (pd_var 5 (pv 5))) (pd_ix (pd_var 2 (pv 2)) (pd_var 8 (pv 8)))))))) (sd_cons (sd_app 3 (pv 3) (pd_tup (ad_cons (pd_var 5 (pv 5)) (ad_cons (pd_var 6 (pv 6)) (ad_cons (pd_sl (pd_var 0 (pv 0)) (od_some (pd_var 7 (pv 7))) (od_some (pd_var 8 (pv 8)))) ad_nil)))))
      (sd_one (sd_set 4 sc_chosen_entries.nd (pd_var 8 (pv 8))))) sd_nil)))
      (sd_one (sd_ret (pd_bt bt_tuple T.tuple (ad_bor 3 (pv 3) ad_nil)))))))))) ?_
  intro ds n Q hl hF
  obtain ⟨os, rfl, ho, hz, q⟩ := hF
  have hlen : (oc os).length = os.length := List.length_map ..
  walk_at "wx"
  refine ⟨os, rfl, hz, ?_⟩
  walk_at "wx"
  refine ⟨os, marks os, rfl, ho, by omega, fun o m => ?_, ?_, ?_⟩
  · unfold marks at m
    obtain ⟨k, _, rfl⟩ := List.mem_map.mp m
    omega
  · unfold marks
    rw [List.length_map]
    exact Nat.le_trans (List.length_filter_le _ _) (by rw [List.length_range]; omega)
  rw [sndL_marks ho]
  obtain ⟨sd, hsd⟩ : ∃ sd, sd = soundD os := ⟨_, rfl⟩
  rw [show D.dct (kI (sl os)) ((sl os).map (sndD os)) = sd from hsd.symm]
  walk_at "wx"
  rw [hlen]
  refine ⟨os, by rw [hsd], ho, hz, ?_⟩
  walk_at "wx"
  have hit : dctD sd = some (kI (sl os), (sl os).map (sndD os)) := by rw [hsd]; rfl
  rw [hit]
  walk_at "wx"
  rw [sound_items ho]
  have tl : (oc (tab os)).length = os.length + 1 := by unfold oc; rw [List.length_map, tab_len]
  have tg : ∀ k : Nat, k ≤ os.length → atI (oc (tab os)) (k : Int) = some (.int (R (os.drop k) : Int)) := fun k hk => by
    rw [DI.atI_nat]
    unfold oc
    rw [List.getElem?_map, tab_get hk]
    rfl
  have hcl := ch_len os.length os 0 (Nat.le_refl _)
  refine ⟨line_of (by decide), forW_ty (inj := itD) (I_ce os sd n) _ _ ⟨0, 0, [], .emp, .emp, .emp, .emp, rfl, rfl, rfl⟩ (fun x t s1 _ hI => ?_) (fun s1 hI => ?_)⟩
  · obtain ⟨k, f, acc, x5, x6, x7, x8, hr, hc, rfl⟩ := hI
    obtain ⟨j, e⟩ := x
    obtain ⟨d, d1, d2, d3, d4⟩ := sf_head _ _ _ _ _ hr.symm
    rw [List.drop_drop, ← d1] at d2
    rw [List.drop_drop, show k + (d + 1) = j + 1 from by omega] at d3
    have hj := en_lt d2
    have hle := enAt_len (oct_drop ho j) d2
    rw [List.length_drop] at hle
    have ed : os.drop j = os[j] :: os.drop (j + 1) := List.drop_eq_getElem_cons hj
    have cs := Ch_some (by rw [← ed]; exact d2 : enAt (os[j] :: os.drop (j + 1)) = some e) j
    rw [← ed, List.drop_drop] at cs
    rw [show itD (j, e) = .tup [.int (j : Int), .tup [.str e.1, .int ((j + (11 + e.1.length) : Nat) : Int), .int ((j + (entE e).length : Nat) : Int)]] from rfl]
    walk_at "wx"
    by_cases h1 : (j : Int) ≥ (f : Int)
    · rw [if_pos h1, tg j (by omega)]
      walk_at "wx"
      rw [tg (j + (entE e).length) (by omega)]
      walk_at "wx"
      have adv : Ch (max k f) (os.drop (max k f)) = Ch j (os.drop j) := by
        have q := Ch_adv (j - max k f) (os.drop (max k f)) (max k f) fun d' hd => by
          rw [List.drop_drop]
          have z := d4 (max k f + d' - k) (by omega)
          rw [List.drop_drop, show k + (max k f + d' - k) = max k f + d' from by omega] at z
          exact z
        rw [List.drop_drop, show max k f + (j - max k f) = j from by omega] at q
        exact q
      rw [adv, cs] at hc
      by_cases h2 : R (os.drop j) = (entE e).length + R (os.drop (j + (entE e).length))
      · rw [if_pos h2] at hc
        rw [if_pos (by omega)]
        walk_at "wx"
        have hsl : cutL (oc os) (some ((j + (11 + e.1.length) : Nat) : Int)) (some ((j + (entE e).length : Nat) : Int)) = oc e.2 := by
          unfold oc
          rw [cutL_map, ((isSnd_en ho j (Nat.le_of_lt hj)).2 e d2).2]
        rw [hsl]
        have hal : (acc.map choD).length < 16000000 := by
          have q := congrArg List.length hc
          rw [List.length_append, List.length_cons] at q
          rw [List.length_map]
          omega
        refine ⟨line_of (by decide), line_lt hal, ?_⟩
        refine ⟨j + 1, j + (entE e).length, acc ++ [(j, e)], .val (.int (j : Int)), .val (.str e.1), .val (.int ((j + (11 + e.1.length) : Nat) : Int)), .val (.int ((j + (entE e).length : Nat) : Int)), d3, ?_, ?_⟩
        · rw [show max (j + 1) (j + (entE e).length) = j + (entE e).length from by omega, hc, List.append_assoc]
          rfl
        · rw [List.map_append]
          rfl
      · rw [if_neg h2] at hc
        rw [if_neg (by omega)]
        refine ⟨j + 1, f, acc, .val (.int (j : Int)), .val (.str e.1), .val (.int ((j + (11 + e.1.length) : Nat) : Int)), .val (.int ((j + (entE e).length : Nat) : Int)), d3, ?_, rfl⟩
        rw [show max (j + 1) f = j + 1 from by omega]
        exact hc
    · rw [if_neg h1]
      refine ⟨j + 1, f, acc, .val (.int (j : Int)), .val (.str e.1), .val (.int ((j + (11 + e.1.length) : Nat) : Int)), .val (.int ((j + (entE e).length : Nat) : Int)), d3, ?_, rfl⟩
      rw [show max (j + 1) f = max k f from by omega]
      exact hc
  · obtain ⟨k, f, acc, x5, x6, x7, x8, hr, hc, rfl⟩ := hI
    have z := sf_drop_empty (max k f - k) _ _ hr.symm
    rw [List.drop_drop, show k + (max k f - k) = max k f from by omega] at z
    rw [sf_empty _ _ z, List.append_nil] at hc
    rw [hc] at q
    walk_at "wx"
    exact q
theorem sc_remains : FnScope ["data"] ["data"] (defScope (top 33)) := ⟨rfl, rfl, rfl, by decide +kernel, rfl, by decide +kernel, by decide +kernel⟩
theorem ok_remains {P : Program} {w : World} {K : PySem.W.Frag} {mg : Str → Option Value} {base : Heap} (T : Txt K mg) (C : Cn K mg) (Z : Ec K mg) (bk : Bk K mg) (D_require_data : Dn P w K mg base 2 "require_data" ["data"] F_require_data) (D__most_octets : Dn P w K mg base 1 "_most_octets" ["size", "entries"] F__most_octets) (D_sound_entries : Dn P w K mg base 5 "sound_entries" ["data", "offsets"] F_sound_entries) (D_marked_offsets : Dn P w K mg base 1 "marked_offsets" ["data"] F_marked_offsets) {f : Addr} {fd : FuncData} (U : Fun K "remains" "remains" (top 33) f fd) (dr : Option Addr) :
    FnG P w K mg base 6 f fd ["data"] (SpD K dr [false] F_remains) := by
  refine fnd_of (k := 5) U sc_remains rfl (fun cdv A callers s0 H E G0 hr hga =>
    (sd_cons (sd_expr (pd_cl D_require_data hr (by decide) hga (ad_cons (pd_var 0 (pv 0)) ad_nil)))
      (sd_one (sd_ret (pd_bt bt_tuple T.tuple (ad_cons (pd_cl D__most_octets hr (by decide) hga (ad_cons (pd_bt bt_len T.len (ad_cons (pd_var 0 (pv 0)) ad_nil)) (ad_cons (pd_cl D_sound_entries hr (by decide) hga (ad_cons (pd_var 0 (pv 0)) (ad_cons (pd_cl D_marked_offsets hr (by decide) hga (ad_cons (pd_var 0 (pv 0)) ad_nil)) ad_nil))) ad_nil))) ad_nil)))))) ?_
  intro ds n Q hl hF
  obtain ⟨os, rfl, ho, hz, q⟩ := hF
  have hlen : (oc os).length = os.length := List.length_map ..
  walk_at "wx"
  refine ⟨os, rfl, ho, ?_⟩
  walk_at "wx"
  rw [hlen]
  refine ⟨os, rfl, hz, ?_⟩
  walk_at "wx"
  refine ⟨os, marks os, rfl, ho, by omega, fun o m => ?_, ?_, ?_⟩
  · unfold marks at m
    obtain ⟨k, _, rfl⟩ := List.mem_map.mp m
    omega
  · unfold marks
    rw [List.length_map]
    exact Nat.le_trans (List.length_filter_le _ _) (by rw [List.length_range]; omega)
  rw [sndL_marks ho]
  walk_at "wx"
  refine ⟨os, rfl, ho, hz, ?_⟩
  walk_at "wx"
  exact q
theorem sc_salvage : FnScope ["data"] ["data"] (defScope (top 31)) := ⟨rfl, rfl, rfl, by decide +kernel, rfl, by decide +kernel, by decide +kernel⟩
theorem ok_salvage {P : Program} {w : World} {K : PySem.W.Frag} {mg : Str → Option Value} {base : Heap} (T : Txt K mg) (C : Cn K mg) (Z : Ec K mg) (bk : Bk K mg) (D_require_data : Dn P w K mg base 2 "require_data" ["data"] F_require_data) (D_chosen_entries : Dn P w K mg base 6 "chosen_entries" ["data"] F_chosen_entries) {f : Addr} {fd : FuncData} (U : Fun K "salvage" "salvage" (top 31) f fd) (dr : Option Addr) :
    FnG P w K mg base 7 f fd ["data"] (SpD K dr [false] F_salvage) := by
  refine fnd_of (k := 6) U sc_salvage rfl (fun cdv A callers s0 H E G0 hr hga =>
    (sd_cons (sd_expr (pd_cl D_require_data hr (by decide) hga (ad_cons (pd_var 0 (pv 0)) ad_nil)))
      (sd_one (sd_ret (pd_cl D_chosen_entries hr (by decide) hga (ad_cons (pd_var 0 (pv 0)) ad_nil)))))) ?_
  intro ds n Q hl hF
  obtain ⟨os, rfl, ho, hz, q⟩ := hF
  walk_at "wx"
  refine ⟨os, rfl, ho, ?_⟩
  walk_at "wx"
  exact ⟨os, rfl, ho, hz, q⟩
theorem sc__law_told : FnScope ["data", "at", "title", "payload"] ["data"] (defScope (top 49)) := ⟨rfl, rfl, rfl, by decide +kernel, rfl, by decide +kernel, by decide +kernel⟩
theorem ok__law_told {P : Program} {w : World} {K : PySem.W.Frag} {mg : Str → Option Value} {base : Heap} (T : Txt K mg) (C : Cn K mg) (Z : Ec K mg) (bk : Bk K mg) (D_salvage : Dn P w K mg base 7 "salvage" ["data"] F_salvage) {f : Addr} {fd : FuncData} (U : Fun K "_law_told" "_law_told" (top 49) f fd) (dr : Option Addr) :
    FnG P w K mg base 8 f fd ["data"] (SpD K dr [false] F__law_told) := by
  refine fnd_of (k := 7) U sc__law_told rfl (fun cdv A callers s0 H E G0 hr hga =>
    (sd_one (sd_ret (pd_ofL (ld_lc (own := [("at", 1), ("title", 2), ("payload", 3)]) sc__law_told.nd (id_seq (pd_cl D_salvage hr (by decide) hga (ad_cons (pd_bt bt_tuple T.tuple (ad_cons (pd_var 0 (pv 0)) ad_nil)) ad_nil))) (LcG.t (lcg_tup (n := 3) (lcg_cons (lcg_name (j := 1)) (lcg_cons (lcg_name (j := 2)) (lcg_cons (lcg_name (j := 3)) lcg_nil))))) (by change blkC ["data", "at", "title", "payload"] (defScope (top 49)) _ _ = true; decide +kernel) (fun _ _ _ _ _ => (pg_tup (n := 3) rfl (pgs_cons (pg_name (i := 1) sc__law_told.nd rfl (.inl rfl)) (pgs_cons (pg_name (i := 2) sc__law_told.nd rfl (.inl rfl)) (pgs_cons (pg_name (i := 3) sc__law_told.nd rfl (.inl rfl)) pgs_nil))))) (fun _ _ _ _ _ _ _ => (pts_yes)) (fun _ _ _ _ _ _ _ => (pd_tup (ad_cons (pd_var 1 (pv 1)) (ad_cons (pd_var 2 (pv 2)) (ad_cons (pd_bt bt_len T.len (ad_cons (pd_var 3 (pv 3)) ad_nil)) ad_nil)))))))))) ?_
  intro ds n Q hl hF
  obtain ⟨os, rfl, ho, hz, q⟩ := hF
  walk_at "wx"
  refine ⟨os, rfl, ho, hz, ?_⟩
  walk_at "wx"
  refine lcGo_mp trD _ n (line_of (by have := Ch_len os.length os 0 (Nat.le_refl _); omega)) (fun x m P hP => ?_) ?_
  · obtain ⟨k, e⟩ := x
    rw [show choD (k, e) = .tup [.int (k : Int), .str e.1, .tup (oc e.2)] from rfl]
    walk_at "wx"
    have hlen : (oc e.2).length = e.2.length := List.length_map ..
    rw [hlen]
    exact ⟨line_of (by decide), hP _ rfl⟩
  · walk_at "wx"
    exact q
theorem sc__law_deep_right : FnScope ["draw", "one", "two", "inner", "middle", "outer", "before", "out", "mid", "low", "data", "torn", "due"] ["draw", "one", "two"] (defScope (top 50)) := ⟨rfl, rfl, rfl, by decide +kernel, rfl, by decide +kernel, by decide +kernel⟩
theorem ok__law_deep_right {P : Program} {w : World} {K : PySem.W.Frag} {mg : Str → Option Value} {base : Heap} (T : Txt K mg) (C : Cn K mg) (Z : Ec K mg) (bk : Bk K mg) (D__law_archive : Dn P w K mg base 3 "_law_archive" ["pairs"] F__law_archive) (D__law_next : Dn P w K mg base 2 "_law_next" ["draw", "bound"] F__law_next) (D__law_told : Dn P w K mg base 8 "_law_told" ["data"] F__law_told) (D_remains : Dn P w K mg base 6 "remains" ["data"] F_remains) {f : Addr} {fd : FuncData} (U : Fun K "_law_deep_right" "_law_deep_right" (top 50) f fd) (dr : Option Addr) :
    FnG P w K mg base 9 f fd ["draw", "one", "two"] (SpD K dr [false, false, false] F__law_deep_right) := by
  refine fnd_of (k := 8) U sc__law_deep_right rfl (fun cdv A callers s0 H E G0 hr hga =>
    (sd_cons (sd_set 3 sc__law_deep_right.nd (pd_cl D__law_archive hr (by decide) hga (ad_cons (pd_lst (ad_cons (pd_tup (ad_cons pd_str (ad_cons (pd_var 1 (pv 1)) ad_nil))) (ad_cons (pd_tup (ad_cons pd_str (ad_cons (pd_var 2 (pv 2)) ad_nil))) ad_nil))) ad_nil)))
      (sd_cons (sd_set 4 sc__law_deep_right.nd (pd_cl D__law_archive hr (by decide) hga (ad_cons (pd_lst (ad_cons (pd_tup (ad_cons pd_str (ad_cons (pd_var 3 (pv 3)) ad_nil))) ad_nil)) ad_nil)))
      (sd_cons (sd_set 5 sc__law_deep_right.nd (pd_cl D__law_archive hr (by decide) hga (ad_cons (pd_lst (ad_cons (pd_tup (ad_cons pd_str (ad_cons (pd_var 4 (pv 4)) ad_nil))) ad_nil)) ad_nil)))
      (sd_cons (sd_set 6 sc__law_deep_right.nd (pd_rep (pd_lst (ad_cons pd_int ad_nil)) (pd_cl D__law_next hr (by decide) hga (ad_cons (pd_var 0 (pv 0)) (ad_cons pd_int ad_nil)))))
      (sd_cons (sd_par3 7 8 9 sc__law_deep_right.nd (ad_cons (pd_bt bt_len T.len (ad_cons (pd_var 6 (pv 6)) ad_nil)) (ad_cons (pd_add (pd_bt bt_len T.len (ad_cons (pd_var 6 (pv 6)) ad_nil)) pd_int) (ad_cons (pd_add (pd_bt bt_len T.len (ad_cons (pd_var 6 (pv 6)) ad_nil)) pd_int) ad_nil))))
      (sd_cons (sd_set 10 sc__law_deep_right.nd (pd_add (pd_var 6 (pv 6)) (pd_var 5 (pv 5))))
      (sd_cons (sd_if (td_cmp (cm_ne hr) (pd_cl D__law_told hr (by decide) hga (ad_cons (pd_var 10 (pv 10)) ad_nil)) (pd_lst (ad_cons (pd_tup (ad_cons (pd_var 7 (pv 7)) (ad_cons pd_str (ad_cons (pd_bt bt_len T.len (ad_cons (pd_var 4 (pv 4)) ad_nil)) ad_nil)))) ad_nil))) (sd_one (sd_ret pd_bl)) sd_nil)
      (sd_cons (sd_set 11 sc__law_deep_right.nd (pd_add (pd_add (pd_sl (pd_var 10 (pv 10)) od_none (od_some (pd_add (pd_var 7 (pv 7)) pd_int))) (pd_lst (ad_cons (pd_mod (pd_bt bt_int T.int (ad_cons (pd_add (pd_ix (pd_var 10 (pv 10)) (pd_add (pd_var 7 (pv 7)) pd_int)) pd_int) ad_nil)) pd_int) ad_nil))) (pd_sl (pd_var 10 (pv 10)) (od_some (pd_add (pd_var 7 (pv 7)) pd_int)) od_none)))
      (sd_cons (sd_if (td_cmp (cm_ne hr) (pd_cl D__law_told hr (by decide) hga (ad_cons (pd_var 11 (pv 11)) ad_nil)) (pd_lst (ad_cons (pd_tup (ad_cons (pd_var 8 (pv 8)) (ad_cons pd_str (ad_cons (pd_bt bt_len T.len (ad_cons (pd_var 3 (pv 3)) ad_nil)) ad_nil)))) ad_nil))) (sd_one (sd_ret pd_bl)) sd_nil)
      (sd_cons (sd_set 11 sc__law_deep_right.nd (pd_add (pd_add (pd_sl (pd_var 11 (pv 11)) od_none (od_some (pd_add (pd_var 8 (pv 8)) pd_int))) (pd_lst (ad_cons (pd_mod (pd_bt bt_int T.int (ad_cons (pd_add (pd_add (pd_ix (pd_var 11 (pv 11)) (pd_add (pd_var 8 (pv 8)) pd_int)) pd_int) (pd_cl D__law_next hr (by decide) hga (ad_cons (pd_var 0 (pv 0)) (ad_cons pd_int ad_nil)))) ad_nil)) pd_int) ad_nil))) (pd_sl (pd_var 11 (pv 11)) (od_some (pd_add (pd_var 8 (pv 8)) pd_int)) od_none)))
      (sd_cons (sd_set 12 sc__law_deep_right.nd (pd_lst (ad_cons (pd_tup (ad_cons (pd_var 9 (pv 9)) (ad_cons pd_str (ad_cons (pd_bt bt_len T.len (ad_cons (pd_var 1 (pv 1)) ad_nil)) ad_nil)))) (ad_cons (pd_tup (ad_cons (pd_add (pd_add (pd_var 9 (pv 9)) pd_int) (pd_bt bt_len T.len (ad_cons (pd_var 1 (pv 1)) ad_nil))) (ad_cons pd_str (ad_cons (pd_bt bt_len T.len (ad_cons (pd_var 2 (pv 2)) ad_nil)) ad_nil)))) ad_nil))))
      (sd_cons (sd_if (PW.pt (wd_or (td_cmp (cm_ne hr) (pd_cl D__law_told hr (by decide) hga (ad_cons (pd_var 11 (pv 11)) ad_nil)) (pd_var 12 (pv 12))) (wd_or1 (td_cmp (cm_ne hr) (pd_ix (pd_cl D_remains hr (by decide) hga (ad_cons (pd_bt bt_tuple T.tuple (ad_cons (pd_var 11 (pv 11)) ad_nil)) ad_nil)) pd_int) (pd_add (pd_add pd_int (pd_bt bt_len T.len (ad_cons (pd_var 1 (pv 1)) ad_nil))) (pd_bt bt_len T.len (ad_cons (pd_var 2 (pv 2)) ad_nil))))))) (sd_one (sd_ret pd_bl)) sd_nil)
      (sd_cons (sd_set 11 sc__law_deep_right.nd (pd_add (pd_add (pd_sl (pd_var 11 (pv 11)) od_none (od_some (pd_var 9 (pv 9)))) (pd_lst (ad_cons pd_int ad_nil))) (pd_sl (pd_var 11 (pv 11)) (od_some (pd_add (pd_var 9 (pv 9)) pd_int)) od_none)))
      (sd_one (sd_ret (pd_cmp (cm_eq hr) (pd_cl D__law_told hr (by decide) hga (ad_cons (pd_var 11 (pv 11)) ad_nil)) (pd_sl (pd_var 12 (pv 12)) (od_some pd_int) od_none)))))))))))))))))) ?_
  intro ds n Q hl hF
  obtain ⟨a, b, rfl, ha, hb, la, lb, hn, q⟩ := hF
  have dp := deep_of ha hb la lb
  obtain ⟨c, hc⟩ : ∃ c, eMid a b = c := ⟨_, rfl⟩
  obtain ⟨d, hd⟩ : ∃ d, eOut a b = d := ⟨_, rfl⟩
  have c1 : c.1 = nMid := by rw [← hc]; rfl
  have d1 : d.1 = nOut := by rw [← hd]; rfl
  rw [hc, hd] at dp
  obtain ⟨l1, l2, l3, l4, l5, l6, l7⟩ := dp.lens
  have e1a : (eIn a).2.length = a.length := rfl
  have e2a : (eIm b).2.length = b.length := rfl
  have l0 := arch2_len (eIn a) (eIm b)
  have n1 : (eIn a).1.length = 2 := rfl
  have n2 : (eIm b).1.length = 2 := rfl
  walk_at "wx"
  refine ⟨line_of (by decide), line_of (by decide), line_of (by decide), [eIn a, eIm b], rfl, good_two ha hb la lb, by omega, ?_⟩
  rw [← dp.pc]
  walk_at "wx"
  refine ⟨line_of (by decide), line_of (by decide), [c], zl1 c1, one_good dp.kc, by have := arch1_len c; have := dp.nc; omega, ?_⟩
  rw [← dp.pd]
  walk_at "wx"
  refine ⟨line_of (by decide), line_of (by decide), [d], zl1 d1, one_good dp.kd, by omega, ?_⟩
  walk_at "wx"
  refine ⟨line_of (by decide), next_of (by omega) (by decide) (by decide) fun r r0 r1 => ?_⟩
  walk_at "wx"
  obtain ⟨k, rfl⟩ : ∃ k : Nat, r = (k : Int) := ⟨r.toNat, by omega⟩
  refine ⟨crep_one _ (by omega), ?_⟩
  rw [rep_one]
  walk_at "wx"
  have hA := arch_oct (one_good dp.kd)
  have hZ : ∀ o ∈ List.replicate k (0 : Int), oct o := rep_oct (oct_of (by decide) (by decide)) k
  rw [oc_app, oc_len, oc_len, List.length_replicate]
  refine ⟨_, _, _, rfl, line_of (by omega), _, rfl, oct_app hZ hA, by rw [List.length_append, List.length_replicate]; omega, ?_⟩
  rw [dp.whole k]
  walk_at "wx"
  have sOut : ∀ (j : Nat), ∀ x ∈ [(j, d)], PyData.strOk x.2.1 = true := fun j x m => by rw [List.mem_singleton.mp m]; exact strOk_name dp.kd.1
  rw [oc_len, tr1 (j := k) d1 rfl rfl]
  refine ⟨line_of (by decide), line_of (by decide), ceq_tr [(k, d)] (sOut k), ?_⟩
  rw [eqD_tr1, if_neg (by decide)]
  walk_at "wx"
  -- the first tear
  have hnd := dp.nd
  have hnc := dp.nc
  have cld := codes_len d.1
  have clc := codes_len c.1
  obtain ⟨v1, v2, v3, v4, hv, hdv⟩ := ent_hdr (e := d) (by omega)
  have hL : List.replicate k (0 : Int) ++ arch [d] = (List.replicate k (0 : Int) ++ ([66, 80, 69, ((codes d.1).length : Int)] ++ codes d.1)) ++ 0 :: (0 :: (d.2.length : Int) :: v1 :: v2 :: v3 :: v4 :: (d.2 ++ tl1 d)) := by
    rw [arch_1, show dirO [d] ++ endO (entE d) (dirO [d]) = tl1 d from rfl, hdv]
    unfold hdr
    simp
  obtain ⟨A1, hA1⟩ : ∃ A, A = List.replicate k (0 : Int) ++ ([66, 80, 69, ((codes d.1).length : Int)] ++ codes d.1) := ⟨_, rfl⟩
  have lA1 : A1.length = k + 7 := by
    rw [hA1]
    simp only [List.length_append, List.length_replicate, List.length_cons, List.length_nil]
    omega
  rw [← hA1] at hL
  have s1 := spl (x := 0) (q := 0 :: (d.2.length : Int) :: v1 :: v2 :: v3 :: v4 :: (d.2 ++ tl1 d)) lA1
  rw [hL, show (k : Int) + 7 = ((k + 7 : Nat) : Int) from by omega, s1.1, s1.2.2]
  walk_at "wx"
  rw [show (k : Int) + 8 = ((k + 7 + 1 : Nat) : Int) from by omega, s1.2.1]
  have hT1 : A1 ++ 1 :: (0 :: (d.2.length : Int) :: v1 :: v2 :: v3 :: v4 :: (d.2 ++ tl1 d)) = List.replicate k (0 : Int) ++ hdr d 1 0 (d.2.length : Int) v1 v2 v3 v4 (d.2 ++ tl1 d) := by
    rw [hA1]
    unfold hdr
    simp
  obtain ⟨ht, af, rt, lt, ct⟩ := dp.tail
  have hvo : ∀ o ∈ [v1, v2, v3, v4], oct o := by rw [hv]; exact numO_oct _ _
  have hvv : oct v1 ∧ oct v2 ∧ oct v3 ∧ oct v4 := ⟨hvo _ (by simp), hvo _ (by simp), hvo _ (by simp), hvo _ (by simp)⟩
  have hd3 : oct (1 : Int) ∧ oct (0 : Int) ∧ oct (d.2.length : Int) := ⟨oct_of (by decide) (by decide), oct_of (by decide) (by decide), oct_of (by omega) (by omega)⟩
  have hdo : ∀ o ∈ d.2 ++ tl1 d, oct o := oct_app dp.kd.2.1 ht
  have o1 : ∀ o ∈ List.replicate k (0 : Int) ++ hdr d 1 0 (d.2.length : Int) v1 v2 v3 v4 (d.2 ++ tl1 d), oct o := oct_app hZ (hdr_oct dp.kd hd3 hvv hdo)
  have z1 := congrArg List.length hT1
  simp only [List.length_append, List.length_cons] at z1
  have sMid : ∀ x ∈ [(k + 14, c)], PyData.strOk x.2.1 = true := fun x m => by rw [List.mem_singleton.mp m]; exact strOk_name dp.kc.1
  rw [show ((0 : Int) + 1) % 256 = 1 from rfl, oc_mid, hT1]
  refine ⟨by decide, line_of (by decide), line_of (by rw [oc_len]; omega), line_of (by simp only [List.length_append, List.length_cons, List.length_nil, oc_len]; omega), _, rfl, o1, by simp only [List.length_append, ← z1]; omega, ?_⟩
  rw [show Ch 0 (List.replicate k (0 : Int) ++ hdr d 1 0 (d.2.length : Int) v1 v2 v3 v4 (d.2 ++ tl1 d)) = [(k + 14, c)] from dp.torn1 k (d.2.length : Int) (by omega) v1 v2 v3 v4 hvv]
  walk_at "wx"
  rw [tr1 (j := k + 14) c1 (by omega) (by rw [oc_len])]
  refine ⟨line_of (by decide), line_of (by decide), ceq_tr [(k + 14, c)] sMid, ?_⟩
  rw [eqD_tr1, if_neg (by decide)]
  walk_at "wx"
  -- the second tear
  obtain ⟨w1, w2, w3, w4, hw, hcv⟩ := ent_hdr (e := c) (by omega)
  have hwo : ∀ o ∈ [w1, w2, w3, w4], oct o := by rw [hw]; exact numO_oct _ _
  have hww : oct w1 ∧ oct w2 ∧ oct w3 ∧ oct w4 := ⟨hwo _ (by simp), hwo _ (by simp), hwo _ (by simp), hwo _ (by simp)⟩
  obtain ⟨hbo, baf, brt, blt, bct⟩ := dp.behind
  have hq : ∀ o ∈ c.2 ++ (tl1 c ++ tl1 d), oct o := oct_app dp.kc.2.1 hbo
  have hc3 : oct (0 : Int) ∧ oct (0 : Int) ∧ oct (c.2.length : Int) := ⟨oct_of (by decide) (by decide), oct_of (by decide) (by decide), oct_of (by omega) (by omega)⟩
  have ed : d.2 ++ tl1 d = hdr c 0 0 (c.2.length : Int) w1 w2 w3 w4 (c.2 ++ (tl1 c ++ tl1 d)) := by
    rw [← hcv, dp.pd, arch_1, List.append_assoc]
    rfl
  have hL2 : List.replicate k (0 : Int) ++ hdr d 1 0 (d.2.length : Int) v1 v2 v3 v4 (d.2 ++ tl1 d) = (List.replicate k (0 : Int) ++ (frt d 1 0 (d.2.length : Int) v1 v2 v3 v4 ++ ([66, 80, 69, ((codes c.1).length : Int)] ++ codes c.1 ++ [0, 0, (c.2.length : Int)]))) ++ w1 :: (w2 :: w3 :: w4 :: (c.2 ++ (tl1 c ++ tl1 d))) := by
    rw [ed, ← frt_app d]
    unfold hdr
    simp
  obtain ⟨A2, hA2⟩ : ∃ A, A = List.replicate k (0 : Int) ++ (frt d 1 0 (d.2.length : Int) v1 v2 v3 v4 ++ ([66, 80, 69, ((codes c.1).length : Int)] ++ codes c.1 ++ [0, 0, (c.2.length : Int)])) := ⟨_, rfl⟩
  have lA2 : A2.length = k + 24 := by
    rw [hA2]
    simp only [List.length_append, List.length_replicate, List.length_cons, List.length_nil, frt_len hnd]
    omega
  rw [← hA2] at hL2
  have s2 := spl (x := w1) (q := w2 :: w3 :: w4 :: (c.2 ++ (tl1 c ++ tl1 d))) lA2
  rw [hL2, show (k : Int) + 14 + 10 = ((k + 24 : Nat) : Int) from by omega, s2.1, s2.2.2]
  walk_at "wx"
  refine next_of (by omega) (by decide) (by decide) fun r r0 r1 => ?_
  walk_at "wx"
  rw [show (k : Int) + 14 + 11 = ((k + 24 + 1 : Nat) : Int) from by omega, s2.2.1]
  obtain ⟨y, hy⟩ : ∃ y, (w1 + 1 + r) % 256 = y := ⟨_, rfl⟩
  have yo : oct y := by rw [← hy]; exact one_oct _
  have yne : y ≠ w1 := by
    have := hww.1
    unfold oct at this yo
    omega
  have hT2 : A2 ++ y :: (w2 :: w3 :: w4 :: (c.2 ++ (tl1 c ++ tl1 d))) = List.replicate k (0 : Int) ++ hdr d 1 0 (d.2.length : Int) v1 v2 v3 v4 (hdr c 0 0 (c.2.length : Int) y w2 w3 w4 (c.2 ++ (tl1 c ++ tl1 d))) := by
    rw [hA2, ← frt_app d]
    unfold hdr
    simp
  have hy4 : oct y ∧ oct w2 ∧ oct w3 ∧ oct w4 := ⟨yo, hww.2⟩
  have o2 : ∀ o ∈ List.replicate k (0 : Int) ++ hdr d 1 0 (d.2.length : Int) v1 v2 v3 v4 (hdr c 0 0 (c.2.length : Int) y w2 w3 w4 (c.2 ++ (tl1 c ++ tl1 d))), oct o := oct_app hZ (hdr_oct dp.kd hd3 hvv (hdr_oct dp.kc hc3 hy4 hq))
  have hC2 := dp.torn2 k v1 v2 v3 v4 y w2 w3 w4 hvv hy4 (fun h => yne (by
    rw [← hw] at h
    injection h))
  have z2 := congrArg List.length hT2
  simp only [List.length_append, List.length_cons] at z2 blt
  have lT2 : (List.replicate k (0 : Int) ++ hdr d 1 0 (d.2.length : Int) v1 v2 v3 v4 (hdr c 0 0 (c.2.length : Int) y w2 w3 w4 (c.2 ++ (tl1 c ++ tl1 d)))).length ≤ 1000 := by
    simp only [List.length_append, ← z2]
    omega
  have hR2 := R_tot _ hC2
  rw [hy, oc_mid, hT2]
  obtain ⟨T2, hT2e⟩ : ∃ T, T = List.replicate k (0 : Int) ++ hdr d 1 0 (d.2.length : Int) v1 v2 v3 v4 (hdr c 0 0 (c.2.length : Int) y w2 w3 w4 (c.2 ++ (tl1 c ++ tl1 d))) := ⟨_, rfl⟩
  rw [← hT2e] at o2 hC2 lT2 hR2 ⊢
  have sLow : ∀ x ∈ [(k + 28, eIn a), (k + 28 + (entE (eIn a)).length, eIm b)], PyData.strOk x.2.1 = true := fun x m => by
    simp only [List.mem_cons, List.not_mem_nil, or_false] at m
    rcases m with rfl | rfl
    · exact strOk_name nm_in
    · exact strOk_name nm_im
  rw [oc_len a, oc_len b, show D.lst [D.tup [D.int ((k : Int) + 28), D.str nIn, D.int (a.length : Int)], D.tup [D.int ((k : Int) + 28 + 13 + (a.length : Int)), D.str nIm, D.int (b.length : Int)]] = .lst ([(k + 28, eIn a), (k + 28 + (entE (eIn a)).length, eIm b)].map trD) from tr2 rfl rfl (by omega) (by omega) rfl rfl]
  refine ⟨by decide, line_of (by decide), line_of (by rw [oc_len]; omega), line_of (by simp only [List.length_append, List.length_cons, List.length_nil, oc_len]; omega), line_of (by decide), line_of (by decide), line_of (by decide), _, rfl, o2, by omega, ?_⟩
  rw [hC2]
  walk_at "wx"
  refine ⟨ceq_tr _ sLow, ?_⟩
  rw [show eqD (D.lst [trD (k + 28, eIn a), trD (k + 28 + (entE (eIn a)).length, eIm b)]) (D.lst [trD (k + 28, eIn a), trD (k + 28 + (entE (eIn a)).length, eIm b)]) = true from eqD_tr [(k + 28, eIn a), (k + 28 + (entE (eIn a)).length, eIm b)]]
  walk_at "wx"
  rw [if_neg (by decide)]
  refine ⟨T2, rfl, o2, by omega, ?_⟩
  walk_at "wx"
  rw [tab_zero]
  walk_at "wx"
  have hR3 : (R T2 : Int) = 26 + (a.length : Int) + (b.length : Int) := by
    rw [hR2]
    unfold tot
    simp only [List.map_cons, List.map_nil, List.sum_cons, List.sum_nil]
    omega
  rw [oc_len a, oc_len b, hR3]
  walk_at "wx"
  -- the third tear
  obtain ⟨t, et⟩ := dp.mc
  have hL3 : T2 = (List.replicate k (0 : Int) ++ (frt d 1 0 (d.2.length : Int) v1 v2 v3 v4 ++ frt c 0 0 (c.2.length : Int) y w2 w3 w4)) ++ 66 :: (c.2 ++ (tl1 c ++ tl1 d)).drop 1 := by
    rw [hT2e, ← frt_app d, ← frt_app c]
    have e1 : c.2 ++ (tl1 c ++ tl1 d) = 66 :: (c.2 ++ (tl1 c ++ tl1 d)).drop 1 := by
      rw [et]
      rfl
    conv => lhs; rw [e1]
    rw [List.append_assoc, List.append_assoc]
  obtain ⟨A3, hA3⟩ : ∃ A, A = List.replicate k (0 : Int) ++ (frt d 1 0 (d.2.length : Int) v1 v2 v3 v4 ++ frt c 0 0 (c.2.length : Int) y w2 w3 w4) := ⟨_, rfl⟩
  have lA3 : A3.length = k + 28 := by
    rw [hA3]
    simp only [List.length_append, List.length_replicate, frt_len hnd, frt_len hnc]
  rw [← hA3] at hL3
  have s3 := spl (x := 66) (q := (c.2 ++ (tl1 c ++ tl1 d)).drop 1) lA3
  rw [← hL3] at s3
  have hT3 : A3 ++ 0 :: (c.2 ++ (tl1 c ++ tl1 d)).drop 1 = List.replicate k (0 : Int) ++ hdr d 1 0 (d.2.length : Int) v1 v2 v3 v4 (hdr c 0 0 (c.2.length : Int) y w2 w3 w4 (0 :: (c.2 ++ (tl1 c ++ tl1 d)).drop 1)) := by
    rw [hA3, ← frt_app d, ← frt_app c, List.append_assoc, List.append_assoc]
  have hC3 := dp.torn3 k v1 v2 v3 v4 y w2 w3 w4 w1 hvv hw yo yne
  have lT2' := congrArg List.length hL3
  rw [List.length_append, List.length_cons] at lT2'
  have o3 : ∀ o ∈ A3 ++ 0 :: (c.2 ++ (tl1 c ++ tl1 d)).drop 1, oct o := fun o m => by
    rcases List.mem_append.mp m with m | m
    · exact o2 o (by rw [hL3]; exact List.mem_append_left _ m)
    · rcases List.mem_cons.mp m with rfl | m
      · exact oct_of (by decide) (by decide)
      · exact hq o (List.mem_of_mem_drop m)
  rw [← hT3] at hC3
  rw [if_neg (by decide), show (k : Int) + 28 + 1 = ((k + 28 + 1 : Nat) : Int) from by omega, show (k : Int) + 28 = ((k + 28 : Nat) : Int) from by omega, s3.1, s3.2.1, oc_mid]
  refine ⟨line_of (by decide), line_of (by rw [oc_len]; omega), line_of (by simp only [List.length_append, List.length_cons, List.length_nil, oc_len]; omega), _, rfl, o3, by rw [List.length_append, List.length_cons]; omega, ?_⟩
  rw [hC3]
  walk_at "wx"
  rw [show cutL [trD (k + 28, eIn a), trD (k + 28 + (entE (eIn a)).length, eIm b)] (some 1) none = [(k + 28 + (entE (eIn a)).length, eIm b)].map trD from rfl, eqD_tr1]
  exact ⟨ceq_tr _ fun x m => sLow x (List.mem_cons_of_mem _ m), q _ (by omega) (by omega)⟩
theorem sc__law_overlaps_right : FnScope ["size", "more", "second", "begun", "first", "due"] ["size"] (defScope (top 51)) := ⟨rfl, rfl, rfl, by decide +kernel, rfl, by decide +kernel, by decide +kernel⟩
theorem ok__law_overlaps_right {P : Program} {w : World} {K : PySem.W.Frag} {mg : Str → Option Value} {base : Heap} (T : Txt K mg) (C : Cn K mg) (Z : Ec K mg) (bk : Bk K mg) (D__law_entry : Dn P w K mg base 2 "_law_entry" ["title", "payload"] F__law_entry) (D__law_number : Dn P w K mg base 1 "_law_number" ["number", "many"] F__law_number) (D__law_told : Dn P w K mg base 8 "_law_told" ["data"] F__law_told) (D__law_sum : Dn P w K mg base 1 "_law_sum" ["octets"] F__law_sum) {f : Addr} {fd : FuncData} (U : Fun K "_law_overlaps_right" "_law_overlaps_right" (top 51) f fd) (dr : Option Addr) :
    FnG P w K mg base 9 f fd ["size"] (SpD K dr [false] F__law_overlaps_right) := by
  refine fnd_of (k := 8) U sc__law_overlaps_right rfl (fun cdv A callers s0 H E G0 hr hga =>
    (sd_cons (sd_for (id_seq (pd_tup (ad_cons pd_int (ad_cons pd_int (ad_cons pd_int ad_nil))))) (gd_name 1 sc__law_overlaps_right.nd) (sd_cons (sd_set 2 sc__law_overlaps_right.nd (pd_cl D__law_entry hr (by decide) hga (ad_cons pd_str (ad_cons (pd_rep (pd_lst (ad_cons pd_int ad_nil)) (pd_add (pd_var 0 (pv 0)) (pd_var 1 (pv 1)))) ad_nil))))
      (sd_cons (sd_set 3 sc__law_overlaps_right.nd (pd_sl (pd_var 2 (pv 2)) od_none (od_some (pd_var 0 (pv 0)))))
      (sd_cons (sd_set 4 sc__law_overlaps_right.nd (pd_add (pd_add (pd_lst (ad_cons pd_int (ad_cons pd_int (ad_cons pd_int (ad_cons pd_int (ad_cons pd_int ad_nil)))))) (pd_cl D__law_number hr (by decide) hga (ad_cons (pd_var 0 (pv 0)) (ad_cons pd_int ad_nil)))) (pd_cl D__law_number hr (by decide) hga (ad_cons (pd_cl D__law_sum hr (by decide) hga (ad_cons (pd_var 3 (pv 3)) ad_nil)) (ad_cons pd_int ad_nil)))))
      (sd_cons (sd_set 5 sc__law_overlaps_right.nd (pd_ifExp (td_cmp (cm_eq hr) (pd_var 1 (pv 1)) pd_int) (pd_lst (ad_cons (pd_tup (ad_cons pd_int (ad_cons pd_str (ad_cons (pd_var 0 (pv 0)) ad_nil)))) ad_nil)) (pd_lst (ad_cons (pd_tup (ad_cons pd_int (ad_cons pd_str (ad_cons (pd_add (pd_var 0 (pv 0)) (pd_var 1 (pv 1))) ad_nil)))) ad_nil))))
      (sd_one (sd_if (td_cmp (cm_ne hr) (pd_cl D__law_told hr (by decide) hga (ad_cons (pd_add (pd_var 4 (pv 4)) (pd_var 2 (pv 2))) ad_nil)) (pd_var 5 (pv 5))) (sd_one (sd_ret pd_bl)) sd_nil)))))))
      (sd_one (sd_ret pd_bl)))) ?_
  intro ds n Q hl hF
  obtain ⟨k, rfl, k1, k2, q⟩ := hF
  walk_at "wx"
  refine ⟨line_of (by decide), ?_⟩
  rw [show [D.int 0, D.int 1, D.int 2] = ([0, 1, 2] : List Nat).map injM from rfl]
  refine forW_ty (I := I_ov k n) _ _ ⟨fun m mm => by simp at mm; omega, .emp, .emp, .emp, .emp, .emp, rfl⟩ (fun m t s1 _ hI => ?_) (fun s1 hI => ?_)
  · obtain ⟨hm, x1, x2, x3, x4, x5, rfl⟩ := hI
    have hm2 := hm m List.mem_cons_self
    rw [show injM m = .int (m : Int) from rfl]
    walk_at "wx"
    rw [show (k : Int) + (m : Int) = ((k + m : Nat) : Int) from by omega, rep_one]
    refine ⟨line_of (by decide), crep_one _ (by omega), ?_⟩
    walk_at "wx"
    have hok := ok_B (n := k + m) (by omega)
    have hlen := ent_len (eB (k + m))
    have hl1 : (eB (k + m)).1.length = 1 := rfl
    have hl2 : (eB (k + m)).2.length = k + m := List.length_replicate
    refine ⟨eB (k + m), rfl, hok, ?_⟩
    walk_at "wx"
    refine ⟨line_of (by decide), (k : Int), 3, rfl, by decide, ?_⟩
    walk_at "wx"
    rw [show cutL (oc (entE (eB (k + m)))) none (some (k : Int)) = oc ((entE (eB (k + m))).take k) from by
      unfold oc
      rw [cutL_map]
      unfold cutL
      rw [sIx_nat, show HT.sIx (entE (eB (k + m))).length 0 none = 0 from rfl, List.drop_zero, Nat.sub_zero, Nat.min_eq_left (by omega)]]
    have heo := ent_oct hok
    refine ⟨line_of (by rw [oc_len, numO_len]; decide), _, rfl, fun o mo => heo o (List.mem_of_mem_take mo), ?_⟩
    walk_at "wx"
    refine ⟨chk 7 ((entE (eB (k + m))).take k), 4, rfl, by decide, ?_⟩
    walk_at "wx"
    rw [show [D.int 66, D.int 80, D.int 69, D.int 1, D.int 97] = oc [66, 80, 69, 1, 97] from rfl, oc_app, oc_app]
    obtain ⟨hc, hz⟩ := ov_at k1 k2 hm2
    have ho : ∀ o ∈ ovL k m, oct o := by
      refine oct_app (oct_app (oct_app ?_ (numO_oct _ _)) (numO_oct _ _)) heo
      unfold oct
      decide
    have hz2 := hz
    unfold ovL at hz2
    rw [List.length_append] at hz2
    have hz3 : (([66, 80, 69, 1, 97] : List Int) ++ numO 3 (k : Int) ++ numO 4 (chk 7 ((entE (eB (k + m))).take k))).length = 12 := by
      simp only [List.length_append, List.length_cons, List.length_nil, numO_len]
    rw [oc_app, show ([66, 80, 69, 1, 97] ++ numO 3 (k : Int) ++ numO 4 (chk 7 ((entE (eB (k + m))).take k))) ++ entE (eB (k + m)) = ovL k m from rfl]
    refine ⟨line_of (by rw [oc_len, oc_len, List.length_append, numO_len, numO_len]; decide), ?_⟩
    by_cases hm0 : m = 0
    · rw [if_pos (by omega)]
      refine ⟨line_of (by decide), line_of (by decide), line_of (by rw [oc_len, oc_len]; omega), _, rfl, ho, by omega, ?_⟩
      rw [hc, show [D.tup [D.int 0, D.str (Str.ofString "a"), D.int (k : Int)]] = (ovD k m).map shD from by unfold ovD; rw [if_pos hm0]; rfl]
      obtain ⟨h1, h2⟩ := ceq_sh (ys := ovD k m) (fun y my => by unfold ovD at my; rw [if_pos hm0] at my; rw [List.mem_singleton.mp my]; exact nm_a)
      walk_at "wx"
      refine ⟨h1, ?_⟩
      rw [h2, if_neg (by decide)]
      exact ⟨fun y my => hm y (List.mem_cons_of_mem _ my), _, _, _, _, _, rfl⟩
    · rw [if_neg (by omega)]
      walk_at "wx"
      refine ⟨line_of (by decide), line_of (by decide), line_of (by rw [oc_len, oc_len]; omega), _, rfl, ho, by omega, ?_⟩
      rw [hc, show [D.tup [D.int 12, D.str (Str.ofString "b"), D.int ((k : Int) + (m : Int))]] = (ovD k m).map shD from by unfold ovD; rw [if_neg hm0]; rfl]
      obtain ⟨h1, h2⟩ := ceq_sh (ys := ovD k m) (fun y my => by unfold ovD at my; rw [if_neg hm0] at my; rw [List.mem_singleton.mp my]; exact nm_b)
      walk_at "wx"
      refine ⟨h1, ?_⟩
      rw [h2, if_neg (by decide)]
      exact ⟨fun y my => hm y (List.mem_cons_of_mem _ my), _, _, _, _, _, rfl⟩
  · obtain ⟨hm, x1, x2, x3, x4, x5, rfl⟩ := hI
    walk_at "wx"
    exact q
theorem sc__law_named_right : FnScope ["size", "first", "second", "tail", "told"] ["size"] (defScope (top 52)) := ⟨rfl, rfl, rfl, by decide +kernel, rfl, by decide +kernel, by decide +kernel⟩
theorem ok__law_named_right {P : Program} {w : World} {K : PySem.W.Frag} {mg : Str → Option Value} {base : Heap} (T : Txt K mg) (C : Cn K mg) (Z : Ec K mg) (bk : Bk K mg) (D__law_told : Dn P w K mg base 8 "_law_told" ["data"] F__law_told) (D__law_entry : Dn P w K mg base 2 "_law_entry" ["title", "payload"] F__law_entry) (D__law_number : Dn P w K mg base 1 "_law_number" ["number", "many"] F__law_number) (D__law_sum : Dn P w K mg base 1 "_law_sum" ["octets"] F__law_sum) {f : Addr} {fd : FuncData} (U : Fun K "_law_named_right" "_law_named_right" (top 52) f fd) (dr : Option Addr) :
    FnG P w K mg base 9 f fd ["size"] (SpD K dr [false] F__law_named_right) := by
  refine fnd_of (k := 8) U sc__law_named_right rfl (fun cdv A callers s0 H E G0 hr hga =>
    (sd_cons (sd_par 1 2 sc__law_named_right.nd (ad_cons (pd_cl D__law_entry hr (by decide) hga (ad_cons pd_str (ad_cons (pd_rep (pd_lst (ad_cons pd_int ad_nil)) (pd_var 0 (pv 0))) ad_nil))) (ad_cons (pd_cl D__law_entry hr (by decide) hga (ad_cons pd_str (ad_cons (pd_lst (ad_cons pd_int ad_nil)) ad_nil))) ad_nil)))
      (sd_cons (sd_set 3 sc__law_named_right.nd (pd_add (pd_add (pd_lst (ad_cons pd_int (ad_cons pd_int (ad_cons pd_int ad_nil)))) (pd_cl D__law_number hr (by decide) hga (ad_cons (pd_bt bt_len T.len (ad_cons (pd_var 1 (pv 1)) ad_nil)) (ad_cons pd_int ad_nil)))) (pd_cl D__law_number hr (by decide) hga (ad_cons (pd_bt bt_len T.len (ad_cons (pd_var 2 (pv 2)) ad_nil)) (ad_cons pd_int ad_nil)))))
      (sd_cons (sd_set 4 sc__law_named_right.nd (pd_cl D__law_told hr (by decide) hga (ad_cons (pd_add (pd_add (pd_add (pd_var 1 (pv 1)) (pd_var 2 (pv 2))) (pd_var 3 (pv 3))) (pd_cl D__law_number hr (by decide) hga (ad_cons (pd_cl D__law_sum hr (by decide) hga (ad_cons (pd_var 2 (pv 2)) ad_nil)) (ad_cons pd_int ad_nil)))) ad_nil)))
      (sd_one (sd_ret (pd_cmp (cm_eq hr) (pd_var 4 (pv 4)) (pd_lst (ad_cons (pd_tup (ad_cons pd_int (ad_cons pd_str (ad_cons (pd_var 0 (pv 0)) ad_nil)))) (ad_cons (pd_tup (ad_cons (pd_bt bt_len T.len (ad_cons (pd_var 1 (pv 1)) ad_nil)) (ad_cons pd_str (ad_cons pd_int ad_nil)))) ad_nil)))))))))) ?_
  intro ds n Q hl hF
  obtain ⟨k, rfl, k1, k2, q⟩ := hF
  walk_at "wx"
  rw [rep_one]
  refine ⟨line_of (by decide), crep_one _ (by omega), ?_⟩
  walk_at "wx"
  have hok := ok_A (n := k) (by omega)
  refine ⟨eA k, rfl, hok, ?_⟩
  walk_at "wx"
  refine ⟨line_of (by decide), eB2, rfl, ok_B2, ?_⟩
  walk_at "wx"
  refine ⟨_, _, rfl, line_of (by decide), ?_⟩
  walk_at "wx"
  rw [oc_len]
  refine ⟨((entE (eA k)).length : Int), 3, rfl, by decide, ?_⟩
  walk_at "wx"
  have hA := ent_len (eA k)
  have hA1 : (eA k).1.length = 1 := rfl
  have hA2 : (eA k).2.length = k := List.length_replicate
  refine ⟨line_of (by simp only [oc_len, numO_len]; decide), ((entE eB2).length : Int), 3, by rw [oc_len]; rfl, by decide, ?_⟩
  walk_at "wx"
  have lB := len_B2
  have l3 : (oc [66, 80, 90]).length = 3 := rfl
  rw [show [D.int 66, D.int 80, D.int 90] = oc [66, 80, 90] from rfl, oc_app, oc_app, oc_app]
  refine ⟨line_of (by simp only [oc_len, List.length_append, List.length_cons, List.length_nil, numO_len]; decide), line_of (by rw [oc_len, oc_len]; omega), line_of (by simp only [oc_len, List.length_append, List.length_cons, List.length_nil, numO_len]; omega), _, rfl, ent_oct ok_B2, ?_⟩
  walk_at "wx"
  refine ⟨chk 7 (entE eB2), 4, rfl, by decide, ?_⟩
  walk_at "wx"
  rw [oc_app, oc_app]
  obtain ⟨hc, hz⟩ := nd_at k1 k2
  have ho : ∀ o ∈ ndL k, oct o := by
    refine oct_app (oct_app (oct_app (ent_oct hok) (ent_oct ok_B2)) (oct_app (oct_app ?_ (numO_oct _ _)) (numO_oct _ _))) (numO_oct _ _)
    unfold oct
    decide
  rw [show entE (eA k) ++ entE eB2 ++ ([66, 80, 90] ++ numO 3 ((entE (eA k)).length : Int) ++ numO 3 ((entE eB2).length : Int)) ++ numO 4 (chk 7 (entE eB2)) = ndL k from rfl]
  refine ⟨line_of (by simp only [oc_len, List.length_append, List.length_cons, List.length_nil, numO_len]; omega), _, rfl, ho, by omega, ?_⟩
  rw [hc]
  walk_at "wx"
  rw [oc_len, show D.lst [D.tup [D.int 0, D.str (Str.ofString "a"), D.int (k : Int)], D.tup [D.int ((entE (eA k)).length : Int), D.str (Str.ofString "b"), D.int 1]] = .lst ((ndD k).map shD) from rfl]
  obtain ⟨h1, h2⟩ := ceq_sh (ys := ndD k) (fun y my => by
    unfold ndD at my
    simp only [List.mem_cons, List.not_mem_nil, or_false] at my
    rcases my with rfl | rfl
    · exact nm_a
    · exact nm_b)
  rw [h2]
  exact ⟨line_of (by decide), line_of (by decide), line_of (by decide), h1, q⟩
theorem sc__law_hidden_right : FnScope ["data"] [] (defScope (top 53)) := ⟨rfl, rfl, rfl, by decide +kernel, rfl, by decide +kernel, by decide +kernel⟩
theorem ok__law_hidden_right {P : Program} {w : World} {K : PySem.W.Frag} {mg : Str → Option Value} {base : Heap} (T : Txt K mg) (C : Cn K mg) (Z : Ec K mg) (bk : Bk K mg) (D__law_archive : Dn P w K mg base 3 "_law_archive" ["pairs"] F__law_archive) (D__law_told : Dn P w K mg base 8 "_law_told" ["data"] F__law_told) (D__law_entry : Dn P w K mg base 2 "_law_entry" ["title", "payload"] F__law_entry) {f : Addr} {fd : FuncData} (U : Fun K "_law_hidden_right" "_law_hidden_right" (top 53) f fd) (dr : Option Addr) :
    FnG P w K mg base 9 f fd [] (SpD K dr [] F__law_hidden_right) := by
  refine fnd_of (k := 8) U sc__law_hidden_right rfl (fun cdv A callers s0 H E G0 hr hga =>
    (sd_cons (sd_set 0 sc__law_hidden_right.nd (pd_cl D__law_archive hr (by decide) hga (ad_cons (pd_lst (ad_cons (pd_tup (ad_cons pd_str (ad_cons (pd_lst (ad_cons pd_int ad_nil)) ad_nil))) ad_nil)) ad_nil)))
      (sd_one (sd_ret (pd_and (pd_cmp (cm_eq hr) (pd_cl D__law_told hr (by decide) hga (ad_cons (pd_var 0 (pv 0)) ad_nil)) (pd_lst (ad_cons (pd_tup (ad_cons pd_int (ad_cons pd_str (ad_cons pd_int ad_nil)))) ad_nil))) (pd_and (pd_cmp (cm_eq hr) (pd_cl D__law_told hr (by decide) hga (ad_cons (pd_sl (pd_var 0 (pv 0)) (od_some pd_int) od_none) ad_nil)) (pd_lst ad_nil)) (pd_one (pd_cmp (cm_ne hr) (pd_cl D__law_told hr (by decide) hga (ad_cons (pd_cl D__law_entry hr (by decide) hga (ad_cons pd_str (ad_cons (pd_lst (ad_cons pd_int ad_nil)) ad_nil))) ad_nil)) (pd_lst ad_nil))))))))) ?_
  intro ds n Q hl hF
  obtain ⟨rfl, q⟩ := hF
  walk_at "wx"
  refine ⟨line_of (by decide), line_of (by decide), line_of (by decide), [eA1], rfl, one_good ok_A1, by have := hid_1.2; omega, ?_⟩
  walk_at "wx"
  have ho := arch_oct (one_good ok_A1)
  refine ⟨_, rfl, ho, by have := hid_1.2; omega, ?_⟩
  rw [hid_1.1]
  walk_at "wx"
  obtain ⟨h1, h2⟩ := ceq_sh (ys := [(0, ("a" : Str), 1)]) (fun y my => by rw [List.mem_singleton.mp my]; exact nm_a)
  refine ⟨line_of (by decide), line_of (by decide), h1, ?_⟩
  rw [show eqD (D.lst [shD (0, Str.ofString "a", 1)]) (D.lst [D.tup [D.int 0, D.str (Str.ofString "a"), D.int 1]]) = true from h2, if_pos rfl, show cutL (oc (arch [eA1])) (some 13) none = oc (cutL (arch [eA1]) (some 13) none) from by unfold oc; rw [cutL_map]]
  refine ⟨_, rfl, fun o mo => ho o (cutL_mem mo), by have := hid_2.2; omega, ?_⟩
  rw [hid_2.1]
  walk_at "wx"
  have h0 := ceq_sh (ys := []) (fun y my => (List.not_mem_nil my).elim)
  refine ⟨line_of (by decide), h0.1, ?_⟩
  rw [show eqD (D.lst []) (D.lst []) = true from h0.2, if_pos rfl]
  refine ⟨line_of (by decide), eA1, rfl, ok_A1, ?_⟩
  walk_at "wx"
  refine ⟨_, rfl, ent_oct ok_A1, by have := hid_3.2; omega, ?_⟩
  rw [hid_3.1]
  walk_at "wx"
  refine ⟨line_of (by decide), hid_ne.1, ?_⟩
  rw [hid_ne.2]
  exact q
/-! ### the draws are begun -/
def spBegin (K : PySem.W.Frag) : Sp := fun vs H Q _ => ∃ (a : Addr) (ns : List Int), vs = [.ref a] ∧ SqL K H a (ns.map V.int) ∧ ns.length ≤ 63 ∧
  ∀ (p L : Addr) (H' : Hp), H p = none → H L = none → L ≠ p → (∀ b o, H b = some o → H' b = some o) → H' p = some (.dK (drwK L 0 0 0)) → H' L = some (.lst ((ns ++ [0]).map V.int)) → Q (.ref p) H'
theorem sc__law_begin : FnScope ["script"] ["script"] (defScope (top 36)) := ⟨rfl, rfl, rfl, by decide +kernel, rfl, by decide +kernel, by decide +kernel⟩
theorem ok__law_begin {P : Program} {w : World} {K : PySem.W.Frag} {mg : Str → Option Value} {base : Heap} {f : Addr} {fd : FuncData} (U : Fun K "_law_begin" "_law_begin" (top 36) f fd) : FnOk P w K mg base CX0 1 f fd ["script"] (spBegin K) := by
  refine U.ok sc__law_begin (fun vs H Q E h => ?_) (fun cdv A outer s H vs Q E hr h => ?_)
  · obtain ⟨a, ns, rfl, _⟩ := h
    rfl
  · obtain ⟨a, ns, rfl, hS, hl, k⟩ := h
    refine ⟨_, pss_one (ps_ret (pe_disp (pps_cons pe_str (pe_op op_catS (pv 0) (pe_lst (pa_cons pe_int pa_nil))) (pps_cons pe_str pe_int (pps_cons pe_str pe_int (pps_cons pe_str pe_int pps_nil)))) (by rfl) (by rfl) (fun z => by cases z) (by decide))), ?_⟩
    intro p hp
    have s0 : Same H (upd H p (.dK [])) := Same.upd hp
    refine ⟨_, rfl, by decide, fun l hl' => ?_⟩
    have npl : p ≠ l := fun z => by
      rw [z, upd_same] at hl'
      cases hl'
    have s1 : Same H (upd (upd H p (.dK [])) l (.lst [.int 0])) := s0.trans (Same.upd hl')
    refine ⟨a, l, _, _, rfl, rfl, s1.seq hS, SqL.of upd_same, ?_, fun q hq => ?_⟩
    · have e : (ns.map V.int).length = ns.length := List.length_map _
      rw [e]
      exact line_of (by simp only [List.length_cons, List.length_nil]; omega)
    have nql : q ≠ l := fun z => by
      rw [z, upd_same] at hq
      cases hq
    have nqp : q ≠ p := fun z => by
      rw [z, upd_ne npl, upd_same] at hq
      cases hq
    have hpp : (upd (upd (upd H p (.dK [])) l (.lst [.int 0])) q (.lst (ns.map V.int ++ [.int 0]))) p = some (.dK []) := by
      rw [upd_ne nqp.symm, upd_ne npl, upd_same]
    refine ⟨hpp, [(Sum.inr "cells", .ref q), (Sum.inr "at", .int 0), (Sum.inr "left", .int 0), (Sum.inr "used", .int 0)], rfl, by simp, ?_⟩
    have hqH : H q = none := s1.free hq
    refine k p q _ hp hqH nqp (fun b o e => ?_) ?_ ?_
    · rw [upd_ne (ne_of_none e hp)]
      rw [upd_ne (ne_of_none e hqH)]
      exact s1 b o e
    · rw [upd_same, merge_drw]
    · rw [upd_ne nqp, upd_same, List.map_append]
      rfl
def I_lw (t : List Nat) (s : S) : Prop := ∃ (x2 x3 : Sl) (m : Nat), s = ⟨[.emp, .val .drw, x2, x3], m⟩ ∧ m + 100 * t.length ≤ 300
theorem sc_law : FnScope ["script", "draw", "turn", "size"] ["script"] (defScope (top 54)) := ⟨rfl, rfl, rfl, by decide +kernel, rfl, by decide +kernel, by decide +kernel⟩
theorem ok_law {P : Program} {w : World} {K : PySem.W.Frag} {mg : Str → Option Value} {base : Heap} (T : Txt K mg) (C : Cn K mg) (Z : Ec K mg) (bk : Bk K mg) {fB : Addr} {fdB : FuncData} (UB : Fun K "_law_begin" "_law_begin" (top 36) fB fdB) (mB : mg "_law_begin" = some (.ref fB)) (bB : Binds K fdB ["script"] []) (D__law_next : Dn P w K mg base 2 "_law_next" ["draw", "bound"] F__law_next) (D__law_overlaps_right : Dn P w K mg base 9 "_law_overlaps_right" ["size"] F__law_overlaps_right) (D__law_named_right : Dn P w K mg base 9 "_law_named_right" ["size"] F__law_named_right) (D__law_hidden_right : Dn P w K mg base 9 "_law_hidden_right" [] F__law_hidden_right) (D__law_deep_right : Dn P w K mg base 9 "_law_deep_right" ["draw", "one", "two"] F__law_deep_right) (D__law_drawn_payload : Dn P w K mg base 3 "_law_drawn_payload" ["draw", "most"] F__law_drawn_payload) {f : Addr} {fd : FuncData} (U : Fun K "law" "law" (top 54) f fd) :
    FnG P w K mg base 10 f fd ["script"] (spLaw K) := by
  have GB : FnOk P w K mg base CX0 1 fB fdB ["script"] (spBegin K) := ok__law_begin UB
  obtain ⟨oc, od, kV, doc, pm, an, cdv, ct, osl, rfl, lk, hcd⟩ := U.ex
  refine fng_of (k := 9) lk hcd sc_law (fun vs H Q E h => ?_) fun A callers s0 H vs Q E hr hga hsp => ?_
  · obtain ⟨a, ns, rfl, _⟩ := h
    rfl
  · obtain ⟨a, ns, rfl, hS, hl, hone, k⟩ := hsp
    have hr1 : Room 1 _ := hr.mono (by decide)
    have main0 : ∃ ws : WS, (∀ (d : Addr) (H0 G0 : Hp), PSs (cxOf CX0 P w K mg base ["script", "draw", "turn", "size"] "law" (defScope (top 54)) f cdv A callers s0 H E).nox ((defBody (top 54)).drop 1) (liftS ⟨K, some d, H0, G0⟩ ws)) ∧ ws.f eEnd ⟨.emp :: .val .drw :: List.replicate 2 .emp, 0⟩ := by
      refine ⟨_, fun d H0 G0 =>
      (sd_cons (sd_for (id_range1 (ad_cons pd_int ad_nil) T.range) (gd_name 2 sc_law.nd) (sd_one (sd_if (td_not (td_val (pd_cl D__law_deep_right hr (by decide) hga (ad_cons (pd_var 1 (pv 1)) (ad_cons (pd_cl D__law_drawn_payload hr (by decide) hga (ad_cons (pd_var 1 (pv 1)) (ad_cons pd_int ad_nil))) (ad_cons (pd_cl D__law_drawn_payload hr (by decide) hga (ad_cons (pd_var 1 (pv 1)) (ad_cons pd_int ad_nil))) ad_nil)))))) (sd_one (sd_ret pd_bl)) sd_nil)))
      (sd_cons (sd_set 3 sc_law.nd (pd_add pd_int (pd_cl D__law_next hr (by decide) hga (ad_cons (pd_var 1 (pv 1)) (ad_cons pd_int ad_nil)))))
      (sd_one (sd_ret (pd_and (pd_cl D__law_overlaps_right hr (by decide) hga (ad_cons (pd_var 3 (pv 3)) ad_nil)) (pd_and (pd_cl D__law_named_right hr (by decide) hga (ad_cons (pd_var 3 (pv 3)) ad_nil)) (pd_one (pd_cl0 D__law_hidden_right hr (by decide) hga)))))))), ?_⟩
      walk_at "wx"
      refine ⟨3, rfl, by decide, by decide, ?_⟩
      rw [rng_map]
      refine forW_ty (I := I_lw) _ _ ⟨.emp, .emp, 0, rfl, by rw [List.length_range]; decide⟩ (fun o t s1 _ hI => ?_) (fun s1 hI => ?_)
      · obtain ⟨x2, x3, m, rfl, hm⟩ := hI
        simp only [List.length_cons] at hm
        walk_at "wx"
        refine ⟨5, rfl, by decide, by omega, fun a m1 ha la a1 a2 => ?_⟩
        walk_at "wx"
        refine ⟨5, rfl, by decide, by omega, fun b m2 hb lb b1 b2 => ?_⟩
        walk_at "wx"
        refine ⟨a, b, rfl, ha, hb, la, lb, by omega, fun m3 c1 c2 => ?_⟩
        walk_at "wx"
        exact ⟨_, _, m3, rfl, by omega⟩
      · obtain ⟨x2, x3, m, rfl, hm⟩ := hI
        walk_at "wx"
        refine next_of (by omega) (by decide) (by decide) fun r r0 r1 => ?_
        walk_at "wx"
        refine ⟨(1 + r).toNat, by congr 2; omega, by omega, by omega, ?_⟩
        walk_at "wx"
        refine ⟨(1 + r).toNat, by congr 2; omega, by omega, by omega, ?_⟩
        walk_at "wx"
        refine ⟨rfl, ?_⟩
        walk_at "wx"
        exact rfl
    obtain ⟨wsL, main, lwp⟩ := main0
    have rest : PSs (cxOf CX0 P w K mg base ["script", "draw", "turn", "size"] "law" (defScope (top 54)) f cdv A callers s0 H E).nox ((defBody (top 54)).drop 1) (fun D σ H => ∃ d H0 G0, liftS ⟨K, some d, H0, G0⟩ wsL D σ H) :=
      ⟨fun pins s σ H D I ⟨d, H0, G0, h⟩ => (main d H0 G0).run pins s σ H D I h⟩
    have whole : ∃ t : TS, PSs (cxOf CX0 P w K mg base ["script", "draw", "turn", "size"] "law" (defScope (top 54)) f cdv A callers s0 H E).nox (defBody (top 54)) t ∧ t { nx := fun _ H' => Q .non H', rt := Q } (L2.start ["script", "draw", "turn", "size"] [.ref a]) H := by
      refine ⟨_, pss_cons (ps_set (i := 1) sc_law.nd rfl (by first | exact .inl rfl | exact .inr rfl) (pe_call GB hr1 rfl mB UB.kp bB .nil pass0 (pa_cons (pv 0) pa_nil))) rest, ?_⟩
      refine ⟨_, rfl, a, ns, rfl, hS, hl, fun p L H' hp hL nlp hsame e1 e2 => ?_⟩
      obtain ⟨G1, R⟩ := begin_rs (m := 2) (σ := (L2.start ["script", "draw", "turn", "size"] [.ref a]).set 1 (some (.ref p))) hone hp hL nlp hsame e1 e2 hl rfl rfl
      exact ⟨p, H', G1, G1, _, eEnd, R, lwp, ⟨fun _ _ _ _ _ _ h => h.elim, fun v σ' H2 G2 d2 s' _ _ r h => by
          subst h
          cases r
          exact k H2, fun _ _ _ _ _ _ h => h.elim, fun _ _ _ _ _ _ h => h.elim⟩⟩
    obtain ⟨t, h1, h2⟩ := whole
    exact ⟨t, h1.nox, h2⟩
theorem mk_BadOctets {K : PySem.W.Frag} {h : Heap} {mg : Str → Option Value} (X : K.In h) (G : h.Ns mainGlobals mg) {B C N g : Addr} {qn : Str} {bs : List Value} {sn : List Str} {sub : List Value} {ab : Bool} {col : Option Bool} {dd od an : Option Addr} {m0 m1 m2 m3 m5 : Option Value} {oc kV dc pm cd ct : Value} {sl : Array (Option Value)}
    (a : PySem.W.nsIn K mainGlobals "BadOctets" = some (some (.ref C)))
    (b : PySem.W.nsIn K mainGlobals "BookError" = some (some (.ref B)))
    (x : K.lookup C = some (excClassObj "BadOctets" qn C N bs (.ref B :: [.type "ValueError", .type "Exception", .type "BaseException", .type "object"]) true sn sub ab col dd m0 m1 m2 m3 m5 "ValueError.__new__"))
    (sa : PySem.W.findIn K (.ref C) "__setattr__" = some (some (.builtin "object.__setattr__")))
    (ga : PySem.W.findIn K (.ref C) "__getattribute__" = some (some (.builtin "BaseException.__getattribute__")))
    (gg : PySem.W.findIn K (.ref C) "__getattr__" = some none)
    (gc : PySem.W.findIn K (.ref C) "__class__" = some (some (.builtin "object.__class__")))
    (n0 : PySem.W.findIn K (.ref C) "index" = some none)
    (kC : PySem.W.keepIn K (.ref C) = true)
    (tC : PySem.W.typeIn K (.ref C) = some (.type "type"))
    (iC : PySem.W.findIn K (.ref C) "__init__" = some (some (.ref g)))
    (tg : PySem.W.typeIn K (.ref g) = some (.type "function"))
    (l : K.lookup g = some ⟨oc, od, .func (PySem.W.fnOf "__init__" "BadOctets.__init__" (EX.iA_index ⟨6, 17, 6, 21⟩ ⟨6, 23, 6, 28⟩) (EX.iB_index ⟨7, 8, 7, 12⟩ ⟨7, 8, 7, 18⟩ ⟨7, 21, 7, 26⟩ ⟨7, 8, 7, 26⟩) EX.iS_index .none kV dc pm an cd ct), sl⟩)
    (c : PySem.W.codeIn K cd "BadOctets.__init__" = true) : Cl K mg "BadOctets" ["index"] := by
  have hno : ∀ f ∈ (["index"] : List Str), PySem.W.findIn K (.ref C) f = some none := fun f hf => by
    simp only [List.mem_cons, List.not_mem_nil, or_false] at hf
    rcases hf with rfl
    · exact n0

  have T : EX.ExK K B "BadOctets" C ["index"] := ⟨a, b, ⟨_, _, _, _, _, _, _, _, _, _, _, _, _, x⟩, sa, ga, gg, gc, hno, kC, tC⟩
  exact ⟨B, C, g, T, ⟨iC, tg, EX.ini_index (qn := "BadOctets.__init__") ⟨_, _, _, _, _, _, _, _, _, _, _, _, _, _, _, l, c⟩ T.y⟩, PySem.W.mg_of X G a⟩
theorem all_mk {l : PySem.W.OpenLaw} {w : World} {K : PySem.W.Frag} {h : Heap} {mg : Str → Option Value} {fa : Addr} {f1 f2 f3 f4 f5 f6 f7 f8 f9 f10 f11 f12 f13 f14 f15 f16 f17 f18 f19 f20 f21 f22 f23 f24 f25 f26 f27 f28 f29 f30 f31 f32 f33 f34 f35 A_MARK : Addr} {od1 an1 : Option Addr} {sl1 : Array (Option Value)} {oc1 kV1 dc1 pm1 cd1 ct1 : Value} {od2 an2 : Option Addr} {sl2 : Array (Option Value)} {oc2 kV2 dc2 pm2 cd2 ct2 : Value} {od3 an3 : Option Addr} {sl3 : Array (Option Value)} {oc3 kV3 dc3 pm3 cd3 ct3 : Value} {od4 an4 : Option Addr} {sl4 : Array (Option Value)} {oc4 kV4 dc4 pm4 cd4 ct4 : Value} {od5 an5 : Option Addr} {sl5 : Array (Option Value)} {oc5 kV5 dc5 pm5 cd5 ct5 : Value} {od6 an6 : Option Addr} {sl6 : Array (Option Value)} {oc6 kV6 dc6 pm6 cd6 ct6 : Value} {od7 an7 : Option Addr} {sl7 : Array (Option Value)} {oc7 kV7 dc7 pm7 cd7 ct7 : Value} {od8 an8 : Option Addr} {sl8 : Array (Option Value)} {oc8 kV8 dc8 pm8 cd8 ct8 : Value} {od9 an9 : Option Addr} {sl9 : Array (Option Value)} {oc9 kV9 dc9 pm9 cd9 ct9 : Value} {od10 an10 : Option Addr} {sl10 : Array (Option Value)} {oc10 kV10 dc10 pm10 cd10 ct10 : Value} {od11 an11 : Option Addr} {sl11 : Array (Option Value)} {oc11 kV11 dc11 pm11 cd11 ct11 : Value} {od12 an12 : Option Addr} {sl12 : Array (Option Value)} {oc12 kV12 dc12 pm12 cd12 ct12 : Value} {od13 an13 : Option Addr} {sl13 : Array (Option Value)} {oc13 kV13 dc13 pm13 cd13 ct13 : Value} {od14 an14 : Option Addr} {sl14 : Array (Option Value)} {oc14 kV14 dc14 pm14 cd14 ct14 : Value} {od15 an15 : Option Addr} {sl15 : Array (Option Value)} {oc15 kV15 dc15 pm15 cd15 ct15 : Value} {od16 an16 : Option Addr} {sl16 : Array (Option Value)} {oc16 kV16 dc16 pm16 cd16 ct16 : Value} {od17 an17 : Option Addr} {sl17 : Array (Option Value)} {oc17 kV17 dc17 pm17 cd17 ct17 : Value} {od18 an18 : Option Addr} {sl18 : Array (Option Value)} {oc18 kV18 dc18 pm18 cd18 ct18 : Value} {od19 an19 : Option Addr} {sl19 : Array (Option Value)} {oc19 kV19 dc19 pm19 cd19 ct19 : Value} {od20 an20 : Option Addr} {sl20 : Array (Option Value)} {oc20 kV20 dc20 pm20 cd20 ct20 : Value} {od21 an21 : Option Addr} {sl21 : Array (Option Value)} {oc21 kV21 dc21 pm21 cd21 ct21 : Value} {od22 an22 : Option Addr} {sl22 : Array (Option Value)} {oc22 kV22 dc22 pm22 cd22 ct22 : Value} {od23 an23 : Option Addr} {sl23 : Array (Option Value)} {oc23 kV23 dc23 pm23 cd23 ct23 : Value} {od24 an24 : Option Addr} {sl24 : Array (Option Value)} {oc24 kV24 dc24 pm24 cd24 ct24 : Value} {od25 an25 : Option Addr} {sl25 : Array (Option Value)} {oc25 kV25 dc25 pm25 cd25 ct25 : Value} {od26 an26 : Option Addr} {sl26 : Array (Option Value)} {oc26 kV26 dc26 pm26 cd26 ct26 : Value} {od27 an27 : Option Addr} {sl27 : Array (Option Value)} {oc27 kV27 dc27 pm27 cd27 ct27 : Value} {od28 an28 : Option Addr} {sl28 : Array (Option Value)} {oc28 kV28 dc28 pm28 cd28 ct28 : Value} {od29 an29 : Option Addr} {sl29 : Array (Option Value)} {oc29 kV29 dc29 pm29 cd29 ct29 : Value} {od30 an30 : Option Addr} {sl30 : Array (Option Value)} {oc30 kV30 dc30 pm30 cd30 ct30 : Value} {od31 an31 : Option Addr} {sl31 : Array (Option Value)} {oc31 kV31 dc31 pm31 cd31 ct31 : Value} {od32 an32 : Option Addr} {sl32 : Array (Option Value)} {oc32 kV32 dc32 pm32 cd32 ct32 : Value} {od33 an33 : Option Addr} {sl33 : Array (Option Value)} {oc33 kV33 dc33 pm33 cd33 ct33 : Value} {od34 an34 : Option Addr} {sl34 : Array (Option Value)} {oc34 kV34 dc34 pm34 cd34 ct34 : Value} {od35 an35 : Option Addr} {sl35 : Array (Option Value)} {oc35 kV35 dc35 pm35 cd35 ct35 : Value} {o_MARK : Option Addr} {n_MARK : Nat} {s_MARK : Array (Option Value)} {t_MODULUS t_FACTOR t_FIRST_CHECK t_LINE_END t_LOW t_SIGNS t_NO_TEXT t_MOST_NAME t_MOST_PAYLOAD t_MARK_0 t_MARK_1 t_MARK_2 t_NAME_SIGNS : Tok} (X : K.In h) (G : h.Ns mainGlobals mg) (hfa : mg "law" = some (.ref fa)) (bk : Bk K mg)
    (z_BadOctets : Cl K mg "BadOctets" ["index"])
    (a1 : PySem.W.nsIn K mainGlobals "running_check" = some (some (.ref f1)))
    (l1 : K.lookup f1 = some ⟨oc1, od1, .func (PySem.W.fnOf "running_check" "running_check" (defArgs (top 12)) (defBody (top 12)) (defScope (top 12)) .none kV1 dc1 pm1 an1 cd1 ct1), sl1⟩)
    (c1 : PySem.W.codeIn K cd1 "running_check" = true)
    (k1 : PySem.W.keepIn K (.ref f1) = true)
    (a2 : PySem.W.nsIn K mainGlobals "number_of" = some (some (.ref f2)))
    (l2 : K.lookup f2 = some ⟨oc2, od2, .func (PySem.W.fnOf "number_of" "number_of" (defArgs (top 13)) (defBody (top 13)) (defScope (top 13)) .none kV2 dc2 pm2 an2 cd2 ct2), sl2⟩)
    (c2 : PySem.W.codeIn K cd2 "number_of" = true)
    (k2 : PySem.W.keepIn K (.ref f2) = true)
    (a3 : PySem.W.nsIn K mainGlobals "_first_odd" = some (some (.ref f3)))
    (l3 : K.lookup f3 = some ⟨oc3, od3, .func (PySem.W.fnOf "_first_odd" "_first_odd" (defArgs (top 15)) (defBody (top 15)) (defScope (top 15)) .none kV3 dc3 pm3 an3 cd3 ct3), sl3⟩)
    (c3 : PySem.W.codeIn K cd3 "_first_odd" = true)
    (k3 : PySem.W.keepIn K (.ref f3) = true)
    (a4 : PySem.W.nsIn K mainGlobals "_sign_of" = some (some (.ref f4)))
    (l4 : K.lookup f4 = some ⟨oc4, od4, .func (PySem.W.fnOf "_sign_of" "_sign_of" (defArgs (top 16)) (defBody (top 16)) (defScope (top 16)) .none kV4 dc4 pm4 an4 cd4 ct4), sl4⟩)
    (c4 : PySem.W.codeIn K cd4 "_sign_of" = true)
    (k4 : PySem.W.keepIn K (.ref f4) = true)
    (a5 : PySem.W.nsIn K mainGlobals "is_entry_name" = some (some (.ref f5)))
    (l5 : K.lookup f5 = some ⟨oc5, od5, .func (PySem.W.fnOf "is_entry_name" "is_entry_name" (defArgs (top 22)) (defBody (top 22)) (defScope (top 22)) .none kV5 dc5 pm5 an5 cd5 ct5), sl5⟩)
    (c5 : PySem.W.codeIn K cd5 "is_entry_name" = true)
    (k5 : PySem.W.keepIn K (.ref f5) = true)
    (a6 : PySem.W.nsIn K mainGlobals "marked_offsets" = some (some (.ref f6)))
    (l6 : K.lookup f6 = some ⟨oc6, od6, .func (PySem.W.fnOf "marked_offsets" "marked_offsets" (defArgs (top 24)) (defBody (top 24)) (defScope (top 24)) .none kV6 dc6 pm6 an6 cd6 ct6), sl6⟩)
    (c6 : PySem.W.codeIn K cd6 "marked_offsets" = true)
    (k6 : PySem.W.keepIn K (.ref f6) = true)
    (a7 : PySem.W.nsIn K mainGlobals "_factor_of" = some (some (.ref f7)))
    (l7 : K.lookup f7 = some ⟨oc7, od7, .func (PySem.W.fnOf "_factor_of" "_factor_of" (defArgs (top 29)) (defBody (top 29)) (defScope (top 29)) .none kV7 dc7 pm7 an7 cd7 ct7), sl7⟩)
    (c7 : PySem.W.codeIn K cd7 "_factor_of" = true)
    (k7 : PySem.W.keepIn K (.ref f7) = true)
    (a8 : PySem.W.nsIn K mainGlobals "_most_octets" = some (some (.ref f8)))
    (l8 : K.lookup f8 = some ⟨oc8, od8, .func (PySem.W.fnOf "_most_octets" "_most_octets" (defArgs (top 34)) (defBody (top 34)) (defScope (top 34)) .none kV8 dc8 pm8 an8 cd8 ct8), sl8⟩)
    (c8 : PySem.W.codeIn K cd8 "_most_octets" = true)
    (k8 : PySem.W.keepIn K (.ref f8) = true)
    (a9 : PySem.W.nsIn K mainGlobals "_law_mixed" = some (some (.ref f9)))
    (l9 : K.lookup f9 = some ⟨oc9, od9, .func (PySem.W.fnOf "_law_mixed" "_law_mixed" (defArgs (top 37)) (defBody (top 37)) (defScope (top 37)) .none kV9 dc9 pm9 an9 cd9 ct9), sl9⟩)
    (c9 : PySem.W.codeIn K cd9 "_law_mixed" = true)
    (k9 : PySem.W.keepIn K (.ref f9) = true)
    (a10 : PySem.W.nsIn K mainGlobals "_law_number" = some (some (.ref f10)))
    (l10 : K.lookup f10 = some ⟨oc10, od10, .func (PySem.W.fnOf "_law_number" "_law_number" (defArgs (top 39)) (defBody (top 39)) (defScope (top 39)) .none kV10 dc10 pm10 an10 cd10 ct10), sl10⟩)
    (c10 : PySem.W.codeIn K cd10 "_law_number" = true)
    (k10 : PySem.W.keepIn K (.ref f10) = true)
    (a11 : PySem.W.nsIn K mainGlobals "_law_sum" = some (some (.ref f11)))
    (l11 : K.lookup f11 = some ⟨oc11, od11, .func (PySem.W.fnOf "_law_sum" "_law_sum" (defArgs (top 40)) (defBody (top 40)) (defScope (top 40)) .none kV11 dc11 pm11 an11 cd11 ct11), sl11⟩)
    (c11 : PySem.W.codeIn K cd11 "_law_sum" = true)
    (k11 : PySem.W.keepIn K (.ref f11) = true)
    (a12 : PySem.W.nsIn K mainGlobals "_law_signs" = some (some (.ref f12)))
    (l12 : K.lookup f12 = some ⟨oc12, od12, .func (PySem.W.fnOf "_law_signs" "_law_signs" (defArgs (top 41)) (defBody (top 41)) (defScope (top 41)) .none kV12 dc12 pm12 an12 cd12 ct12), sl12⟩)
    (c12 : PySem.W.codeIn K cd12 "_law_signs" = true)
    (k12 : PySem.W.keepIn K (.ref f12) = true)
    (a13 : PySem.W.nsIn K mainGlobals "require_data" = some (some (.ref f13)))
    (l13 : K.lookup f13 = some ⟨oc13, od13, .func (PySem.W.fnOf "require_data" "require_data" (defArgs (top 11)) (defBody (top 11)) (defScope (top 11)) .none kV13 dc13 pm13 an13 cd13 ct13), sl13⟩)
    (c13 : PySem.W.codeIn K cd13 "require_data" = true)
    (k13 : PySem.W.keepIn K (.ref f13) = true)
    (a14 : PySem.W.nsIn K mainGlobals "text_of" = some (some (.ref f14)))
    (l14 : K.lookup f14 = some ⟨oc14, od14, .func (PySem.W.fnOf "text_of" "text_of" (defArgs (top 14)) (defBody (top 14)) (defScope (top 14)) .none kV14 dc14 pm14 an14 cd14 ct14), sl14⟩)
    (c14 : PySem.W.codeIn K cd14 "text_of" = true)
    (k14 : PySem.W.keepIn K (.ref f14) = true)
    (a15 : PySem.W.nsIn K mainGlobals "_sums" = some (some (.ref f15)))
    (l15 : K.lookup f15 = some ⟨oc15, od15, .func (PySem.W.fnOf "_sums" "_sums" (defArgs (top 27)) (defBody (top 27)) (defScope (top 27)) .none kV15 dc15 pm15 an15 cd15 ct15), sl15⟩)
    (c15 : PySem.W.codeIn K cd15 "_sums" = true)
    (k15 : PySem.W.keepIn K (.ref f15) = true)
    (a16 : PySem.W.nsIn K mainGlobals "_check_between" = some (some (.ref f16)))
    (l16 : K.lookup f16 = some ⟨oc16, od16, .func (PySem.W.fnOf "_check_between" "_check_between" (defArgs (top 28)) (defBody (top 28)) (defScope (top 28)) .none kV16 dc16 pm16 an16 cd16 ct16), sl16⟩)
    (c16 : PySem.W.codeIn K cd16 "_check_between" = true)
    (k16 : PySem.W.keepIn K (.ref f16) = true)
    (a17 : PySem.W.nsIn K mainGlobals "_law_next" = some (some (.ref f17)))
    (l17 : K.lookup f17 = some ⟨oc17, od17, .func (PySem.W.fnOf "_law_next" "_law_next" (defArgs (top 38)) (defBody (top 38)) (defScope (top 38)) .none kV17 dc17 pm17 an17 cd17 ct17), sl17⟩)
    (c17 : PySem.W.codeIn K cd17 "_law_next" = true)
    (k17 : PySem.W.keepIn K (.ref f17) = true)
    (a18 : PySem.W.nsIn K mainGlobals "_law_entry" = some (some (.ref f18)))
    (l18 : K.lookup f18 = some ⟨oc18, od18, .func (PySem.W.fnOf "_law_entry" "_law_entry" (defArgs (top 42)) (defBody (top 42)) (defScope (top 42)) .none kV18 dc18 pm18 an18 cd18 ct18), sl18⟩)
    (c18 : PySem.W.codeIn K cd18 "_law_entry" = true)
    (k18 : PySem.W.keepIn K (.ref f18) = true)
    (a19 : PySem.W.nsIn K mainGlobals "_law_row" = some (some (.ref f19)))
    (l19 : K.lookup f19 = some ⟨oc19, od19, .func (PySem.W.fnOf "_law_row" "_law_row" (defArgs (top 43)) (defBody (top 43)) (defScope (top 43)) .none kV19 dc19 pm19 an19 cd19 ct19), sl19⟩)
    (c19 : PySem.W.codeIn K cd19 "_law_row" = true)
    (k19 : PySem.W.keepIn K (.ref f19) = true)
    (a20 : PySem.W.nsIn K mainGlobals "_law_tail" = some (some (.ref f20)))
    (l20 : K.lookup f20 = some ⟨oc20, od20, .func (PySem.W.fnOf "_law_tail" "_law_tail" (defArgs (top 44)) (defBody (top 44)) (defScope (top 44)) .none kV20 dc20 pm20 an20 cd20 ct20), sl20⟩)
    (c20 : PySem.W.codeIn K cd20 "_law_tail" = true)
    (k20 : PySem.W.keepIn K (.ref f20) = true)
    (a21 : PySem.W.nsIn K mainGlobals "name_at" = some (some (.ref f21)))
    (l21 : K.lookup f21 = some ⟨oc21, od21, .func (PySem.W.fnOf "name_at" "name_at" (defArgs (top 23)) (defBody (top 23)) (defScope (top 23)) .none kV21 dc21 pm21 an21 cd21 ct21), sl21⟩)
    (c21 : PySem.W.codeIn K cd21 "name_at" = true)
    (k21 : PySem.W.keepIn K (.ref f21) = true)
    (a22 : PySem.W.nsIn K mainGlobals "_law_archive" = some (some (.ref f22)))
    (l22 : K.lookup f22 = some ⟨oc22, od22, .func (PySem.W.fnOf "_law_archive" "_law_archive" (defArgs (top 45)) (defBody (top 45)) (defScope (top 45)) .none kV22 dc22 pm22 an22 cd22 ct22), sl22⟩)
    (c22 : PySem.W.codeIn K cd22 "_law_archive" = true)
    (k22 : PySem.W.keepIn K (.ref f22) = true)
    (a23 : PySem.W.nsIn K mainGlobals "_law_drawn_payload" = some (some (.ref f23)))
    (l23 : K.lookup f23 = some ⟨oc23, od23, .func (PySem.W.fnOf "_law_drawn_payload" "_law_drawn_payload" (defArgs (top 47)) (defBody (top 47)) (defScope (top 47)) .none kV23 dc23 pm23 an23 cd23 ct23), sl23⟩)
    (c23 : PySem.W.codeIn K cd23 "_law_drawn_payload" = true)
    (k23 : PySem.W.keepIn K (.ref f23) = true)
    (a24 : PySem.W.nsIn K mainGlobals "_head_at" = some (some (.ref f24)))
    (l24 : K.lookup f24 = some ⟨oc24, od24, .func (PySem.W.fnOf "_head_at" "_head_at" (defArgs (top 26)) (defBody (top 26)) (defScope (top 26)) .none kV24 dc24 pm24 an24 cd24 ct24), sl24⟩)
    (c24 : PySem.W.codeIn K cd24 "_head_at" = true)
    (k24 : PySem.W.keepIn K (.ref f24) = true)
    (a25 : PySem.W.nsIn K mainGlobals "sound_entries" = some (some (.ref f25)))
    (l25 : K.lookup f25 = some ⟨oc25, od25, .func (PySem.W.fnOf "sound_entries" "sound_entries" (defArgs (top 25)) (defBody (top 25)) (defScope (top 25)) .none kV25 dc25 pm25 an25 cd25 ct25), sl25⟩)
    (c25 : PySem.W.codeIn K cd25 "sound_entries" = true)
    (k25 : PySem.W.keepIn K (.ref f25) = true)
    (a26 : PySem.W.nsIn K mainGlobals "chosen_entries" = some (some (.ref f26)))
    (l26 : K.lookup f26 = some ⟨oc26, od26, .func (PySem.W.fnOf "chosen_entries" "chosen_entries" (defArgs (top 32)) (defBody (top 32)) (defScope (top 32)) .none kV26 dc26 pm26 an26 cd26 ct26), sl26⟩)
    (c26 : PySem.W.codeIn K cd26 "chosen_entries" = true)
    (k26 : PySem.W.keepIn K (.ref f26) = true)
    (a27 : PySem.W.nsIn K mainGlobals "remains" = some (some (.ref f27)))
    (l27 : K.lookup f27 = some ⟨oc27, od27, .func (PySem.W.fnOf "remains" "remains" (defArgs (top 33)) (defBody (top 33)) (defScope (top 33)) .none kV27 dc27 pm27 an27 cd27 ct27), sl27⟩)
    (c27 : PySem.W.codeIn K cd27 "remains" = true)
    (k27 : PySem.W.keepIn K (.ref f27) = true)
    (a28 : PySem.W.nsIn K mainGlobals "salvage" = some (some (.ref f28)))
    (l28 : K.lookup f28 = some ⟨oc28, od28, .func (PySem.W.fnOf "salvage" "salvage" (defArgs (top 31)) (defBody (top 31)) (defScope (top 31)) .none kV28 dc28 pm28 an28 cd28 ct28), sl28⟩)
    (c28 : PySem.W.codeIn K cd28 "salvage" = true)
    (k28 : PySem.W.keepIn K (.ref f28) = true)
    (a29 : PySem.W.nsIn K mainGlobals "_law_told" = some (some (.ref f29)))
    (l29 : K.lookup f29 = some ⟨oc29, od29, .func (PySem.W.fnOf "_law_told" "_law_told" (defArgs (top 49)) (defBody (top 49)) (defScope (top 49)) .none kV29 dc29 pm29 an29 cd29 ct29), sl29⟩)
    (c29 : PySem.W.codeIn K cd29 "_law_told" = true)
    (k29 : PySem.W.keepIn K (.ref f29) = true)
    (a30 : PySem.W.nsIn K mainGlobals "_law_deep_right" = some (some (.ref f30)))
    (l30 : K.lookup f30 = some ⟨oc30, od30, .func (PySem.W.fnOf "_law_deep_right" "_law_deep_right" (defArgs (top 50)) (defBody (top 50)) (defScope (top 50)) .none kV30 dc30 pm30 an30 cd30 ct30), sl30⟩)
    (c30 : PySem.W.codeIn K cd30 "_law_deep_right" = true)
    (k30 : PySem.W.keepIn K (.ref f30) = true)
    (a31 : PySem.W.nsIn K mainGlobals "_law_overlaps_right" = some (some (.ref f31)))
    (l31 : K.lookup f31 = some ⟨oc31, od31, .func (PySem.W.fnOf "_law_overlaps_right" "_law_overlaps_right" (defArgs (top 51)) (defBody (top 51)) (defScope (top 51)) .none kV31 dc31 pm31 an31 cd31 ct31), sl31⟩)
    (c31 : PySem.W.codeIn K cd31 "_law_overlaps_right" = true)
    (k31 : PySem.W.keepIn K (.ref f31) = true)
    (a32 : PySem.W.nsIn K mainGlobals "_law_named_right" = some (some (.ref f32)))
    (l32 : K.lookup f32 = some ⟨oc32, od32, .func (PySem.W.fnOf "_law_named_right" "_law_named_right" (defArgs (top 52)) (defBody (top 52)) (defScope (top 52)) .none kV32 dc32 pm32 an32 cd32 ct32), sl32⟩)
    (c32 : PySem.W.codeIn K cd32 "_law_named_right" = true)
    (k32 : PySem.W.keepIn K (.ref f32) = true)
    (a33 : PySem.W.nsIn K mainGlobals "_law_hidden_right" = some (some (.ref f33)))
    (l33 : K.lookup f33 = some ⟨oc33, od33, .func (PySem.W.fnOf "_law_hidden_right" "_law_hidden_right" (defArgs (top 53)) (defBody (top 53)) (defScope (top 53)) .none kV33 dc33 pm33 an33 cd33 ct33), sl33⟩)
    (c33 : PySem.W.codeIn K cd33 "_law_hidden_right" = true)
    (k33 : PySem.W.keepIn K (.ref f33) = true)
    (a34 : PySem.W.nsIn K mainGlobals "_law_begin" = some (some (.ref f34)))
    (l34 : K.lookup f34 = some ⟨oc34, od34, .func (PySem.W.fnOf "_law_begin" "_law_begin" (defArgs (top 36)) (defBody (top 36)) (defScope (top 36)) .none kV34 dc34 pm34 an34 cd34 ct34), sl34⟩)
    (c34 : PySem.W.codeIn K cd34 "_law_begin" = true)
    (k34 : PySem.W.keepIn K (.ref f34) = true)
    (a35 : PySem.W.nsIn K mainGlobals "law" = some (some (.ref f35)))
    (l35 : K.lookup f35 = some ⟨oc35, od35, .func (PySem.W.fnOf "law" "law" (defArgs (top 54)) (defBody (top 54)) (defScope (top 54)) .none kV35 dc35 pm35 an35 cd35 ct35), sl35⟩)
    (c35 : PySem.W.codeIn K cd35 "law" = true)
    (k35 : PySem.W.keepIn K (.ref f35) = true)
    (b_isinstance : PySem.W.nsIn K mainGlobals "isinstance" = some none)
    (b_tuple : PySem.W.nsIn K mainGlobals "tuple" = some none)
    (b_len : PySem.W.nsIn K mainGlobals "len" = some none)
    (b_zip : PySem.W.nsIn K mainGlobals "zip" = some none)
    (b_enumerate : PySem.W.nsIn K mainGlobals "enumerate" = some none)
    (b_bool : PySem.W.nsIn K mainGlobals "bool" = some none)
    (b_int : PySem.W.nsIn K mainGlobals "int" = some none)
    (b_str : PySem.W.nsIn K mainGlobals "str" = some none)
    (b_all : PySem.W.nsIn K mainGlobals "all" = some none)
    (b_sorted : PySem.W.nsIn K mainGlobals "sorted" = some none)
    (b_reversed : PySem.W.nsIn K mainGlobals "reversed" = some none)
    (b_range : PySem.W.nsIn K mainGlobals "range" = some none)
    (a_MODULUS : PySem.W.nsIn K mainGlobals "MODULUS" = some (some (.int 4294967291 t_MODULUS)))
    (a_FACTOR : PySem.W.nsIn K mainGlobals "FACTOR" = some (some (.int 257 t_FACTOR)))
    (a_FIRST_CHECK : PySem.W.nsIn K mainGlobals "FIRST_CHECK" = some (some (.int 7 t_FIRST_CHECK)))
    (a_LINE_END : PySem.W.nsIn K mainGlobals "_LINE_END" = some (some (.int 10 t_LINE_END)))
    (a_LOW : PySem.W.nsIn K mainGlobals "_LOW" = some (some (.int 32 t_LOW)))
    (a_SIGNS : PySem.W.nsIn K mainGlobals "_SIGNS" = some (some (.str " !\"#$\t&'()*+,-./0123456789:;<=>?@ABCDEFGHIJKLMNOPQRSTUVWXYZ[\\]^_`abcdefghijklmnopqrstuvwxyz{|}~" t_SIGNS)))
    (a_NO_TEXT : PySem.W.nsIn K mainGlobals "_NO_TEXT" = some (some (.str "\t" t_NO_TEXT)))
    (a_MOST_NAME : PySem.W.nsIn K mainGlobals "MOST_NAME" = some (some (.int 40 t_MOST_NAME)))
    (a_MOST_PAYLOAD : PySem.W.nsIn K mainGlobals "MOST_PAYLOAD" = some (some (.int 150000 t_MOST_PAYLOAD)))
    (l_MARK : K.lookup A_MARK = some ⟨.type "tuple", o_MARK, .seq #[.int 66 t_MARK_0, .int 80 t_MARK_1, .int 69 t_MARK_2] n_MARK, s_MARK⟩)
    (a_MARK : PySem.W.nsIn K mainGlobals "_MARK" = some (some (.ref A_MARK)))
    (a_NAME_SIGNS : PySem.W.nsIn K mainGlobals "_NAME_SIGNS" = some (some (.str "abcdefghijklmnopqrstuvwxyz0123456789./-" t_NAME_SIGNS))) :
    ∃ fd : FuncData, (∀ (s : Shared) (v : Value), BindsTo s fd ⟨[v], []⟩ [("script", v)]) ∧ ∀ base : Heap, K.In base → base.Ns mainGlobals mg → FnG l.prog w K mg base 10 fa fd ["script"] (spLaw K) := by
  have e := hfa.symm.trans (PySem.W.mg_of X G a35)
  cases e
  have T : Txt K mg := ⟨PySem.W.mg_none_of X G b_isinstance, PySem.W.mg_none_of X G b_tuple, PySem.W.mg_none_of X G b_len, PySem.W.mg_none_of X G b_zip, PySem.W.mg_none_of X G b_enumerate, PySem.W.mg_none_of X G b_bool, PySem.W.mg_none_of X G b_int, PySem.W.mg_none_of X G b_str, PySem.W.mg_none_of X G b_all, PySem.W.mg_none_of X G b_sorted, PySem.W.mg_none_of X G b_reversed, PySem.W.mg_none_of X G b_range⟩
  have Z : Ec K mg := ⟨z_BadOctets⟩
  have C : Cn K mg := {
    MODULUS := gc_int (PySem.W.mg_of X G a_MODULUS)
    FACTOR := gc_int (PySem.W.mg_of X G a_FACTOR)
    FIRST_CHECK := gc_int (PySem.W.mg_of X G a_FIRST_CHECK)
    _LINE_END := gc_int (PySem.W.mg_of X G a_LINE_END)
    _LOW := gc_int (PySem.W.mg_of X G a_LOW)
    _SIGNS := gc_str (PySem.W.mg_of X G a_SIGNS)
    _NO_TEXT := gc_str (PySem.W.mg_of X G a_NO_TEXT)
    MOST_NAME := gc_int (PySem.W.mg_of X G a_MOST_NAME)
    MOST_PAYLOAD := gc_int (PySem.W.mg_of X G a_MOST_PAYLOAD)
    _MARK := ⟨.ref A_MARK, _, PySem.W.mg_of X G a_MARK, rfl, fun dr G => (.tup (xs := [.int 66, .int 80, .int 69]) (.inr ⟨_, _, n_MARK, l_MARK, rfl, rfl, (by show 3 ≤ sizeLine; decide), (.cons ⟨_, rfl⟩ (.cons ⟨_, rfl⟩ (.cons ⟨_, rfl⟩ .nil)))⟩) (.cons (.int _) (.cons (.int _) (.cons (.int _) .nil))))⟩
    _NAME_SIGNS := gc_str (PySem.W.mg_of X G a_NAME_SIGNS) }
  have U1 := fun_mk (st := top 12) l1 c1 k1
  have bb1 := U1.binds (ps := ["check", "octets"]) fun _ _ _ _ _ _ us hl => match us, hl with | [_, _], _ => rfl
  have kb1 : ∀ (s : Shared) (us : List Value), us.length = 2 → BindsTo s (PySem.W.fnOf "running_check" "running_check" (defArgs (top 12)) (defBody (top 12)) (defScope (top 12)) .none kV1 dc1 pm1 an1 cd1 ct1) ⟨[], (["check", "octets"] : List Str).zip us⟩ ((["check", "octets"] : List Str).zip us) := fun s us hl => match us, hl with | [_, _], _ => .of_eq rfl
  have U2 := fun_mk (st := top 13) l2 c2 k2
  have bb2 := U2.binds (ps := ["octets"]) fun _ _ _ _ _ _ us hl => match us, hl with | [_], _ => rfl
  have kb2 : ∀ (s : Shared) (us : List Value), us.length = 1 → BindsTo s (PySem.W.fnOf "number_of" "number_of" (defArgs (top 13)) (defBody (top 13)) (defScope (top 13)) .none kV2 dc2 pm2 an2 cd2 ct2) ⟨[], (["octets"] : List Str).zip us⟩ ((["octets"] : List Str).zip us) := fun s us hl => match us, hl with | [_], _ => .of_eq rfl
  have U3 := fun_mk (st := top 15) l3 c3 k3
  have bb3 := U3.binds (ps := ["values"]) fun _ _ _ _ _ _ us hl => match us, hl with | [_], _ => rfl
  have kb3 : ∀ (s : Shared) (us : List Value), us.length = 1 → BindsTo s (PySem.W.fnOf "_first_odd" "_first_odd" (defArgs (top 15)) (defBody (top 15)) (defScope (top 15)) .none kV3 dc3 pm3 an3 cd3 ct3) ⟨[], (["values"] : List Str).zip us⟩ ((["values"] : List Str).zip us) := fun s us hl => match us, hl with | [_], _ => .of_eq rfl
  have U4 := fun_mk (st := top 16) l4 c4 k4
  have bb4 := U4.binds (ps := ["octet"]) fun _ _ _ _ _ _ us hl => match us, hl with | [_], _ => rfl
  have kb4 : ∀ (s : Shared) (us : List Value), us.length = 1 → BindsTo s (PySem.W.fnOf "_sign_of" "_sign_of" (defArgs (top 16)) (defBody (top 16)) (defScope (top 16)) .none kV4 dc4 pm4 an4 cd4 ct4) ⟨[], (["octet"] : List Str).zip us⟩ ((["octet"] : List Str).zip us) := fun s us hl => match us, hl with | [_], _ => .of_eq rfl
  have U5 := fun_mk (st := top 22) l5 c5 k5
  have bb5 := U5.binds (ps := ["value"]) fun _ _ _ _ _ _ us hl => match us, hl with | [_], _ => rfl
  have kb5 : ∀ (s : Shared) (us : List Value), us.length = 1 → BindsTo s (PySem.W.fnOf "is_entry_name" "is_entry_name" (defArgs (top 22)) (defBody (top 22)) (defScope (top 22)) .none kV5 dc5 pm5 an5 cd5 ct5) ⟨[], (["value"] : List Str).zip us⟩ ((["value"] : List Str).zip us) := fun s us hl => match us, hl with | [_], _ => .of_eq rfl
  have U6 := fun_mk (st := top 24) l6 c6 k6
  have bb6 := U6.binds (ps := ["data"]) fun _ _ _ _ _ _ us hl => match us, hl with | [_], _ => rfl
  have kb6 : ∀ (s : Shared) (us : List Value), us.length = 1 → BindsTo s (PySem.W.fnOf "marked_offsets" "marked_offsets" (defArgs (top 24)) (defBody (top 24)) (defScope (top 24)) .none kV6 dc6 pm6 an6 cd6 ct6) ⟨[], (["data"] : List Str).zip us⟩ ((["data"] : List Str).zip us) := fun s us hl => match us, hl with | [_], _ => .of_eq rfl
  have U7 := fun_mk (st := top 29) l7 c7 k7
  have bb7 := U7.binds (ps := ["count"]) fun _ _ _ _ _ _ us hl => match us, hl with | [_], _ => rfl
  have kb7 : ∀ (s : Shared) (us : List Value), us.length = 1 → BindsTo s (PySem.W.fnOf "_factor_of" "_factor_of" (defArgs (top 29)) (defBody (top 29)) (defScope (top 29)) .none kV7 dc7 pm7 an7 cd7 ct7) ⟨[], (["count"] : List Str).zip us⟩ ((["count"] : List Str).zip us) := fun s us hl => match us, hl with | [_], _ => .of_eq rfl
  have U8 := fun_mk (st := top 34) l8 c8 k8
  have bb8 := U8.binds (ps := ["size", "entries"]) fun _ _ _ _ _ _ us hl => match us, hl with | [_, _], _ => rfl
  have kb8 : ∀ (s : Shared) (us : List Value), us.length = 2 → BindsTo s (PySem.W.fnOf "_most_octets" "_most_octets" (defArgs (top 34)) (defBody (top 34)) (defScope (top 34)) .none kV8 dc8 pm8 an8 cd8 ct8) ⟨[], (["size", "entries"] : List Str).zip us⟩ ((["size", "entries"] : List Str).zip us) := fun s us hl => match us, hl with | [_, _], _ => .of_eq rfl
  have U9 := fun_mk (st := top 37) l9 c9 k9
  have bb9 := U9.binds (ps := ["cell", "k"]) fun _ _ _ _ _ _ us hl => match us, hl with | [_, _], _ => rfl
  have kb9 : ∀ (s : Shared) (us : List Value), us.length = 2 → BindsTo s (PySem.W.fnOf "_law_mixed" "_law_mixed" (defArgs (top 37)) (defBody (top 37)) (defScope (top 37)) .none kV9 dc9 pm9 an9 cd9 ct9) ⟨[], (["cell", "k"] : List Str).zip us⟩ ((["cell", "k"] : List Str).zip us) := fun s us hl => match us, hl with | [_, _], _ => .of_eq rfl
  have U10 := fun_mk (st := top 39) l10 c10 k10
  have bb10 := U10.binds (ps := ["number", "many"]) fun _ _ _ _ _ _ us hl => match us, hl with | [_, _], _ => rfl
  have kb10 : ∀ (s : Shared) (us : List Value), us.length = 2 → BindsTo s (PySem.W.fnOf "_law_number" "_law_number" (defArgs (top 39)) (defBody (top 39)) (defScope (top 39)) .none kV10 dc10 pm10 an10 cd10 ct10) ⟨[], (["number", "many"] : List Str).zip us⟩ ((["number", "many"] : List Str).zip us) := fun s us hl => match us, hl with | [_, _], _ => .of_eq rfl
  have U11 := fun_mk (st := top 40) l11 c11 k11
  have bb11 := U11.binds (ps := ["octets"]) fun _ _ _ _ _ _ us hl => match us, hl with | [_], _ => rfl
  have kb11 : ∀ (s : Shared) (us : List Value), us.length = 1 → BindsTo s (PySem.W.fnOf "_law_sum" "_law_sum" (defArgs (top 40)) (defBody (top 40)) (defScope (top 40)) .none kV11 dc11 pm11 an11 cd11 ct11) ⟨[], (["octets"] : List Str).zip us⟩ ((["octets"] : List Str).zip us) := fun s us hl => match us, hl with | [_], _ => .of_eq rfl
  have U12 := fun_mk (st := top 41) l12 c12 k12
  have bb12 := U12.binds (ps := ["title"]) fun _ _ _ _ _ _ us hl => match us, hl with | [_], _ => rfl
  have kb12 : ∀ (s : Shared) (us : List Value), us.length = 1 → BindsTo s (PySem.W.fnOf "_law_signs" "_law_signs" (defArgs (top 41)) (defBody (top 41)) (defScope (top 41)) .none kV12 dc12 pm12 an12 cd12 ct12) ⟨[], (["title"] : List Str).zip us⟩ ((["title"] : List Str).zip us) := fun s us hl => match us, hl with | [_], _ => .of_eq rfl
  have U13 := fun_mk (st := top 11) l13 c13 k13
  have bb13 := U13.binds (ps := ["data"]) fun _ _ _ _ _ _ us hl => match us, hl with | [_], _ => rfl
  have kb13 : ∀ (s : Shared) (us : List Value), us.length = 1 → BindsTo s (PySem.W.fnOf "require_data" "require_data" (defArgs (top 11)) (defBody (top 11)) (defScope (top 11)) .none kV13 dc13 pm13 an13 cd13 ct13) ⟨[], (["data"] : List Str).zip us⟩ ((["data"] : List Str).zip us) := fun s us hl => match us, hl with | [_], _ => .of_eq rfl
  have U14 := fun_mk (st := top 14) l14 c14 k14
  have bb14 := U14.binds (ps := ["octets"]) fun _ _ _ _ _ _ us hl => match us, hl with | [_], _ => rfl
  have kb14 : ∀ (s : Shared) (us : List Value), us.length = 1 → BindsTo s (PySem.W.fnOf "text_of" "text_of" (defArgs (top 14)) (defBody (top 14)) (defScope (top 14)) .none kV14 dc14 pm14 an14 cd14 ct14) ⟨[], (["octets"] : List Str).zip us⟩ ((["octets"] : List Str).zip us) := fun s us hl => match us, hl with | [_], _ => .of_eq rfl
  have U15 := fun_mk (st := top 27) l15 c15 k15
  have bb15 := U15.binds (ps := ["data", "heads"]) fun _ _ _ _ _ _ us hl => match us, hl with | [_, _], _ => rfl
  have kb15 : ∀ (s : Shared) (us : List Value), us.length = 2 → BindsTo s (PySem.W.fnOf "_sums" "_sums" (defArgs (top 27)) (defBody (top 27)) (defScope (top 27)) .none kV15 dc15 pm15 an15 cd15 ct15) ⟨[], (["data", "heads"] : List Str).zip us⟩ ((["data", "heads"] : List Str).zip us) := fun s us hl => match us, hl with | [_, _], _ => .of_eq rfl
  have U16 := fun_mk (st := top 28) l16 c16 k16
  have bb16 := U16.binds (ps := ["sums", "begin", "end"]) fun _ _ _ _ _ _ us hl => match us, hl with | [_, _, _], _ => rfl
  have kb16 : ∀ (s : Shared) (us : List Value), us.length = 3 → BindsTo s (PySem.W.fnOf "_check_between" "_check_between" (defArgs (top 28)) (defBody (top 28)) (defScope (top 28)) .none kV16 dc16 pm16 an16 cd16 ct16) ⟨[], (["sums", "begin", "end"] : List Str).zip us⟩ ((["sums", "begin", "end"] : List Str).zip us) := fun s us hl => match us, hl with | [_, _, _], _ => .of_eq rfl
  have U17 := fun_mk (st := top 38) l17 c17 k17
  have bb17 := U17.binds (ps := ["draw", "bound"]) fun _ _ _ _ _ _ us hl => match us, hl with | [_, _], _ => rfl
  have kb17 : ∀ (s : Shared) (us : List Value), us.length = 2 → BindsTo s (PySem.W.fnOf "_law_next" "_law_next" (defArgs (top 38)) (defBody (top 38)) (defScope (top 38)) .none kV17 dc17 pm17 an17 cd17 ct17) ⟨[], (["draw", "bound"] : List Str).zip us⟩ ((["draw", "bound"] : List Str).zip us) := fun s us hl => match us, hl with | [_, _], _ => .of_eq rfl
  have U18 := fun_mk (st := top 42) l18 c18 k18
  have bb18 := U18.binds (ps := ["title", "payload"]) fun _ _ _ _ _ _ us hl => match us, hl with | [_, _], _ => rfl
  have kb18 : ∀ (s : Shared) (us : List Value), us.length = 2 → BindsTo s (PySem.W.fnOf "_law_entry" "_law_entry" (defArgs (top 42)) (defBody (top 42)) (defScope (top 42)) .none kV18 dc18 pm18 an18 cd18 ct18) ⟨[], (["title", "payload"] : List Str).zip us⟩ ((["title", "payload"] : List Str).zip us) := fun s us hl => match us, hl with | [_, _], _ => .of_eq rfl
  have U19 := fun_mk (st := top 43) l19 c19 k19
  have bb19 := U19.binds (ps := ["title", "at", "payload"]) fun _ _ _ _ _ _ us hl => match us, hl with | [_, _, _], _ => rfl
  have kb19 : ∀ (s : Shared) (us : List Value), us.length = 3 → BindsTo s (PySem.W.fnOf "_law_row" "_law_row" (defArgs (top 43)) (defBody (top 43)) (defScope (top 43)) .none kV19 dc19 pm19 an19 cd19 ct19) ⟨[], (["title", "at", "payload"] : List Str).zip us⟩ ((["title", "at", "payload"] : List Str).zip us) := fun s us hl => match us, hl with | [_, _, _], _ => .of_eq rfl
  have U20 := fun_mk (st := top 44) l20 c20 k20
  have bb20 := U20.binds (ps := ["rows", "at"]) fun _ _ _ _ _ _ us hl => match us, hl with | [_, _], _ => rfl
  have kb20 : ∀ (s : Shared) (us : List Value), us.length = 2 → BindsTo s (PySem.W.fnOf "_law_tail" "_law_tail" (defArgs (top 44)) (defBody (top 44)) (defScope (top 44)) .none kV20 dc20 pm20 an20 cd20 ct20) ⟨[], (["rows", "at"] : List Str).zip us⟩ ((["rows", "at"] : List Str).zip us) := fun s us hl => match us, hl with | [_, _], _ => .of_eq rfl
  have U21 := fun_mk (st := top 23) l21 c21 k21
  have bb21 := U21.binds (ps := ["octets", "at"]) fun _ _ _ _ _ _ us hl => match us, hl with | [_, _], _ => rfl
  have kb21 : ∀ (s : Shared) (us : List Value), us.length = 2 → BindsTo s (PySem.W.fnOf "name_at" "name_at" (defArgs (top 23)) (defBody (top 23)) (defScope (top 23)) .none kV21 dc21 pm21 an21 cd21 ct21) ⟨[], (["octets", "at"] : List Str).zip us⟩ ((["octets", "at"] : List Str).zip us) := fun s us hl => match us, hl with | [_, _], _ => .of_eq rfl
  have U22 := fun_mk (st := top 45) l22 c22 k22
  have bb22 := U22.binds (ps := ["pairs"]) fun _ _ _ _ _ _ us hl => match us, hl with | [_], _ => rfl
  have kb22 : ∀ (s : Shared) (us : List Value), us.length = 1 → BindsTo s (PySem.W.fnOf "_law_archive" "_law_archive" (defArgs (top 45)) (defBody (top 45)) (defScope (top 45)) .none kV22 dc22 pm22 an22 cd22 ct22) ⟨[], (["pairs"] : List Str).zip us⟩ ((["pairs"] : List Str).zip us) := fun s us hl => match us, hl with | [_], _ => .of_eq rfl
  have U23 := fun_mk (st := top 47) l23 c23 k23
  have bb23 := U23.binds (ps := ["draw", "most"]) fun _ _ _ _ _ _ us hl => match us, hl with | [_, _], _ => rfl
  have kb23 : ∀ (s : Shared) (us : List Value), us.length = 2 → BindsTo s (PySem.W.fnOf "_law_drawn_payload" "_law_drawn_payload" (defArgs (top 47)) (defBody (top 47)) (defScope (top 47)) .none kV23 dc23 pm23 an23 cd23 ct23) ⟨[], (["draw", "most"] : List Str).zip us⟩ ((["draw", "most"] : List Str).zip us) := fun s us hl => match us, hl with | [_, _], _ => .of_eq rfl
  have U24 := fun_mk (st := top 26) l24 c24 k24
  have bb24 := U24.binds (ps := ["data", "offset"]) fun _ _ _ _ _ _ us hl => match us, hl with | [_, _], _ => rfl
  have kb24 : ∀ (s : Shared) (us : List Value), us.length = 2 → BindsTo s (PySem.W.fnOf "_head_at" "_head_at" (defArgs (top 26)) (defBody (top 26)) (defScope (top 26)) .none kV24 dc24 pm24 an24 cd24 ct24) ⟨[], (["data", "offset"] : List Str).zip us⟩ ((["data", "offset"] : List Str).zip us) := fun s us hl => match us, hl with | [_, _], _ => .of_eq rfl
  have U25 := fun_mk (st := top 25) l25 c25 k25
  have bb25 := U25.binds (ps := ["data", "offsets"]) fun _ _ _ _ _ _ us hl => match us, hl with | [_, _], _ => rfl
  have kb25 : ∀ (s : Shared) (us : List Value), us.length = 2 → BindsTo s (PySem.W.fnOf "sound_entries" "sound_entries" (defArgs (top 25)) (defBody (top 25)) (defScope (top 25)) .none kV25 dc25 pm25 an25 cd25 ct25) ⟨[], (["data", "offsets"] : List Str).zip us⟩ ((["data", "offsets"] : List Str).zip us) := fun s us hl => match us, hl with | [_, _], _ => .of_eq rfl
  have U26 := fun_mk (st := top 32) l26 c26 k26
  have bb26 := U26.binds (ps := ["data"]) fun _ _ _ _ _ _ us hl => match us, hl with | [_], _ => rfl
  have kb26 : ∀ (s : Shared) (us : List Value), us.length = 1 → BindsTo s (PySem.W.fnOf "chosen_entries" "chosen_entries" (defArgs (top 32)) (defBody (top 32)) (defScope (top 32)) .none kV26 dc26 pm26 an26 cd26 ct26) ⟨[], (["data"] : List Str).zip us⟩ ((["data"] : List Str).zip us) := fun s us hl => match us, hl with | [_], _ => .of_eq rfl
  have U27 := fun_mk (st := top 33) l27 c27 k27
  have bb27 := U27.binds (ps := ["data"]) fun _ _ _ _ _ _ us hl => match us, hl with | [_], _ => rfl
  have kb27 : ∀ (s : Shared) (us : List Value), us.length = 1 → BindsTo s (PySem.W.fnOf "remains" "remains" (defArgs (top 33)) (defBody (top 33)) (defScope (top 33)) .none kV27 dc27 pm27 an27 cd27 ct27) ⟨[], (["data"] : List Str).zip us⟩ ((["data"] : List Str).zip us) := fun s us hl => match us, hl with | [_], _ => .of_eq rfl
  have U28 := fun_mk (st := top 31) l28 c28 k28
  have bb28 := U28.binds (ps := ["data"]) fun _ _ _ _ _ _ us hl => match us, hl with | [_], _ => rfl
  have kb28 : ∀ (s : Shared) (us : List Value), us.length = 1 → BindsTo s (PySem.W.fnOf "salvage" "salvage" (defArgs (top 31)) (defBody (top 31)) (defScope (top 31)) .none kV28 dc28 pm28 an28 cd28 ct28) ⟨[], (["data"] : List Str).zip us⟩ ((["data"] : List Str).zip us) := fun s us hl => match us, hl with | [_], _ => .of_eq rfl
  have U29 := fun_mk (st := top 49) l29 c29 k29
  have bb29 := U29.binds (ps := ["data"]) fun _ _ _ _ _ _ us hl => match us, hl with | [_], _ => rfl
  have kb29 : ∀ (s : Shared) (us : List Value), us.length = 1 → BindsTo s (PySem.W.fnOf "_law_told" "_law_told" (defArgs (top 49)) (defBody (top 49)) (defScope (top 49)) .none kV29 dc29 pm29 an29 cd29 ct29) ⟨[], (["data"] : List Str).zip us⟩ ((["data"] : List Str).zip us) := fun s us hl => match us, hl with | [_], _ => .of_eq rfl
  have U30 := fun_mk (st := top 50) l30 c30 k30
  have bb30 := U30.binds (ps := ["draw", "one", "two"]) fun _ _ _ _ _ _ us hl => match us, hl with | [_, _, _], _ => rfl
  have kb30 : ∀ (s : Shared) (us : List Value), us.length = 3 → BindsTo s (PySem.W.fnOf "_law_deep_right" "_law_deep_right" (defArgs (top 50)) (defBody (top 50)) (defScope (top 50)) .none kV30 dc30 pm30 an30 cd30 ct30) ⟨[], (["draw", "one", "two"] : List Str).zip us⟩ ((["draw", "one", "two"] : List Str).zip us) := fun s us hl => match us, hl with | [_, _, _], _ => .of_eq rfl
  have U31 := fun_mk (st := top 51) l31 c31 k31
  have bb31 := U31.binds (ps := ["size"]) fun _ _ _ _ _ _ us hl => match us, hl with | [_], _ => rfl
  have kb31 : ∀ (s : Shared) (us : List Value), us.length = 1 → BindsTo s (PySem.W.fnOf "_law_overlaps_right" "_law_overlaps_right" (defArgs (top 51)) (defBody (top 51)) (defScope (top 51)) .none kV31 dc31 pm31 an31 cd31 ct31) ⟨[], (["size"] : List Str).zip us⟩ ((["size"] : List Str).zip us) := fun s us hl => match us, hl with | [_], _ => .of_eq rfl
  have U32 := fun_mk (st := top 52) l32 c32 k32
  have bb32 := U32.binds (ps := ["size"]) fun _ _ _ _ _ _ us hl => match us, hl with | [_], _ => rfl
  have kb32 : ∀ (s : Shared) (us : List Value), us.length = 1 → BindsTo s (PySem.W.fnOf "_law_named_right" "_law_named_right" (defArgs (top 52)) (defBody (top 52)) (defScope (top 52)) .none kV32 dc32 pm32 an32 cd32 ct32) ⟨[], (["size"] : List Str).zip us⟩ ((["size"] : List Str).zip us) := fun s us hl => match us, hl with | [_], _ => .of_eq rfl
  have U33 := fun_mk (st := top 53) l33 c33 k33
  have bb33 := U33.binds (ps := []) fun _ _ _ _ _ _ us hl => match us, hl with | [], _ => rfl
  have kb33 : ∀ (s : Shared) (us : List Value), us.length = 0 → BindsTo s (PySem.W.fnOf "_law_hidden_right" "_law_hidden_right" (defArgs (top 53)) (defBody (top 53)) (defScope (top 53)) .none kV33 dc33 pm33 an33 cd33 ct33) ⟨[], ([] : List Str).zip us⟩ (([] : List Str).zip us) := fun s us hl => match us, hl with | [], _ => .of_eq rfl
  have U34 := fun_mk (st := top 36) l34 c34 k34
  have bb34 := U34.binds (ps := ["script"]) fun _ _ _ _ _ _ us hl => match us, hl with | [_], _ => rfl
  have U35 := fun_mk (st := top 54) l35 c35 k35
  have bb35 := U35.binds (ps := ["script"]) fun _ _ _ _ _ _ us hl => match us, hl with | [_], _ => rfl
  refine ⟨_, fun s v => .of_eq (fd := PySem.W.fnOf "law" "law" (defArgs (top 54)) (defBody (top 54)) (defScope (top 54)) .none kV35 dc35 pm35 an35 cd35 ct35) rfl, fun base hb1 hb2 => ?_⟩
  have D_running_check : Dn l.prog w K mg base 1 "running_check" ["check", "octets"] F_running_check := dn_mk U1 (PySem.W.mg_of X G a1) bb1 kb1 fun dr => ok_running_check T C Z bk  U1 dr
  have D_number_of : Dn l.prog w K mg base 1 "number_of" ["octets"] F_number_of := dn_mk U2 (PySem.W.mg_of X G a2) bb2 kb2 fun dr => ok_number_of T C Z bk  U2 dr
  have D__first_odd : Dn l.prog w K mg base 1 "_first_odd" ["values"] F__first_odd := dn_mk U3 (PySem.W.mg_of X G a3) bb3 kb3 fun dr => ok__first_odd T C Z bk  U3 dr
  have D__sign_of : Dn l.prog w K mg base 1 "_sign_of" ["octet"] F__sign_of := dn_mk U4 (PySem.W.mg_of X G a4) bb4 kb4 fun dr => ok__sign_of T C Z bk  U4 dr
  have D_is_entry_name : Dn l.prog w K mg base 1 "is_entry_name" ["value"] F_is_entry_name := dn_mk U5 (PySem.W.mg_of X G a5) bb5 kb5 fun dr => ok_is_entry_name T C Z bk  U5 dr
  have D_marked_offsets : Dn l.prog w K mg base 1 "marked_offsets" ["data"] F_marked_offsets := dn_mk U6 (PySem.W.mg_of X G a6) bb6 kb6 fun dr => ok_marked_offsets T C Z bk  U6 dr
  have D__factor_of : Dn l.prog w K mg base 1 "_factor_of" ["count"] F__factor_of := dn_mk U7 (PySem.W.mg_of X G a7) bb7 kb7 fun dr => ok__factor_of T C Z bk  U7 dr
  have D__most_octets : Dn l.prog w K mg base 1 "_most_octets" ["size", "entries"] F__most_octets := dn_mk U8 (PySem.W.mg_of X G a8) bb8 kb8 fun dr => ok__most_octets T C Z bk  U8 dr
  have D__law_mixed : Dn l.prog w K mg base 1 "_law_mixed" ["cell", "k"] F__law_mixed := dn_mk U9 (PySem.W.mg_of X G a9) bb9 kb9 fun dr => ok__law_mixed T C Z bk  U9 dr
  have D__law_number : Dn l.prog w K mg base 1 "_law_number" ["number", "many"] F__law_number := dn_mk U10 (PySem.W.mg_of X G a10) bb10 kb10 fun dr => ok__law_number T C Z bk  U10 dr
  have D__law_sum : Dn l.prog w K mg base 1 "_law_sum" ["octets"] F__law_sum := dn_mk U11 (PySem.W.mg_of X G a11) bb11 kb11 fun dr => ok__law_sum T C Z bk  U11 dr
  have D__law_signs : Dn l.prog w K mg base 1 "_law_signs" ["title"] F__law_signs := dn_mk U12 (PySem.W.mg_of X G a12) bb12 kb12 fun dr => ok__law_signs T C Z bk  U12 dr
  have D_require_data : Dn l.prog w K mg base 2 "require_data" ["data"] F_require_data := dn_mk U13 (PySem.W.mg_of X G a13) bb13 kb13 fun dr => ok_require_data T C Z bk D__first_odd U13 dr
  have D_text_of : Dn l.prog w K mg base 2 "text_of" ["octets"] F_text_of := dn_mk U14 (PySem.W.mg_of X G a14) bb14 kb14 fun dr => ok_text_of T C Z bk D__sign_of U14 dr
  have D__sums : Dn l.prog w K mg base 2 "_sums" ["data", "heads"] F__sums := dn_mk U15 (PySem.W.mg_of X G a15) bb15 kb15 fun dr => ok__sums T C Z bk D_running_check U15 dr
  have D__check_between : Dn l.prog w K mg base 2 "_check_between" ["sums", "begin", "end"] F__check_between := dn_mk U16 (PySem.W.mg_of X G a16) bb16 kb16 fun dr => ok__check_between T C Z bk D__factor_of U16 dr
  have D__law_next : Dn l.prog w K mg base 2 "_law_next" ["draw", "bound"] F__law_next := dn_mk U17 (PySem.W.mg_of X G a17) bb17 kb17 fun dr => ok__law_next T C Z bk D__law_mixed U17 dr
  have D__law_entry : Dn l.prog w K mg base 2 "_law_entry" ["title", "payload"] F__law_entry := dn_mk U18 (PySem.W.mg_of X G a18) bb18 kb18 fun dr => ok__law_entry T C Z bk D__law_signs D__law_number D__law_sum U18 dr
  have D__law_row : Dn l.prog w K mg base 2 "_law_row" ["title", "at", "payload"] F__law_row := dn_mk U19 (PySem.W.mg_of X G a19) bb19 kb19 fun dr => ok__law_row T C Z bk D__law_number D__law_signs D__law_sum U19 dr
  have D__law_tail : Dn l.prog w K mg base 2 "_law_tail" ["rows", "at"] F__law_tail := dn_mk U20 (PySem.W.mg_of X G a20) bb20 kb20 fun dr => ok__law_tail T C Z bk D__law_number D__law_sum U20 dr
  have D_name_at : Dn l.prog w K mg base 3 "name_at" ["octets", "at"] F_name_at := dn_mk U21 (PySem.W.mg_of X G a21) bb21 kb21 fun dr => ok_name_at T C Z bk D_text_of D_is_entry_name U21 dr
  have D__law_archive : Dn l.prog w K mg base 3 "_law_archive" ["pairs"] F__law_archive := dn_mk U22 (PySem.W.mg_of X G a22) bb22 kb22 fun dr => ok__law_archive T C Z bk D__law_tail D__law_row D__law_entry U22 dr
  have D__law_drawn_payload : Dn l.prog w K mg base 3 "_law_drawn_payload" ["draw", "most"] F__law_drawn_payload := dn_mk U23 (PySem.W.mg_of X G a23) bb23 kb23 fun dr => ok__law_drawn_payload T C Z bk D__law_next U23 dr
  have D__head_at : Dn l.prog w K mg base 4 "_head_at" ["data", "offset"] F__head_at := dn_mk U24 (PySem.W.mg_of X G a24) bb24 kb24 fun dr => ok__head_at T C Z bk D_name_at D_number_of U24 dr
  have D_sound_entries : Dn l.prog w K mg base 5 "sound_entries" ["data", "offsets"] F_sound_entries := dn_mk U25 (PySem.W.mg_of X G a25) bb25 kb25 fun dr => ok_sound_entries T C Z bk D__sums D__head_at D__check_between U25 dr
  have D_chosen_entries : Dn l.prog w K mg base 6 "chosen_entries" ["data"] F_chosen_entries := dn_mk U26 (PySem.W.mg_of X G a26) bb26 kb26 fun dr => ok_chosen_entries T C Z bk D_sound_entries D__most_octets D_marked_offsets U26 dr
  have D_remains : Dn l.prog w K mg base 6 "remains" ["data"] F_remains := dn_mk U27 (PySem.W.mg_of X G a27) bb27 kb27 fun dr => ok_remains T C Z bk D_require_data D__most_octets D_sound_entries D_marked_offsets U27 dr
  have D_salvage : Dn l.prog w K mg base 7 "salvage" ["data"] F_salvage := dn_mk U28 (PySem.W.mg_of X G a28) bb28 kb28 fun dr => ok_salvage T C Z bk D_require_data D_chosen_entries U28 dr
  have D__law_told : Dn l.prog w K mg base 8 "_law_told" ["data"] F__law_told := dn_mk U29 (PySem.W.mg_of X G a29) bb29 kb29 fun dr => ok__law_told T C Z bk D_salvage U29 dr
  have D__law_deep_right : Dn l.prog w K mg base 9 "_law_deep_right" ["draw", "one", "two"] F__law_deep_right := dn_mk U30 (PySem.W.mg_of X G a30) bb30 kb30 fun dr => ok__law_deep_right T C Z bk D__law_archive D__law_next D__law_told D_remains U30 dr
  have D__law_overlaps_right : Dn l.prog w K mg base 9 "_law_overlaps_right" ["size"] F__law_overlaps_right := dn_mk U31 (PySem.W.mg_of X G a31) bb31 kb31 fun dr => ok__law_overlaps_right T C Z bk D__law_entry D__law_number D__law_told D__law_sum U31 dr
  have D__law_named_right : Dn l.prog w K mg base 9 "_law_named_right" ["size"] F__law_named_right := dn_mk U32 (PySem.W.mg_of X G a32) bb32 kb32 fun dr => ok__law_named_right T C Z bk D__law_told D__law_entry D__law_number D__law_sum U32 dr
  have D__law_hidden_right : Dn l.prog w K mg base 9 "_law_hidden_right" [] F__law_hidden_right := dn_mk U33 (PySem.W.mg_of X G a33) bb33 kb33 fun dr => ok__law_hidden_right T C Z bk D__law_archive D__law_told D__law_entry U33 dr
  exact ok_law T C Z bk U34 (PySem.W.mg_of X G a34) bb34 D__law_next D__law_overlaps_right D__law_named_right D__law_hidden_right D__law_deep_right D__law_drawn_payload U35
theorem walk {l : PySem.W.OpenLaw} {q : Program} {loose : List Str} {XP : (Str → Option Value) → Heap → Prop} {YP : World → Heap → Prop} {d : DefRec} {K : Params → PySem.W.Frag} (hn : l.most = some 63) (hdf : d.params.defaults = []) (hq : PyProof.Rows.importsNone q = true)
    (hY : ∀ (w : World) (h : Heap), YP w h → (K w.params).In h)
    (F : ∀ (w : World) (mg : Str → Option Value) (fa : Addr) (h : Heap), (K w.params).In h → h.Ns mainGlobals mg → mg d.name = some (.ref fa) →
      ∃ fd : FuncData, (∀ (s : Shared) (u : Value), BindsTo s fd ⟨[u], []⟩ [("script", u)]) ∧ ∀ base : Heap, (K w.params).In base → base.Ns mainGlobals mg → FnG l.prog w (K w.params) mg base 10 fa fd ["script"] (spLaw (K w.params))) :
    PySem.W.WalkO q loose XP YP l.row.toRowW d [] (fun f vs => PySem.call f vs) :=
  walkG1 (n := 63) (k := 10) (x := "script") (sp := fun w => spLaw (K w.params)) hn (by decide) hdf hq ⟨rfl, by decide, by decide⟩ hY F (fun _ _ a ns hl _ hS ho => ⟨a, ns, rfl, hS, hl, ho, fun _ => rfl⟩)
end K79
open PySem PySem.W PyProof.Rows
set_option maxRecDepth 100000 in
set_option maxHeartbeats 0 in
theorem PySem.Challenge.cw_bookpack_k79_entries_in_entries_saved_holds : PySem.Challenge.rw_bookpack_k79_entries_in_entries_saved.Holds := by
  w_on; o_law; k_head; (case hw => w_witness2)
  k_fill
  haveI : DI.Nm := ⟨fun _ => ""⟩
  refine K79.walk (l := PySem.Challenge.rw_bookpack_k79_entries_in_entries_saved) rfl rfl (by first | rfl | decide +kernel) (fun w h Y => by first | exact PySem.W.kIn_of Y | exact PySem.W.km_in_of Y) ?F
  case F =>
    intro w mg fa h KX G hmg
    refine' K79.all_mk KX G hmg (DI.bk_mk KX G ?bk_a ?bk_x ?bk_t) (K79.mk_BadOctets KX G ?BadOctets_a ?BadOctets_b ?BadOctets_x ?BadOctets_sa ?BadOctets_ga ?BadOctets_gg ?BadOctets_gc ?BadOctets_n0 ?BadOctets_kC ?BadOctets_tC ?BadOctets_iC ?BadOctets_tg ?BadOctets_l ?BadOctets_c) ?a1 ?l1 ?c1 ?k1 ?a2 ?l2 ?c2 ?k2 ?a3 ?l3 ?c3 ?k3 ?a4 ?l4 ?c4 ?k4 ?a5 ?l5 ?c5 ?k5 ?a6 ?l6 ?c6 ?k6 ?a7 ?l7 ?c7 ?k7 ?a8 ?l8 ?c8 ?k8 ?a9 ?l9 ?c9 ?k9 ?a10 ?l10 ?c10 ?k10 ?a11 ?l11 ?c11 ?k11 ?a12 ?l12 ?c12 ?k12 ?a13 ?l13 ?c13 ?k13 ?a14 ?l14 ?c14 ?k14 ?a15 ?l15 ?c15 ?k15 ?a16 ?l16 ?c16 ?k16 ?a17 ?l17 ?c17 ?k17 ?a18 ?l18 ?c18 ?k18 ?a19 ?l19 ?c19 ?k19 ?a20 ?l20 ?c20 ?k20 ?a21 ?l21 ?c21 ?k21 ?a22 ?l22 ?c22 ?k22 ?a23 ?l23 ?c23 ?k23 ?a24 ?l24 ?c24 ?k24 ?a25 ?l25 ?c25 ?k25 ?a26 ?l26 ?c26 ?k26 ?a27 ?l27 ?c27 ?k27 ?a28 ?l28 ?c28 ?k28 ?a29 ?l29 ?c29 ?k29 ?a30 ?l30 ?c30 ?k30 ?a31 ?l31 ?c31 ?k31 ?a32 ?l32 ?c32 ?k32 ?a33 ?l33 ?c33 ?k33 ?a34 ?l34 ?c34 ?k34 ?a35 ?l35 ?c35 ?k35 ?b_isinstance ?b_tuple ?b_len ?b_zip ?b_enumerate ?b_bool ?b_int ?b_str ?b_all ?b_sorted ?b_reversed ?b_range ?a_MODULUS ?a_FACTOR ?a_FIRST_CHECK ?a_LINE_END ?a_LOW ?a_SIGNS ?a_NO_TEXT ?a_MOST_NAME ?a_MOST_PAYLOAD ?l_MARK ?a_MARK ?a_NAME_SIGNS
    (case bk_a => k_is); (case bk_x => k_is); (case bk_t => k_is); (case BadOctets_a => k_is); (case BadOctets_b => k_is); (case BadOctets_x => k_is)
    (case BadOctets_sa => k_is); (case BadOctets_ga => k_is); (case BadOctets_gg => k_is); (case BadOctets_gc => k_is); (case BadOctets_n0 => k_is); (case BadOctets_kC => k_is)
    (case BadOctets_tC => k_is); (case BadOctets_iC => k_is); (case BadOctets_tg => k_is); (case BadOctets_l => k_is); (case BadOctets_c => k_is); (case a1 => k_is)
    (case l1 => k_is); (case c1 => k_is); (case k1 => k_is); (case a2 => k_is); (case l2 => k_is); (case c2 => k_is)
    (case k2 => k_is); (case a3 => k_is); (case l3 => k_is); (case c3 => k_is); (case k3 => k_is); (case a4 => k_is)
    (case l4 => k_is); (case c4 => k_is); (case k4 => k_is); (case a5 => k_is); (case l5 => k_is); (case c5 => k_is)
    (case k5 => k_is); (case a6 => k_is); (case l6 => k_is); (case c6 => k_is); (case k6 => k_is); (case a7 => k_is)
    (case l7 => k_is); (case c7 => k_is); (case k7 => k_is); (case a8 => k_is); (case l8 => k_is); (case c8 => k_is)
    (case k8 => k_is); (case a9 => k_is); (case l9 => k_is); (case c9 => k_is); (case k9 => k_is); (case a10 => k_is)
    (case l10 => k_is); (case c10 => k_is); (case k10 => k_is); (case a11 => k_is); (case l11 => k_is); (case c11 => k_is)
    (case k11 => k_is); (case a12 => k_is); (case l12 => k_is); (case c12 => k_is); (case k12 => k_is); (case a13 => k_is)
    (case l13 => k_is); (case c13 => k_is); (case k13 => k_is); (case a14 => k_is); (case l14 => k_is); (case c14 => k_is)
    (case k14 => k_is); (case a15 => k_is); (case l15 => k_is); (case c15 => k_is); (case k15 => k_is); (case a16 => k_is)
    (case l16 => k_is); (case c16 => k_is); (case k16 => k_is); (case a17 => k_is); (case l17 => k_is); (case c17 => k_is)
    (case k17 => k_is); (case a18 => k_is); (case l18 => k_is); (case c18 => k_is); (case k18 => k_is); (case a19 => k_is)
    (case l19 => k_is); (case c19 => k_is); (case k19 => k_is); (case a20 => k_is); (case l20 => k_is); (case c20 => k_is)
    (case k20 => k_is); (case a21 => k_is); (case l21 => k_is); (case c21 => k_is); (case k21 => k_is); (case a22 => k_is)
    (case l22 => k_is); (case c22 => k_is); (case k22 => k_is); (case a23 => k_is); (case l23 => k_is); (case c23 => k_is)
    (case k23 => k_is); (case a24 => k_is); (case l24 => k_is); (case c24 => k_is); (case k24 => k_is); (case a25 => k_is)
    (case l25 => k_is); (case c25 => k_is); (case k25 => k_is); (case a26 => k_is); (case l26 => k_is); (case c26 => k_is)
    (case k26 => k_is); (case a27 => k_is); (case l27 => k_is); (case c27 => k_is); (case k27 => k_is); (case a28 => k_is)
    (case l28 => k_is); (case c28 => k_is); (case k28 => k_is); (case a29 => k_is); (case l29 => k_is); (case c29 => k_is)
    (case k29 => k_is); (case a30 => k_is); (case l30 => k_is); (case c30 => k_is); (case k30 => k_is); (case a31 => k_is)
    (case l31 => k_is); (case c31 => k_is); (case k31 => k_is); (case a32 => k_is); (case l32 => k_is); (case c32 => k_is)
    (case k32 => k_is); (case a33 => k_is); (case l33 => k_is); (case c33 => k_is); (case k33 => k_is); (case a34 => k_is)
    (case l34 => k_is); (case c34 => k_is); (case k34 => k_is); (case a35 => k_is); (case l35 => k_is); (case c35 => k_is)
    (case k35 => k_is); (case b_isinstance => k_is); (case b_tuple => k_is); (case b_len => k_is); (case b_zip => k_is); (case b_enumerate => k_is)
    (case b_bool => k_is); (case b_int => k_is); (case b_str => k_is); (case b_all => k_is); (case b_sorted => k_is); (case b_reversed => k_is)
    (case b_range => k_is); (case a_NAME_SIGNS => k_is); (case a_MARK => k_is); (case l_MARK => k_is); (case a_MOST_PAYLOAD => k_is); (case a_MOST_NAME => k_is)
    (case a_NO_TEXT => k_is); (case a_SIGNS => k_is); (case a_LOW => k_is); (case a_LINE_END => k_is); (case a_FIRST_CHECK => k_is); (case a_FACTOR => k_is)
    (case a_MODULUS => k_is)
