import PyProof.Rows.All
import Wide.All
import OpenK.AllK
import Wide.FinOn
import KE.OsRunLaw
import HandS.Base
import HandS.Call
import HandS.Comp
import HandS.Deep
import HandS.Dict
import HandS.DictComp
import HandS.Ends
import HandS.Exc
import HandS.ExcField
import HandS.ExcInit
import HandS.ExcOwn
import HandS.ExcSuper
import HandS.IsInst
import HandS.Iter
import HandS.Lambda
import HandS.List
import HandS.RaiseMore
import HandS.Replace
import HandS.RevRange
import HandS.Set
import HandS.SetFor
import HandS.SortInts
import HandS.Style
import HandS.Text
import HandS.TupAny
import HandS.TupMul
import HandS.TupSets
import HandS.Wide
import HandS.Words
import HandS.Zip
import HandS.Zip0
import KE.GoesZip
import KE.HD3
import KE.KDflt
import KE.KDictCopyH
import KE.KDictDisplayH
import KE.KExcIs
import KE.KIsAll
import KE.KNest
import KE.OsRun
import Open.Head
import PyProof.DictKinds
import PyProof.ListCopy
import PyProof.Reaches
import PyProof.ReprRoads
import PyProof.StrOps2
import PyProof.TupleKey
import PySem.Challenge.RW_bookpack_k03_whole_beginnings_of_chapter
set_option Elab.async false
set_option linter.all false
set_option maxRecDepth 100000
set_option maxHeartbeats 4000000
/-! The top's run in pieces, for every world: the machine, up to what a frame keeps. -/
namespace HQ
open PySem PySem.W PySem.Calls PyProof.Rows
open Sem (wp)
/-- from every state like (s, t) the real machine comes to one like (s', t') -/
def Rn (p : Program) (w : World) (s : Shared) (t : Thread) (s' : Shared) (t' : Thread) : Prop :=
  ∀ σ τ, Shared.forget σ = s.forget → Thread.forget τ = t.forget → σ.asleep →
    ∃ n σ' τ', schedN (denote table) p w n (.single σ τ) = .running (.single σ' τ') ∧ Shared.forget σ' = s'.forget ∧ Thread.forget τ' = t'.forget ∧ σ'.heap.life = σ.heap.life
variable {p : Program} {w : World}
theorem Rn.refl (s : Shared) (t : Thread) : Rn p w s t s t := fun σ τ h1 h2 _ => ⟨0, σ, τ, rfl, h1, h2, rfl⟩
theorem sched_add {c c' : Config} {d : Code → Sem Fin} : ∀ (n m : Nat) {c : Config} {r : SRun}, schedN d p w n c = .running c' → schedN d p w m c' = r → schedN d p w (n + m) c = r
  | 0, m, c, r, h, k => by
    cases h
    rw [Nat.zero_add]
    exact k
  | n + 1, m, c, r, h, k => by
    rw [Nat.add_right_comm]
    simp only [schedN] at h ⊢
    cases e : sstep d p w c with
    | go c2 =>
      rw [e] at h
      exact sched_add (c := c) n m h k
    | halt o s =>
      rw [e] at h
      cases h
theorem Rn.trans {s t s1 t1 s2 t2} (h : Rn p w s t s1 t1) (k : Rn p w s1 t1 s2 t2) : Rn p w s t s2 t2 := fun σ τ h1 h2 h3 => by
  obtain ⟨n, σ1, τ1, e1, f1, g1, l1⟩ := h σ τ h1 h2 h3
  obtain ⟨m, σ2, τ2, e2, f2, g2, l2⟩ := k σ1 τ1 f1 g1 (Shared.asleep_of_life l1 h3)
  exact ⟨n + m, σ2, τ2, sched_add (c := .single σ τ) n m e1 e2, f2, g2, l2.trans l1⟩
/-- one step of the real machine -/
theorem Rn.step {s t s1 t1 s2 t2} (hc : Thread.calm t = true) (h : PySem.step (denote table) p w s t = .go s1 t1) (k : Rn p w s1 t1 s2 t2) : Rn p w s t s2 t2 := fun σ τ h1 h2 h3 => by
  have e := step_same (denote table) p w h1 h2
  rw [h] at e
  have c2 : τ.calm = true := by rw [← Thread.calm_forget, h2, Thread.calm_forget]; exact hc
  cases q : PySem.step (denote table) p w σ τ with
  | halt o σ' => rw [q] at e; cases e
  | go σ1 τ1 =>
    rw [q] at e
    simp only [Step.forget, Step.go.injEq] at e
    have l1 := step_life (denote table) p w σ σ1 τ τ1 q
    obtain ⟨n, σ2, τ2, e2, f2, g2, l2⟩ := k σ1 τ1 e.1 e.2 (Shared.asleep_of_life l1 h3)
    have s1 : sstep (denote table) p w (.single σ τ) = .go (.single σ1 τ1) := by
      rcases sstep_single (denote table) p w σ τ c2 h3 with z | z
      · rw [z, q]
        rfl
      · rw [q] at z
        cases z
    exact ⟨n + 1, σ2, τ2, by simp only [schedN, s1]; exact e2, f2, g2, l2.trans l1⟩
theorem calm_of_quiet {s s' : Shared} {t t' : Thread} (hl : t.loud = false) (h : PySem.step (denote table) p w s t = .go s' t') : t.calm = true := by
  rw [Thread.calm_eq, hl]
  obtain ⟨heap, gens, drawn, toks, os⟩ := s
  obtain ⟨cur, code, pos, stack⟩ := t
  cases cur <;> first | rfl | (simp only [PySem.step, finish] at h; cases h) | (simp only [PySem.step, finish] at h; split at h <;> cases h)
/-- the machine of the rules -/
theorem Rn.of_comes {s t s' t'} (h : Comes (model p w) s t s' t') : Rn p w s t s' t' := by
  obtain ⟨n, hn⟩ := h
  induction n generalizing s t with
  | zero =>
    have e : Run.running s t = .running s' t' := hn
    injection e with e1 e2
    subst e1 e2
    exact .refl _ _
  | succ n ih =>
    rw [runN_succ] at hn
    cases hs : (model p w).step s t with
    | halt o s₂ => rw [hs] at hn; cases hn
    | go s2 t2 =>
      rw [hs] at hn
      have k := ih hn
      cases hl : t.loud with
      | true => rw [Model.step_loud _ hl] at hs; cases hs
      | false =>
        rw [Model.step_quiet _ hl] at hs
        have e := stepK_forget (denote table) p w s t
        have hs' : stepK (denote table) p w s t = .go s2 t2 := hs
        rw [hs'] at e
        cases q : PySem.step (denote table) p w s t with
        | halt o s3 => rw [q] at e; cases e
        | go s3 t3 =>
          rw [q] at e
          simp only [Step.forget, Step.go.injEq] at e
          have hcal := calm_of_quiet hl q
          refine Rn.step hcal q fun σ τ h1 h2 h3 => k σ τ (h1.trans e.1.symm) (h2.trans e.2.symm) h3
end HQ
/-! A tree in a place of another tree. -/
namespace HQ
open PySem PySem.W PySem.Calls PyProof.Rows
open Sem (wp)
variable {α β : Type}
/-- C is a place: what the tree in it does, the whole does -/
structure IsC (C : Sem α → Sem β) : Prop where
  rule : ∀ t k, C (.rule t k) = .rule t fun x => C (k x)
  at_ : ∀ p k, C (.at p k) = .at p fun x => C (k x)
  load : ∀ a p k, C (.load a p k) = .load a p fun x => C (k x)
  update : ∀ a p f k, C (.update a p f k) = .update a p f fun x => C (k x)
  alloc : ∀ o k, C (.alloc o k) = .alloc o fun x => C (k x)
  loadIfAlive : ∀ a k, C (.loadIfAlive a k) = .loadIfAlive a fun x => C (k x)
  point : ∀ l k, ∃ l', C (.point l k) = .point l' fun x => C (k x)
  fresh : ∀ k, C (.fresh k) = .fresh fun x => C (k x)
  ask : ∀ k, C (.ask k) = .ask fun x => C (k x)
  choose : ∀ s n k, C (.choose s n k) = .choose s n fun x => C (k x)
  os : ∀ q l k, ∃ l', C (.os q l k) = .os q l' fun x => C (k x)
  call : ∀ c h g l k, ∃ l', C (.call c h g l k) = .call c h g l' fun x => C (k x)
  handled : ∀ o k, C (.handled o k) = .handled o fun x => C (k x)
  newGen : ∀ c k, C (.newGen c k) = .newGen c fun x => C (k x)
  genState : ∀ g k, C (.genState g k) = .genState g fun x => C (k x)
  resume : ∀ g r l k, ∃ l', C (.resume g r l k) = .resume g r l' fun x => C (k x)
  stack : ∀ k, C (.stack k) = .stack fun x => C (k x)
  thread : ∀ k, C (.thread k) = .thread fun x => C (k x)
theorem isC_bind (f : α → Sem β) : IsC fun m : Sem α => m.bind f := ⟨fun _ _ => rfl, fun _ _ => rfl, fun _ _ _ => rfl, fun _ _ _ _ => rfl, fun _ _ => rfl, fun _ _ => rfl, fun _ _ => ⟨_, rfl⟩, fun _ => rfl, fun _ => rfl, fun _ _ _ => rfl, fun _ _ _ => ⟨_, rfl⟩, fun _ _ _ _ _ => ⟨_, rfl⟩, fun _ _ => rfl, fun _ _ => rfl, fun _ _ => rfl, fun _ _ _ _ => ⟨_, rfl⟩, fun _ => rfl, fun _ => rfl⟩
theorem isC_bind' (f : α → Sem β) : IsC fun m : Sem α => m >>= f := isC_bind f
theorem isC_onRaise (h : Value → Sem Unit) : IsC fun m : Sem α => m.onRaise h := ⟨fun _ _ => rfl, fun _ _ => rfl, fun _ _ _ => rfl, fun _ _ _ _ => rfl, fun _ _ => rfl, fun _ _ => rfl, fun _ _ => ⟨_, rfl⟩, fun _ => rfl, fun _ => rfl, fun _ _ _ => rfl, fun _ _ _ => ⟨_, rfl⟩, fun _ _ _ _ _ => ⟨_, rfl⟩, fun _ _ => rfl, fun _ _ => rfl, fun _ _ => rfl, fun _ _ _ _ => ⟨_, rfl⟩, fun _ => rfl, fun _ => rfl⟩
theorem IsC.comp {γ : Type} {C : Sem β → Sem γ} {D : Sem α → Sem β} (h : IsC C) (k : IsC D) : IsC fun m => C (D m) where
  rule t j := by show C (D _) = _; rw [k.rule, h.rule]
  at_ t j := by show C (D _) = _; rw [k.at_, h.at_]
  load a b c := by show C (D _) = _; rw [k.load, h.load]
  update a b c d := by show C (D _) = _; rw [k.update, h.update]
  alloc a b := by show C (D _) = _; rw [k.alloc, h.alloc]
  loadIfAlive a b := by show C (D _) = _; rw [k.loadIfAlive, h.loadIfAlive]
  point a b := by
    obtain ⟨l, e⟩ := k.point a b
    obtain ⟨l', e'⟩ := h.point l fun x => D (b x)
    exact ⟨l', by show C (D _) = _; rw [e, e']⟩
  fresh a := by show C (D _) = _; rw [k.fresh, h.fresh]
  ask a := by show C (D _) = _; rw [k.ask, h.ask]
  choose a b c := by show C (D _) = _; rw [k.choose, h.choose]
  os a b c := by
    obtain ⟨l, e⟩ := k.os a b c
    obtain ⟨l', e'⟩ := h.os a l fun x => D (c x)
    exact ⟨l', by show C (D _) = _; rw [e, e']⟩
  call a b c d f := by
    obtain ⟨l, e⟩ := k.call a b c d f
    obtain ⟨l', e'⟩ := h.call a b c l fun x => D (f x)
    exact ⟨l', by show C (D _) = _; rw [e, e']⟩
  handled a b := by show C (D _) = _; rw [k.handled, h.handled]
  newGen a b := by show C (D _) = _; rw [k.newGen, h.newGen]
  genState a b := by show C (D _) = _; rw [k.genState, h.genState]
  resume a b c d := by
    obtain ⟨l, e⟩ := k.resume a b c d
    obtain ⟨l', e'⟩ := h.resume a b l fun x => D (d x)
    exact ⟨l', by show C (D _) = _; rw [e, e']⟩
  stack a := by show C (D _) = _; rw [k.stack, h.stack]
  thread a := by show C (D _) = _; rw [k.thread, h.thread]
variable {M : Model} {Γ : Ctx} {st : List Frame}
/-- a tree in its place: the machine comes to its value in that place -/
theorem comes_in {C : Sem α → Sem Fin} (hC : IsC C) (hf : Γ.Fits st) (t : Sem α) : ∀ (Q : α → Pos → Shared → Prop) (p : Pos) (s : Shared),
    wp M Γ t Q (fun _ _ _ => False) p s → ∃ s' p' a, Comes M s ⟨C t, Γ.code, p, st⟩ s' ⟨C (.pure a), Γ.code, p', st⟩ ∧ Q a p' s' := by
  induction t with
  | pure a => intro Q p s h; exact ⟨s, p, a, .refl _ _, h⟩
  | raise e => intro Q p s h; exact h.elim
  | unsupported _ => intro Q p s h; exact h.elim
  | finish _ => intro Q p s h; exact h.elim
  | register a k _ => intro Q p s h; exact h.elim
  | yield v g l k _ => intro Q p s h; exact h.elim
  | fork c k _ => intro Q p s h; exact h.elim
  | await a f d l k _ => intro Q p s h; exact h.elim
  | rule tag k ih => intro Q p s h; obtain ⟨s', p', a, hc, hl⟩ := ih () Q p s h; exact ⟨s', p', a, by rw [hC.rule]; exact .step (step_rule ..) hc, hl⟩
  | «at» p₀ k ih => intro Q p s h; obtain ⟨s', p', a, hc, hl⟩ := ih () Q p₀ s h; exact ⟨s', p', a, by rw [hC.at_]; exact .step (step_at ..) hc, hl⟩
  | load b part k ih =>
    intro Q p s h; obtain ⟨o, ho, h⟩ := h
    obtain ⟨s', p', a, hc, hl⟩ := ih o Q p s h; exact ⟨s', p', a, by rw [hC.load]; exact .step (step_load _ _ _ _ _ _ _ ho) hc, hl⟩
  | update b part f k ih =>
    intro Q p s h; obtain ⟨ha, h⟩ := h
    obtain ⟨s', p', a, hc, hl⟩ := ih () Q p _ h; exact ⟨s', p', a, by rw [hC.update]; exact .step (step_update _ _ _ _ _ _ _ _ ha) hc, hl⟩
  | loadIfAlive b k ih => intro Q p s h; obtain ⟨s', p', a, hc, hl⟩ := ih _ Q p s h; exact ⟨s', p', a, by rw [hC.loadIfAlive]; exact .step (step_loadIfAlive ..) hc, hl⟩
  | point l k ih =>
    intro Q p s h; obtain ⟨s', p', a, hc, hl⟩ := ih () Q p s h
    obtain ⟨l', e⟩ := hC.point l k
    exact ⟨s', p', a, by rw [e]; exact .step (step_point ..) hc, hl⟩
  | alloc o k ih => intro Q p s h; obtain ⟨s', p', a, hc, hl⟩ := ih _ Q p _ h; exact ⟨s', p', a, by rw [hC.alloc]; exact .step (step_alloc ..) hc, hl⟩
  | fresh k ih => intro Q p s h; obtain ⟨s', p', a, hc, hl⟩ := ih _ Q p _ h; exact ⟨s', p', a, by rw [hC.fresh]; exact .step (step_fresh ..) hc, hl⟩
  | ask k ih => intro Q p s h; obtain ⟨s', p', a, hc, hl⟩ := ih _ Q p s h; exact ⟨s', p', a, by rw [hC.ask]; exact .step (step_ask ..) hc, hl⟩
  | choose src n k ih =>
    intro Q p s h; obtain ⟨hn, h⟩ := h
    obtain ⟨s', p', a, hc, hl⟩ := ih _ Q p _ h; exact ⟨s', p', a, by rw [hC.choose]; exact .step (step_choose _ _ _ _ _ _ _ hn) hc, hl⟩
  | os q l k ih =>
    intro Q p s h; obtain ⟨s', p', a, hc, hl⟩ := ih _ Q p _ h
    obtain ⟨l', e⟩ := hC.os q l k
    exact ⟨s', p', a, by rw [e]; exact .step (step_os ..) hc, hl⟩
  | call c h₀ g l k ih =>
    intro Q p s h
    obtain ⟨r, s₁, hr, h⟩ := h
    obtain ⟨l', e⟩ := hC.call c h₀ g l k
    obtain ⟨t', c', p', pre', hc₁, hx⟩ := (runs_reach hr _ (hf.enter c (fun x => C (k x)) h₀ g l' p [])).comes
    obtain ⟨rfl, rfl⟩ := hx
    obtain ⟨s', p'', a, hc, hl⟩ := ih r Q p s₁ h
    exact ⟨s', p'', a, by rw [e]; exact .step (step_call ..) (.trans hc₁ (.step (step_leaf_ret ..) hc)), hl⟩
  | handled own k ih =>
    intro Q p s h
    obtain ⟨s', p', a, hc, hl⟩ := ih _ Q p s h
    refine ⟨s', p', a, ?_, hl⟩
    rw [hC.handled]
    refine .step ?_ hc
    rw [step_handled]
    cases own
    · rw [hf.handled]; rfl
    · rw [hf.own]; rfl
  | genState g k ih =>
    intro Q p s h; obtain ⟨x, hg, h⟩ := h
    obtain ⟨s', p', a, hc, hl⟩ := ih _ Q p s h; exact ⟨s', p', a, by rw [hC.genState]; exact .step (step_genState _ _ _ _ _ _ hg) hc, hl⟩
  | newGen c k ih => intro Q p s h; obtain ⟨s', p', a, hc, hl⟩ := ih _ Q p _ h; exact ⟨s', p', a, by rw [hC.newGen]; exact .step (step_newGen ..) hc, hl⟩
  | resume g r l k ih =>
    intro Q p s h
    obtain ⟨res, s₁, hw, h⟩ := h
    obtain ⟨l', e⟩ := hC.resume g r l k
    obtain ⟨s', p', a, hc, hl⟩ := ih res Q p s₁ h
    exact ⟨s', p', a, by rw [e]; exact .trans (wakes_comes hf l' _ hw) hc, hl⟩
  | stack k ih =>
    intro Q p s h
    obtain ⟨s', p', a, hc, hl⟩ := ih _ Q p s h
    exact ⟨s', p', a, by rw [hC.stack]; exact .step (by rw [hf.below]; exact step_stack ..) hc, hl⟩
  | thread k ih => intro Q p s h; obtain ⟨s', p', a, hc, hl⟩ := ih _ Q p s h; exact ⟨s', p', a, by rw [hC.thread]; exact .step (step_thread ..) hc, hl⟩
end HQ
/-! What is asked of the state behind the top, world by world. -/
namespace HQ
open PySem PySem.W PySem.Calls PyProof.Rows
variable {p q : Program} {loose : List Str} {α : Type}
/-- at this world: the imports end, and the top ends in a state that says XP, Y -/
def Beh (p q : Program) (loose : List Str) (XP : (Str → Option Value) → Heap → Prop) (Y : Shared → Prop) (w : World) : Prop :=
  (∃ s, AfterRun (opening p) w s) ∧ ∀ s, AfterRun (opening p) w s →
    ∃ s₀, fenceModules? p s = some s₀ ∧ s₀.gens = #[] ∧ ∃ s₁, TopRan p w s₀ s₁ ∧ s₁.asleep ∧ s₁.gens = #[] ∧ s₁.heap.isNs mainGlobals = true ∧
      Ground q loose [] XP w s₁ (s₁.heap.nsMap mainGlobals) (s₁.heap.nsMap builtinsNs) s₁.heap ∧ Y s₁
theorem through_like {t t' : Thread} (h : Thread.forget t = t'.forget) : through t = through t' := by
  obtain ⟨c, d, e, f⟩ := t
  obtain ⟨c', d', e', f'⟩ := t'
  simp only [Thread.forget, Thread.mk.injEq] at h
  obtain ⟨rfl, rfl, rfl, h⟩ := h
  cases f <;> cases f' <;> first | rfl | (simp only [forgetAll] at h; cases h)
theorem beh_of {XP : (Str → Option Value) → Heap → Prop} {Y : Shared → Prop} {w : World} {N : Nat} {Xt : Shared → Bool} {s₀ s₁ : Shared} {t₁ : Thread}
    (h0 : fencedOpening treeTable p w N = some s₀) (hg : (s₀.heap.isNs mainGlobals && s₀.gens.size == 0) = true)
    (run : Rn p w s₀ (topStub p) s₁ t₁) (ht : through t₁ = true) (os : s₁.os = s₀.os)
    (fr : ∀ b o, b < s₀.heap.objs.size → b ≠ mainNs → b ≠ cStatics → s₀.heap.nsMap mainGlobals "__annotations__" ≠ some (.ref b) → s₀.heap.get? b = some o → s₁.heap.get? b = some o)
    (looks : (staticsOk (importedModules p.main.body) s₀.heap s₁.heap && namesBound p s₁.heap && gensDone s₁ && laidKept s₀.heap s₁.heap) = true)
    (seen : openSeen q loose (importedModules p.main.body) Xt true s₁ = openGood q loose)
    (hX : ∀ s, Xt s = true → XP (s.heap.nsMap mainGlobals) s.heap) (hch : chainsOk q = true) (y : Y s₁) : Beh p q loose XP Y w := by
  unfold fencedOpening at h0
  rw [← table_eq_tree] at h0
  obtain ⟨s, h1, h2⟩ := Option.bind_eq_some_iff.mp h0
  have A := AfterImport.of_importEnds h1
  refine ⟨⟨s, A⟩, fun s' hs' => ?_⟩
  obtain rfl : s' = s := AfterImport.unique hs' A
  have z : s₀.asleep := Shared.asleep_of_life (fence_lifeW h2) A.life
  obtain ⟨hns, hg0⟩ := Bool.and_eq_true_iff.mp hg
  have g0 : s₀.gens = #[] := Array.eq_empty_of_size_eq_zero (beq_iff_eq.mp hg0)
  obtain ⟨G, k0, k1, k2, k3, k4, k5⟩ := ground_of_open (w := w) hX hch seen
  have g1 : s₁.gens = #[] := Array.eq_empty_of_size_eq_zero (beq_iff_eq.mp k0)
  obtain ⟨n, σ, τ, hr, f1, f2, life⟩ := run s₀ (topStub p) rfl rfl z
  obtain rfl : σ = s₁ := Shared.eq_of_forget_eq f1 g1
  obtain ⟨l123, l4⟩ := Bool.and_eq_true_iff.mp looks
  obtain ⟨l12, l3⟩ := Bool.and_eq_true_iff.mp l123
  obtain ⟨l1, l2⟩ := Bool.and_eq_true_iff.mp l12
  refine ⟨s₀, h2, g0, _, ⟨⟨n, τ, hr, (through_like f2).trans ht⟩, life, Shared.rest_eq os, fun b o hb hn => ?_, k2, statics_of_ok l1, k3, k4, k5, gens_of_done l3, names_of_bound l2, laid_of_kept l4⟩, Shared.asleep_of_life life z, g1, k1, G, y⟩
  exact fr b o (Heap.lt_size hb) (fun e => hn (.inl e)) (fun e => hn (.inr (.inl e))) (fun e => hn (.inr (.inr ((Pin.globalOf_eq hns _).trans e)))) hb
end HQ
/-! A law holds, if at every world the top ends well and the law's walk is known. -/
namespace HQ
open PySem PySem.W PySem.Calls PyProof.Rows
variable {r : OpenRow} {q : Program} {loose : List Str} {XP : (Str → Option Value) → Heap → Prop} {YP : World → Heap → Prop} {d : DefRec} {kwd : List (Str × Expr)}
/-- the caller's tree comes down to the call -/
theorem stub_wp {w : World} {s : Shared} {mg : Str → Option Value} {f : Value} {vs : List Value} {Q : Fin → Shared → Prop} {E : Value → Shared → Prop} (hg : s.heap.Ns mainGlobals mg) (hf : mg r.name = some f)
    (h : wpAny (model r.prog w) callerA (PySem.call f vs) (fun v => Q (.done (.ret v))) E s) : wpAny (model r.prog w) callerA (callStub r.name vs).cur Q E s := by
  refine wpAny_bind (wpAny_nsGet hg ?_)
  rw [hf]
  refine wpAny_bind (wpAny_mono h (fun v s' x => ?_) fun _ _ x => x)
  exact wpAny_pure x
theorem holds_beh (beh : ∀ w, Beh r.prog q loose (fun mg h => XP mg h ∧ RecFacts r.records h) (fun s => YP w s.heap) w)
    (hYk : ∀ w h h', YP w h → (∀ b o, h.get? b = some o → h'.get? b = some o) → YP w h') (hXk : ∀ mg h h', XP mg h → (∀ b o, h.get? b = some o → h'.get? b = some o) → XP mg h')
    (hdef : defOf q r.name = some (d, kwd)) (hp : r.prog.theDef r.name = some (d.params, d.body, d.scope)) (hk : kwWritten? d.params.kwonlyargs d.params.kw_defaults = some kwd) (hwr : (!r.writes || r.records.isEmpty) = true)
    (k1 : r.wellSaid = true) (o1 : opensWell r.prog = true) (k5 : frees r.toRowW = true) (k6 : r.within.isEmpty = true) (hb : r.prog.bare) (hw : r.toRowW.promised)
    (call : WalkO q loose XP YP r.toRowW d kwd fun f vs => PySem.call f vs) : r.Holds := by
  obtain ⟨hsame, hu, ha, hap, hm⟩ := frees_parts k5
  have hm' : (r.toRowW.claim).makers = [] := by
    show r.toRowW.makers.map _ = []
    rw [hm]
    rfl
  refine ⟨k1, hw, ⟨hb, o1, hm'⟩, hw.witness, fun w => ⟨(beh w).1, fun s hs => ?_⟩⟩
  obtain ⟨s₀, hf, hg0, st, hT, hz, hgens, hg, G1, y⟩ := (beh w).2 s hs
  have RF := G1.X.2
  have G2 : Ground q loose [] XP w st (st.heap.nsMap mainGlobals) (st.heap.nsMap builtinsNs) st.heap :=
    { G1 with X := G1.X.1 }
  have G : Ground q loose r.toRowW.records XP w st _ _ st.heap := RF.ground G2
  have pin : ∀ n ∈ (if r.pinned then [r.name] else []), isTheDefsW r.toRowW.claim.prog st.heap n := fun n hn => by
    have e : n = r.name := by
      split at hn
      · exact List.mem_singleton.mp hn
      · cases hn
    rw [e]
    exact pinned_of_view hg G2 hdef hp hk
  refine ⟨s₀, hf, hg0, st, hT, pin, RF.1, RF.2.1, ?_⟩
  refine ClaimW.callFrom_of_specG (c := r.toRowW.claim) (tree := fun vs => (callStub r.name vs).cur) hz hgens fun args hpre hlay ord hord => ?_
  have some1 := layAllW_isSome (P := w.params) (ord := ord) G.has args r.toRowW.args st (pre_splitW hpre).1
  obtain ⟨x, hx⟩ := Option.isSome_iff_exists.mp some1
  obtain ⟨vs, s₁⟩ := x
  have keeps := layAllW_keeps _ _ _ hx
  have rest := layAllW_rest _ _ _ hx
  obtain ⟨as, hrd, hin, hold⟩ := reads_layAllW hord _ _ _ hx hlay s₁.heap fun _ _ e => e
  have L : Laid r.toRowW.records w st s₁ args vs as :=
    { laid := ⟨ord, hord, hx⟩
      reads := hrd
      within := hin
      old := hold
      keeps := keeps
      gens := rest.1.trans hgens
      os := rest.2.2.1 }
  have G3 := G.keeps hXk keeps
  obtain ⟨a, o, pm, cd, doc, dV, kV, f1, f2, f3, f4, f5⟩ := G3.fn hdef
  have h := call w st s₁ _ _ G3 (hYk w _ _ y keeps) a o pm cd doc dV kV f2 f3 f4 f5 (defOf_name hdef ▸ f1) L.gens args vs as hpre hlay L.reads L.well (L.low G.low)
  have hi := ident_freeW hu ha hap
  have hwi : r.toRowW.claim.within = [] := List.isEmpty_iff.mp k6
  refine ⟨vs, s₁, hx, stub_wp G3.T.g f1 (wpAny_mono h (fun v s' g => ?_) fun e s' g => ?_)⟩
  · have z := g.laid (c := r.toRowW.claim) hsame hwi hi L
    exact ⟨_, rfl, z.1, z.2.1, z.2.2, fun _ => ⟨namesKept_of hT hg r.keeps keeps g.2.1.old, noTable hwr ‹_›⟩⟩
  · have z := g.laid (c := r.toRowW.claim) hsame hwi hi L
    exact ⟨z.1, z.2.1, z.2.2, fun _ => ⟨namesKept_of hT hg r.keeps keeps g.2.1.old, noTable hwr ‹_›⟩⟩
end HQ
/-! A dict display whose keys are tuples of texts, to the very state behind it. -/
namespace HQ
open PySem PySem.W PySem.Calls
open Sem (wp)
section
variable {prog : Program} {w : World} {K : Type} [DecidableEq K] {knd : HeapKind prog w K} {A : Around} {E : Value → Shared → Prop} {s : Shared}
/-- a new key goes to the end -/
def putH (knd : HeapKind prog w K) (d : Addr) (h : Heap) (x : K × Addr × Value) : Heap := h.update d (Obj.mapDictKeys fun es => es.push ⟨knd.hash x.1, .ref x.2.1, x.2.2⟩)
theorem putH_same {d : Addr} {h : Heap} {x : K × Addr × Value} {xs : List (K × Addr × Value)} (hm : h.DictOfH knd d xs) (hkey : knd.is h x.1 x.2.1) (hn : x.1 ∉ xs.map (·.1)) : (putH knd d h x).DictOfH knd d (xs ++ [x]) ∧ Heap.SameBut d h (putH knd d h x) := by
  obtain ⟨o, es, ep, ho, hc, hd, he, his, hnd⟩ := hm
  have hs : Heap.SameBut d h (putH knd d h x) := Heap.SameBut.update ..
  refine ⟨⟨_, _, ep + 1, Heap.get?_update_self _ ho (Obj.isFreed_of_dict (Obj.data_mapDictKeys hd _)), hc.mapDictKeys _, Obj.data_mapDictKeys hd _, ?_, ?_, ?_⟩, hs⟩
  · simp [he, entryOfKey]
  · intro y hy
    rcases List.mem_append.mp hy with hy | hy
    · exact knd.keeps (his y hy) ho hd hs
    · rw [List.mem_singleton.mp hy]
      exact knd.keeps hkey ho hd hs
  · rw [List.map_append, List.nodup_append]
    refine ⟨hnd, by simp, fun a ha b hb => ?_⟩
    rw [List.map_singleton, List.mem_singleton] at hb
    subst hb
    exact fun e => hn (e ▸ ha)
theorem set_new {d : Addr} {x : K × Addr × Value} {xs : List (K × Addr × Value)} {Q : Unit → Shared → Prop} (hu : knd.room A) (hkey : knd.is s.heap x.1 x.2.1) (hm : s.heap.DictOfH knd d xs) (hn : x.1 ∉ xs.map (·.1)) (hsz : xs.length ≤ sizeLine)
    (h : Q () { s with heap := putH knd d s.heap x, toks := s.toks + knd.draws x.1 }) : wpAny (model prog w) A (dictSet d (.ref x.2.1) x.2.2) Q E s := by
  obtain ⟨o, es, ep, ho, hc, hd, he, his, hnd⟩ := hm
  unfold dictSet
  refine wpAny_holding (wpAny_bind (knd.pyHash hu hkey ?_))
  unfold dictSetHashed
  refine wpAny_holding (wpAny_bind (wpAny_dictFind_heap (s := { s with toks := s.toks + knd.draws x.1 }) hu hkey ho hd he his hnd (fun _ => ?_) fun j p hj => ?_))
  · have z := size_of_entries he
    exact wpAny_bind (wpAny_rule (wpAny_updateDictKeys (hz := by omega) (s := { s with toks := s.toks + knd.draws x.1 }) ho hd h))
  · exact absurd (List.mem_map.mpr ⟨_, List.mem_of_getElem? hj, rfl⟩) hn
/-- keys that are all new -/
theorem set_all {d : Addr} (hu : knd.room A) : ∀ (ps xs : List (K × Addr × Value)) (s : Shared) (Q : PUnit → Shared → Prop), (∀ x ∈ ps, knd.is s.heap x.1 x.2.1) → s.heap.DictOfH knd d xs → ((xs ++ ps).map (·.1)).Nodup → (xs ++ ps).length ≤ sizeLine →
    Q PUnit.unit { s with heap := ps.foldl (putH knd d) s.heap, toks := s.toks + (ps.map fun x => knd.draws x.1).sum } →
    wpAny (model prog w) A (forIn (ps.map fun x => (Value.ref x.2.1, x.2.2)) PUnit.unit fun (x : Value × Value) (_ : PUnit) => (do dictSet d x.1 x.2; pure (ForInStep.yield PUnit.unit) : Sem (ForInStep PUnit))) Q E s
  | [], xs, s, Q, _, _, _, _, hQ => by
    rw [List.map_nil, List.forIn_nil]
    exact wpAny_pure hQ
  | x :: ps, xs, s, Q, hc, hm, hn, hz, hQ => by
    rw [List.map_cons, List.forIn_cons]
    have hk := hc x List.mem_cons_self
    have hnew : x.1 ∉ xs.map (·.1) := fun h => by
      rw [List.map_append, List.nodup_append] at hn
      exact hn.2.2 x.1 h x.1 (by simp) rfl
    have e : xs ++ x :: ps = (xs ++ [x]) ++ ps := by simp
    rw [e] at hn hz
    obtain ⟨p1, p2⟩ := putH_same hm hk hnew
    have hm' := hm
    obtain ⟨o, es, ep, ho, _, hd, _⟩ := hm'
    refine wpAny_bind (wpAny_bind (set_new hu hk hm hnew (by rw [List.length_append, List.length_append] at hz; omega) (wpAny_pure ?_)))
    refine set_all hu ps (xs ++ [x]) _ Q (fun y hy => knd.keeps (hc y (List.mem_cons_of_mem _ hy)) ho hd p2) p1 hn hz ?_
    have e2 : s.toks + ((x :: ps).map fun x => knd.draws x.1).sum = s.toks + knd.draws x.1 + (ps.map fun x => knd.draws x.1).sum := by
      rw [List.map_cons, List.sum_cons, Nat.add_assoc]
    rw [e2] at hQ
    exact hQ
end
end HQ
/-! The display {(..): True, ..} of tuples of texts. -/
namespace HQ
open PySem PySem.W PySem.Calls
open Sem (wp)
def txts : Nat → List Str → List Value
  | _, [] => []
  | n, z :: r => .str z n :: txts (n + 1) r
def skip : Nat → List Str → Nat
  | n, [] => n
  | n, _ :: r => skip (n + 1) r
def tupO (n : Nat) (zs : List Str) : Obj := { cls := .type "tuple", data := .seq (txts n zs).toArray }
def lay1 (zs : List Str) (s : Shared) : Shared := { s with heap := s.heap.push (tupO s.toks zs), toks := skip s.toks zs }
/-- the keys, one behind the other -/
def laid : List (List Str) → Shared → Shared × List (List Str × Addr × Value)
  | [], s => (s, [])
  | zs :: r, s => ((laid r (lay1 zs s)).1, (zs, s.heap.objs.size, .bool true) :: (laid r (lay1 zs s)).2)
section
variable {prog : Program} {w : World}
abbrev kd (prog : Program) (w : World) : HeapKind prog w (List Str) := tupleKind (strKind prog w)
theorem txts_are : ∀ (zs : List Str) (n : Nat), ItemsAre (strKind prog w) zs (txts n zs)
  | [], _ => .nil
  | z :: r, n => .cons (by show Value.isStrOf z (.str z n) = true; simp [Value.isStrOf]) (txts_are r (n + 1))
theorem push_old {h : Heap} {b : Addr} {o o' : Obj} (e : h.get? b = some o) : (h.push o').get? b = some o := Heap.get?_push_of_some _ e
theorem push_new {h : Heap} {o : Obj} (ho : o.isFreed = false) : (h.push o).get? h.objs.size = some o := by
  cases h
  simp only [Heap.push, Heap.get?]
  obtain ⟨c, d, dt, sl⟩ := o
  cases dt <;> first | simp; done | exact absurd ho (by simp [Obj.isFreed])
theorem laid_old : ∀ (zss : List (List Str)) (s : Shared) (b : Addr) (o : Obj), s.heap.get? b = some o → (laid zss s).1.heap.get? b = some o
  | [], _, _, _, e => e
  | zs :: r, s, b, o, e => laid_old r (lay1 zs s) b o (push_old e)
theorem laid_is : ∀ (zss : List (List Str)) (s : Shared), (∀ x ∈ (laid zss s).2, IsTupleKey (strKind prog w) (laid zss s).1.heap x.1 x.2.1) ∧ (laid zss s).2.map (·.1) = zss
  | [], s => ⟨fun _ h => (List.not_mem_nil h).elim, rfl⟩
  | zs :: r, s => by
    obtain ⟨h1, h2⟩ := laid_is r (lay1 zs s)
    refine ⟨fun x m => ?_, by show zs :: _ = _; rw [h2]⟩
    rcases List.mem_cons.mp m with rfl | m
    · exact ⟨tupO s.toks zs, (txts s.toks zs).toArray, _, laid_old r (lay1 zs s) _ _ (push_new rfl), rfl, rfl, by simpa using txts_are zs s.toks⟩
    · exact h1 x m
/-- the state behind the display -/
def s0 (s : Shared) : Shared := { s with heap := s.heap.push { cls := .type "dict", data := .dict #[] } }
def after (prog : Program) (w : World) (zss : List (List Str)) (s : Shared) : Shared :=
  { (laid zss (s0 s)).1 with heap := (laid zss (s0 s)).2.foldl (putH (kd prog w) s.heap.objs.size) (laid zss (s0 s)).1.heap, toks := (laid zss (s0 s)).1.toks + ((laid zss (s0 s)).2.map fun x => x.1.length + 1).sum }
/-- the pairs are evaluated to the keys laid -/
structure PairsOk (prog : Program) (w : World) (zss : List (List Str)) (pairs : List (Sem Value × Sem Value)) : Prop where
  run : ∀ (s : Shared) (A : Around), wpAny (model prog w) A (evalPairs pairs) (fun vs s1 => vs = (laid zss s).2.map (fun x => (Value.ref x.2.1, x.2.2)) ∧ s1 = (laid zss s).1) (fun _ _ => False) s
theorem display {A : Around} {E : Value → Shared → Prop} {env : Env} {keys : List (Option Expr)} {values : List Expr} {pos : Pos} {pairs : List (Sem Value × Sem Value)} {zss : List (List Str)} {s : Shared} {Q : Value → Shared → Prop}
    (hu : A.units < cLine) (hshape : (evalEachOpt keys env).zip ((evalEach values env).map fun v => do let x ← v; standAt pos; pure x) = pairs.map fun p => (some p.1, p.2)) (h0 : pairs ≠ []) (hlen : pairs.length ≤ 15)
    (hev : PairsOk prog w zss pairs) (hnd : zss.Nodup) (hz : zss.length ≤ sizeLine)
    (h : Q (.ref s.heap.objs.size) (after prog w zss s)) : wpAny (model prog w) A (eval (.Dict keys values pos) env) Q E s := by
  rw [arm_eval_Dict, hshape, dictDisplay_pairs pairs h0 (by omega)]
  refine wpAny_bind (wpAny_standAt (wpAny_bind ?_))
  unfold subDict
  refine wpAny_bind (wpAny_alloc ?_)
  refine wpAny_bind (wpAny_holding ?_)
  rw [if_pos hlen]
  refine wpAny_bind (wpAny_mono (hev.run (s0 s) A) (fun vs s1 h1 => ?_) fun _ _ e => e.elim)
  obtain ⟨rfl, rfl⟩ := h1
  obtain ⟨k1, k2⟩ := laid_is (prog := prog) (w := w) zss (s0 s)
  refine wpAny_holding (wpAny_bind (set_all (knd := kd prog w) (d := s.heap.objs.size) hu (laid zss (s0 s)).2 [] _ _ k1 ?_ ?_ ?_ ?_))
  · exact ⟨_, #[], _, laid_old zss (s0 s) _ _ (push_new rfl), ⟨rfl, rfl, rfl⟩, rfl, rfl, (fun _ h => (List.not_mem_nil h).elim), List.nodup_nil⟩
  · rw [List.nil_append, k2]
    exact hnd
  · rw [List.nil_append, ← List.length_map (f := (·.1)), k2]
    exact hz
  · exact wpAny_pure (wpAny_pure (wpAny_pure h))
end
end HQ
/-! The top in three pieces: the kernel's run, the display by its rule, the kernel's run. -/
noncomputable section
namespace HQ
open PySem PySem.W PySem.Calls PyProof.Rows HeadRun
open Sem (wp)
section
variable (st : SharedT → Thread → Option (SharedT × Thread)) (n0 : Nat) (ann : Option Value)
/-- so many steps -/
def adv : Nat → SharedT → Thread → Option (SharedT × Thread)
  | 0, s, t => some (s, t)
  | m + 1, s, t => match stepOk n0 ann t with
    | false => none
    | true => match st s t with
      | some (s', t') => frS s' fun s' => adv m s' t'
      | none => none
/-- to the end of the top -/
def fin : Nat → SharedT → Thread → Option (SharedT × Thread)
  | 0, _, _ => none
  | m + 1, s, t => match through t with
    | true => some (s, t)
    | false => match stepOk n0 ann t with
      | false => none
      | true => match st s t with
        | some (s', t') => frS s' fun s' => fin m s' t'
        | none => none
end
/-- what stays -/
structure Fr (n0 : Nat) (ann : Option Value) (s s' : Shared) : Prop where
  os : s'.os = s.os
  fr : ∀ b o, b < n0 → b ≠ mainNs → b ≠ cStatics → ann ≠ some (.ref b) → s.heap.get? b = some o → s'.heap.get? b = some o
theorem Fr.refl {n0 ann} (s : Shared) : Fr n0 ann s s := ⟨rfl, fun _ _ _ _ _ _ h => h⟩
theorem Fr.trans {n0 ann} {s s1 s2 : Shared} (h : Fr n0 ann s s1) (k : Fr n0 ann s1 s2) : Fr n0 ann s s2 := ⟨k.os.trans h.os, fun b o a1 a2 a3 a4 e => k.fr b o a1 a2 a3 a4 (h.fr b o a1 a2 a3 a4 e)⟩
variable {p : Program} {w : World} {n0 : Nat} {ann : Option Value}
theorem fr_step {s s' : Shared} {t t' : Thread} (hk : stepOk n0 ann t = true) (h : PySem.step (denote table) p w s t = .go s' t') : Fr n0 ann s s' := by
  obtain ⟨_, hk⟩ := Bool.and_eq_true_iff.mp hk
  have e := step_heap (denote table) p w s s' t t' h
  refine ⟨step_os_same h (by revert hk; cases t.cur <;> simp), fun b o h1 h2 h3 h4 h5 => ?_⟩
  rw [e]
  cases hc : t.cur with
  | alloc x k => exact Heap.get?_push_of_some x h5
  | update a q f k =>
    rw [hc] at hk
    have ne : b ≠ a := fun eb => by
      subst eb
      simp only [Bool.or_eq_true, Nat.ble_eq, beq_iff_eq] at hk
      rcases hk with ((z | z) | z) | z
      · omega
      · exact h2 z
      · exact h3 z
      · exact h4 z
    exact (Heap.get?_update_ne _ _ _ _ ne).trans h5
  | _ => exact h5
theorem calm_ok {t : Thread} (hk : stepOk n0 ann t = true) : t.calm = true := (Bool.and_eq_true_iff.mp hk).1
theorem adv_ok : ∀ {m : Nat} {s s' : SharedT} {t t' : Thread}, adv (stepT (denote treeTable) p w) n0 ann m s t = some (s', t') → Rn p w s.abs t s'.abs t' ∧ Fr n0 ann s.abs s'.abs
  | 0, s, s', t, t', h => by
    cases h
    exact ⟨.refl _ _, .refl _⟩
  | m + 1, s, s', t, t', h => by
    unfold adv at h
    cases hk : stepOk n0 ann t with
    | false => rw [hk] at h; cases h
    | true =>
      rw [hk] at h
      cases hs : stepT (denote treeTable) p w s t with
      | none => simp only [hs] at h; cases h
      | some r =>
        obtain ⟨s2, t2⟩ := r
        simp only [hs, frS_eq] at h
        obtain ⟨k1, k2⟩ := adv_ok h
        have e := stepT_spec hs
        rw [← table_eq_tree] at e
        exact ⟨Rn.step (calm_ok hk) e k1, (fr_step hk e).trans k2⟩
theorem fin_ok : ∀ {m : Nat} {s s' : SharedT} {t t' : Thread}, fin (stepT (denote treeTable) p w) n0 ann m s t = some (s', t') → Rn p w s.abs t s'.abs t' ∧ Fr n0 ann s.abs s'.abs ∧ through t' = true
  | 0, s, s', t, t', h => by cases h
  | m + 1, s, s', t, t', h => by
    unfold fin at h
    cases ht : through t with
    | true =>
      rw [ht] at h
      cases h
      exact ⟨.refl _ _, .refl _, ht⟩
    | false =>
      rw [ht] at h
      cases hk : stepOk n0 ann t with
      | false => rw [hk] at h; cases h
      | true =>
        rw [hk] at h
        cases hs : stepT (denote treeTable) p w s t with
        | none => simp only [hs] at h; cases h
        | some r =>
          obtain ⟨s2, t2⟩ := r
          simp only [hs, frS_eq] at h
          obtain ⟨k1, k2, k3⟩ := fin_ok h
          have e := stepT_spec hs
          rw [← table_eq_tree] at e
          exact ⟨Rn.step (calm_ok hk) e k1, (fr_step hk e).trans k2, k3⟩
/-- the first piece -/
def pre (st : SharedT → Thread → Option (SharedT × Thread)) (a : Nat) (p : Program) (w : World) (os : OsState) : Option (SharedT × Thread) := match putAll (boot_heap w.params).objs.toList .nil 0 with
  | some (t, n) => frNat n fun n0 => adv st n0 (bootAnn w) a (bootT w os (t, n0)) (topStub p)
  | none => none
/-- the last piece -/
def post (st : SharedT → Thread → Option (SharedT × Thread)) (n0 M : Nat) (w : World) (s : Shared) (t : Thread) : Option (SharedT × Thread) := match treeOf s with
  | some y => frS y fun y => fin st n0 (bootAnn w) M y t
  | none => none
def bootS (w : World) (os : OsState) : Shared := ⟨boot_heap w.params, #[], boot_drawn, boot_toks, os⟩
theorem pre_ok {a : Nat} {os : OsState} {x : SharedT} {t : Thread} (h : pre (stepT (denote treeTable) p w) a p w os = some (x, t)) :
    Rn p w (bootS w os) (topStub p) x.abs t ∧ Fr (boot_heap w.params).objs.size (bootAnn w) (bootS w os) x.abs := by
  unfold pre at h
  cases e : putAll (boot_heap w.params).objs.toList .nil 0 with
  | none => rw [e] at h; cases h
  | some r =>
    obtain ⟨T, n⟩ := r
    rw [e] at h
    simp only [frNat_eq] at h
    have eh := putAll_heap e
    have en : (boot_heap w.params).objs.size = n := by
      rw [← eh]
      exact absHeap_size T n _
    have eb : (bootT w os (T, n)).abs = bootS w os := by
      show (⟨absHeap T n (boot_heap w.params).life, #[], boot_drawn, boot_toks, os⟩ : Shared) = _
      rw [eh]
      rfl
    have z := adv_ok h
    rw [eb] at z
    rw [en]
    exact z
theorem post_ok {n0 M : Nat} {s : Shared} {t t' : Thread} {y : SharedT} (h : post (stepT (denote treeTable) p w) n0 M w s t = some (y, t')) :
    Rn p w s t y.abs t' ∧ Fr n0 (bootAnn w) s y.abs ∧ through t' = true := by
  unfold post at h
  cases e : treeOf s with
  | none => rw [e] at h; cases h
  | some x =>
    rw [e] at h
    simp only [frS_eq] at h
    have z := fin_ok h
    rw [(treeOf_eq e).1] at z
    exact z
theorem fold_old {d b : Addr} (hne : b ≠ d) : ∀ (ps : List (List Str × Addr × Value)) (h : Heap), (ps.foldl (putH (kd p w) d) h).get? b = h.get? b
  | [], _ => rfl
  | x :: r, h => by
    rw [List.foldl_cons, fold_old hne r]
    exact Heap.get?_update_ne _ _ _ _ hne
theorem laid_os : ∀ (zss : List (List Str)) (s : Shared), (laid zss s).1.os = s.os
  | [], _ => rfl
  | zs :: r, s => laid_os r (lay1 zs s)
theorem after_fr (zss : List (List Str)) (s : Shared) : Fr n0 ann s (after p w zss s) := by
  refine ⟨?_, fun b o _ _ _ _ e => ?_⟩
  · show (laid zss (s0 s)).1.os = s.os
    rw [laid_os]
    rfl
  · have hb := Heap.lt_size e
    show (List.foldl (putH (kd p w) s.heap.objs.size) (laid zss (s0 s)).1.heap (laid zss (s0 s)).2).get? b = some o
    rw [fold_old (show b ≠ s.heap.objs.size from fun eb => by rw [eb] at hb; exact Nat.lt_irrefl _ hb)]
    exact laid_old zss (s0 s) b o (push_old e)
/-- what is asked of the thread at the display -/
def unitsOk (t : Thread) : Bool := decide ((Ctx.of t.code t.stack).units < cLine)
/-- the three pieces together -/
theorem beh_cut {q : Program} {loose : List Str} {XP : (Str → Option Value) → Heap → Prop} {Y : Shared → Prop} {Xt : Shared → Bool} {a M : Nat} {C0 : Sem Value → Sem Fin} {env : Env} {keys : List (Option Expr)} {values : List Expr} {pos : Pos} {pairs : List (Sem Value × Sem Value)} {zss : List (List Str)}
    (e : opening p = plainProg p.main.scope.names) (f : ∀ s, fenceModules? p s = some s) (hC : IsC C0)
    (hshape : (evalEachOpt keys env).zip ((evalEach values env).map fun v => do let x ← v; standAt pos; pure x) = pairs.map fun p => (some p.1, p.2)) (h0 : pairs ≠ []) (hlen : pairs.length ≤ 15)
    (hev : PairsOk p w zss pairs) (hnd : zss.Nodup) (hz : zss.length ≤ sizeLine)
    (hX : ∀ s, Xt s = true → XP (s.heap.nsMap mainGlobals) s.heap) (hch : chainsOk q = true)
    (run1 : ∀ os, (pre (stepT (denote treeTable) p w) a p w os).map (fun x => (x.2.cur, unitsOk x.2)) = some (C0 (eval (.Dict keys values pos) env), true))
    (run2 : ∀ os p', ((pre (stepT (denote treeTable) p w) a p w os).bind fun x => post (stepT (denote treeTable) p w) (boot_heap w.params).objs.size M w (after p w zss x.1.abs) ⟨C0 (.pure (.ref x.1.n)), x.2.code, p', x.2.stack⟩).map
        (fun z => (looksF p (boot_heap w.params) z.1.abs, openSeen q loose (importedModules p.main.body) Xt true z.1.abs)) = some (true, openGood q loose))
    (hY : ∀ os p' z, ((pre (stepT (denote treeTable) p w) a p w os).bind fun x => post (stepT (denote treeTable) p w) (boot_heap w.params).objs.size M w (after p w zss x.1.abs) ⟨C0 (.pure (.ref x.1.n)), x.2.code, p', x.2.stack⟩) = some z → Y z.1.abs) :
    Beh p q loose XP Y w := by
  obtain ⟨⟨h, gs, d, k, os⟩, b1, b2⟩ := Option.map_eq_some_iff.mp (boot_open (N := 600) e (by decide) f w)
  obtain ⟨rfl, rfl, rfl, rfl⟩ : h = boot_heap w.params ∧ gs = Array.mk [] ∧ d = boot_drawn ∧ k = boot_toks := by simpa using b2
  have r1 := run1 os
  have r2 := run2 os
  have r3 := hY os
  cases hp : pre (stepT (denote treeTable) p w) a p w os with
  | none => rw [hp] at r1; cases r1
  | some x =>
    obtain ⟨x, t⟩ := x
    rw [hp] at r1 r2 r3
    simp only [Option.map_some, Option.some.injEq, Prod.mk.injEq] at r1
    obtain ⟨ec, eu⟩ := r1
    obtain ⟨g1, g2⟩ := pre_ok hp
    have hu : (Ctx.of t.code t.stack).units < cLine := of_decide_eq_true eu
    have ex : x.n = x.abs.heap.objs.size := (absHeap_size _ _ _).symm
    have D := display (prog := p) (w := w) (A := ⟨(Ctx.of t.code t.stack).handled, frameCount (Ctx.of t.code t.stack).below + t.code.weight, none, none, (Ctx.of t.code t.stack).units⟩) (E := fun _ _ => False) (env := env) (pos := pos) (s := x.abs)
      (Q := fun v s' => v = .ref x.abs.heap.objs.size ∧ s' = after p w zss x.abs) hu hshape h0 hlen hev hnd hz ⟨rfl, rfl⟩
    have hW := D (Ctx.of t.code t.stack) t.pos ⟨rfl, Nat.le_refl _, (fun l hl => nomatch (show (none : Option (List Env)) = some l from hl)), (fun g hg => nomatch (show (none : Option (List Code)) = some g from hg)), Nat.le_refl _⟩
    obtain ⟨s', p', v, hcm, hv, hs⟩ := comes_in hC (Ctx.fits_of t.code t.stack) _ _ _ _ hW
    subst hv hs
    have m2 : Rn p w x.abs t (after p w zss x.abs) ⟨C0 (.pure (.ref x.abs.heap.objs.size)), t.code, p', t.stack⟩ := by
      have et : t = ⟨C0 (eval (.Dict keys values pos) env), t.code, t.pos, t.stack⟩ := by rw [← ec]
      have z := Rn.of_comes hcm
      rw [et]
      exact z
    have r2' := r2 p'
    have r3' := r3 p'
    simp only [Option.bind_some] at r2' r3'
    rw [ex] at r2' r3'
    obtain ⟨⟨y, t2⟩, hpo, hl⟩ := Option.map_eq_some_iff.mp r2'
    obtain ⟨l1, l2⟩ := Prod.mk.inj hl
    obtain ⟨q1, q2, q3⟩ := post_ok hpo
    have F : Fr (boot_heap w.params).objs.size (bootAnn w) (bootS w os) y.abs := g2.trans ((after_fr zss x.abs).trans q2)
    exact beh_of (N := 600) (Xt := Xt) (s₀ := bootS w os) (s₁ := y.abs) (t₁ := t2) b1 (by show ((boot_heap w.params).isNs mainGlobals && _) = true; rw [boot_ns]; rfl) (g1.trans (m2.trans q1)) q3 F.os (fun b o a1 a2 a3 a4 e => F.fr b o a1 a2 a3 a4 e) l1 l2 hX hch (r3' _ hpo)
end HQ
/-! The law, from the three pieces and its walk. -/
noncomputable section
namespace HQ
open PySem PySem.W PySem.Calls PyProof.Rows HeadRun
theorem beh_K {r : OpenRow} {q : Program} {loose : List Str} {w : World} {K : Params → Frag} {as : List Addr} {ek : ∀ P, as = (K P).map (·.1)} {a M : Nat} {C0 : Sem Value → Sem Fin} {env : Env} {keys : List (Option Expr)} {values : List Expr} {pos : Pos} {pairs : List (Sem Value × Sem Value)} {zss : List (List Str)} {D : Addr} {so : World → Obj}
    (e : opening r.prog = plainProg r.prog.main.scope.names) (f : ∀ s, fenceModules? r.prog s = some s) (hC : IsC C0)
    (hshape : (evalEachOpt keys env).zip ((evalEach values env).map fun v => do let x ← v; standAt pos; pure x) = pairs.map fun p => (some p.1, p.2)) (h0 : pairs ≠ []) (hlen : pairs.length ≤ 15)
    (hev : PairsOk r.prog w zss pairs) (hnd : zss.Nodup) (hz : zss.length ≤ sizeLine)
    (hch : chainsOk q = true)
    (run1 : ∀ os, (pre (stepT (denote treeTable) r.prog w) a r.prog w os).map (fun x => (x.2.cur, unitsOk x.2)) = some (C0 (eval (.Dict keys values pos) env), true))
    (run2 : ∀ os p', ((pre (stepT (denote treeTable) r.prog w) a r.prog w os).bind fun x => post (stepT (denote treeTable) r.prog w) (boot_heap w.params).objs.size M w (after r.prog w zss x.1.abs) ⟨C0 (.pure (.ref x.1.n)), x.2.code, p', x.2.stack⟩).map
        (fun z => (looksF r.prog (boot_heap w.params) z.1.abs, seenQ q loose (importedModules r.prog.main.body) (fun s => xlAt q [] s && recOk r.toRowW.records s) z.1.abs, getT z.1 D, as.map (getT z.1))) = some (true, openGood q loose, some (so w), (K w.params).map fun x => some x.2)) :
    Beh r.prog q loose (fun mg h => XL q [] mg h ∧ RecFacts r.toRowW.records h) (fun s => (kHook K as ek).says w s.heap ∧ s.heap.get? D = some (so w)) w := by
  refine beh_cut (M := M) (Xt := fun s => xlAt q [] s && recOk r.toRowW.records s) e f hC hshape h0 hlen hev hnd hz (fun s k => ?_) hch run1 (fun os p' => ?_) fun os p' z hzz => ?_
  · obtain ⟨k1, k2⟩ := Bool.and_eq_true_iff.mp k
    exact ⟨xl_of s k1, recFacts_of k2⟩
  · obtain ⟨z, z1, z2⟩ := Option.map_eq_some_iff.mp (run2 os p')
    obtain ⟨l1, l2⟩ := Prod.mk.inj z2
    obtain ⟨l3, l4⟩ := Prod.mk.inj l2
    rw [z1, Option.map_some, seenQ_eq, l1, l3]
  · obtain ⟨z', z1, z2⟩ := Option.map_eq_some_iff.mp (run2 os p')
    rw [hzz] at z1
    cases z1
    obtain ⟨l1, l2⟩ := Prod.mk.inj z2
    obtain ⟨l3, l5⟩ := Prod.mk.inj l2
    obtain ⟨l6, l4⟩ := Prod.mk.inj l5
    refine ⟨(kHook K as ek).of w z.1.abs ?_, by rw [← getT_eq]; exact l6⟩
    show as.map z.1.abs.heap.get? = _
    rw [← show as.map (getT z.1) = as.map z.1.abs.heap.get? from List.map_congr_left fun a _ => getT_eq z.1 a]
    exact l4
end HQ
/-! The table's object, and what is said of the top. -/
noncomputable section
namespace DI
open PySem PySem.W PySem.Spec PyProof.Rows L2
abbrev kd2 (P : Program) (w : World) : HeapKind P w (List Str) := tupleKind (PySem.strKind P w)
abbrev StyX := List (List Str × Addr × Value)
def styO (P : Program) (w : World) (xs : StyX) : Obj := xs.foldl (fun o x => Obj.mapDictKeys (fun es => es.push (entryOfKey (kd2 P w) x)) o) { cls := .type "dict", data := .dict #[] }
def YS (H : Hook) (D : Addr) (so : World → Obj) : World → Heap → Prop := fun w h => H.says w h ∧ h.get? D = some (so w)
theorem YS.keeps {H : Hook} {D : Addr} {so : World → Obj} : ∀ w h h', YS H D so w h → (∀ b o, h.get? b = some o → h'.get? b = some o) → YS H D so w h' := fun w h h' y k => ⟨H.keeps w h h' y.1 k, k _ _ y.2⟩
end DI
namespace K03
/-! the top in three pieces: to the display of the table, the display, the rest -/
abbrev RR : PySem.W.OpenRow := PySem.Challenge.rw_bookpack_k03_whole_beginnings_of_chapter.row
abbrev pw : PySem.Program := RR.prog
def ptop (i : Nat) : PySem.Stmt := pw.main.body.getD i (.Pass ⟨0, 0, 0, 0⟩)
def envE : PySem.Env := { scope := pw.main.scope, locals := PySem.mainNs, globals := PySem.mainNs, cells := [], code := .ref 13, frame := some 14 }
def dictE : PySem.Expr := match ptop 8 with | .Assign _ v _ => v | _ => default
def tgts : List PySem.Expr := match ptop 8 with | .Assign t _ _ => t | _ => []
def keysE : List (Option PySem.Expr) := match dictE with | .Dict k _ _ => k | _ => []
def valsE : List PySem.Expr := match dictE with | .Dict _ v _ => v | _ => []
def posE : PySem.Pos := match dictE with | .Dict _ _ q => q | _ => default
def restE : List PySem.Stmt := pw.main.body.drop 9
open PySem in
def C0 (m : Sem Value) : Sem PySem.Fin := (((m >>= fun v => (do assignStores envE v (← swappedStores tgts dictE envE) ((assignEach tgts envE).map (·.2)))) >>= fun fl => match fl with
    | .next => execs restE envE
    | f => pure f).onRaise (leaving envE)) >>= fun f => return .done f
theorem hC0 : HQ.IsC C0 := (HQ.isC_bind' _).comp ((HQ.isC_onRaise _).comp ((HQ.isC_bind' _).comp (HQ.isC_bind' _)))
def zssE : List (List PySem.Str) := [[], ["code"], ["slant"], ["strong"], ["code", "slant"], ["code", "strong"], ["slant", "strong"], ["code", "slant", "strong"]]
open PySem in
def pairsE : List (Sem Value × Sem Value) := ((evalEachOpt keysE envE).zip ((evalEach valsE envE).map fun v => do let x ← v; standAt posE; pure x)).map fun x => (x.1.getD (pure .none), x.2)
theorem e0 : PySem.W.opening pw = PySem.W.plainProg pw.main.scope.names := by kernel_rfl
theorem f0 : ∀ s, PySem.fenceModules? pw s = some s := fun s => by kernel_rfl
open PySem in
theorem hshape : (evalEachOpt keysE envE).zip ((evalEach valsE envE).map fun v => do let x ← v; standAt posE; pure x) = pairsE.map fun p => (some p.1, p.2) := by kernel_rfl
theorem hp0 : pairsE ≠ [] := by intro h; have := congrArg List.length h; revert this; decide +kernel
theorem hplen : pairsE.length ≤ 15 := by decide +kernel
open PySem in
theorem hev (w : World) : HQ.PairsOk pw w zssE pairsE := ⟨fun s A Γ p h => by
  have e : Sem.wp (model pw w) Γ (evalPairs pairsE) (fun vs _ s1 => vs = (HQ.laid zssE s).2.map (fun x => (Value.ref x.2.1, x.2.2)) ∧ s1 = (HQ.laid zssE s).1) (fun _ _ _ => False) p s = ((HQ.laid zssE s).2.map (fun x => (Value.ref x.2.1, x.2.2)) = (HQ.laid zssE s).2.map (fun x => (Value.ref x.2.1, x.2.2)) ∧ (HQ.laid zssE s).1 = (HQ.laid zssE s).1) := by kernel_rfl
  rw [e]
  exact ⟨rfl, rfl⟩⟩
open PySem PySem.W HeadRun HQ in
theorem run1 (w : World) (os : OsState) : (pre (stepT (denote treeTable) pw w) 95 pw w os).map (fun x => (x.2.cur, unitsOk x.2)) = some (C0 (eval (.Dict keysE valsE posE) envE), true) := by kernel_rfl
def qE : PySem.Program := { pw with main := { pw.main with body := [ptop 1, ptop 2, ptop 3, ptop 4, ptop 5, ptop 6, ptop 7, ptop 8, ptop 9, ptop 10, ptop 11, ptop 12, ptop 13, ptop 14, ptop 15, ptop 16, ptop 17, ptop 18, ptop 20, ptop 21, ptop 22, ptop 23, ptop 24, ptop 25, ptop 26, ptop 27, ptop 28, ptop 29, ptop 30, ptop 31, ptop 32, ptop 33, ptop 34] } }
def looseE : List PySem.Str := ["_STYLE_ROWS"]
end K03
namespace K03
abbrev STX : DI.StyX := [([], 18, .bool true), (["code"], 19, .bool true), (["slant"], 20, .bool true), (["strong"], 21, .bool true), (["code", "slant"], 22, .bool true), (["code", "strong"], 23, .bool true), (["slant", "strong"], 24, .bool true), (["code", "slant", "strong"], 25, .bool true)]
end K03
section
open PySem PySem.W PyProof.Rows
local macro_rules | `(tactic| o_head $H) => `(tactic| (refine HQ.holds_beh (r := K03.RR) (q := K03.qE) (loose := K03.looseE) (XP := XL K03.qE []) (YP := DI.YS $H 17 (fun w => DI.styO K03.RR.prog w K03.STX)) (fun w => HQ.beh_K (r := K03.RR) (a := 95) (M := 1236) (D := 17) (so := (fun w => DI.styO K03.RR.prog w K03.STX)) (C0 := K03.C0) (env := K03.envE) (keys := K03.keysE) (values := K03.valsE) (pos := K03.posE) (pairs := K03.pairsE) (zss := K03.zssE) K03.e0 K03.f0 K03.hC0 K03.hshape K03.hp0 K03.hplen (K03.hev w) (by decide +kernel) (by decide +kernel) (by decide +kernel) (K03.run1 w) (fun os p' => ?run2)) DI.YS.keeps XL.keeps (by rfl) (by rfl) (by rfl) (by rfl) (by assumption) (by decide +kernel) (by decide +kernel) (by decide +kernel) ⟨rfl, rfl, rfl, rfl, rfl, by decide +kernel⟩ ?hw ?hc; (case run2 => kernel_rfl)))
set_option maxRecDepth 100000 in
set_option maxHeartbeats 0 in
open_top K03.headT for PySem.Challenge.rw_bookpack_k03_whole_beginnings_of_chapter
end
namespace EX
open PySem PySem.W PySem.HandSPX
/-- an error's class, by its name at the top; B: the class that all are under -/
structure ExK (K : Frag) (B : Addr) (nm : Str) (C : Addr) (fs : List Str) : Prop where
  ns : nsIn K mainGlobals nm = some (some (.ref C))
  nb : nsIn K mainGlobals "BookError" = some (some (.ref B))
  cls : ∃ q N bs sn sub ab col dd k0 k1 k2 k3 k5, K.lookup C = some (excClassObj nm q C N bs (.ref B :: [.type "ValueError", .type "Exception", .type "BaseException", .type "object"]) true sn sub ab col dd k0 k1 k2 k3 k5 "ValueError.__new__")
  sa : findIn K (.ref C) "__setattr__" = some (some (.builtin "object.__setattr__"))
  ga : findIn K (.ref C) "__getattribute__" = some (some (.builtin "BaseException.__getattribute__"))
  gg : findIn K (.ref C) "__getattr__" = some none
  gc : findIn K (.ref C) "__class__" = some (some (.builtin "object.__class__"))
  noF : ∀ f ∈ fs, findIn K (.ref C) f = some none
  kC : keepIn K (.ref C) = true
  tyC : typeIn K (.ref C) = some (.type "type")
end EX
/-! Data as plain values, and readings by what is wanted of them. -/
namespace DI
open PySem L2

inductive D where
  | non | bl (b : Bool) | int (i : Int) | str (x : Str) | lst (xs : List D) | tup (xs : List D) | drw | dic0 | dct (ks : List Key) (ds : List D) | exc (nm : Str) (fs : List Str) (ds : List D)
instance : Inhabited D := ⟨.non⟩

/-- sys.modules is tracked or written out, and no list -/
def One (K : PySem.W.Frag) (G : Hp) : Prop := ∃ o : Obj, (∀ its n, o.data ≠ .seq its n) ∧ (G sysModules = some (.frz o (.ext fun _ => True)) ∨ K.lookup sysModules = some o)
theorem One.mono {K : PySem.W.Frag} {G G' : Hp} (e : Same G G') : One K G → One K G' := fun ⟨o, h, q⟩ => ⟨o, h, q.imp (fun z => e _ _ z) id⟩
mutual
inductive Rp (K : PySem.W.Frag) (dr : Option Addr) (G : Hp) : V → D → Prop
  | non : Rp K dr G .non .non
  | bl (b : Bool) : Rp K dr G (.bl b) (.bl b)
  | int (i : Int) : Rp K dr G (.int i) (.int i)
  | str (x : Str) : Rp K dr G (.str x) (.str x)
  | lst {a : Addr} {xs : List V} {ds : List D} : G a = some (.lst xs) → RpA K dr G xs ds → Rp K dr G (.ref a) (.lst ds)
  | tup {a : Addr} {xs : List V} {ds : List D} : SqT K G a xs → RpA K dr G xs ds → Rp K dr G (.ref a) (.tup ds)
  | drw {a : Addr} : dr = some a → One K G → Rp K dr G (.ref a) .drw
  | dic0 {a : Addr} : G a = some (.dK []) → One K G → Rp K dr G (.ref a) .dic0
  | dct {a : Addr} {o : Obj} {kvs : List (Key × V)} {ks : List Key} {ds : List D} : G a = some (.frz o (.dK kvs)) → kvs.map (·.1) = ks → RpA K dr G (kvs.map (·.2)) ds → Rp K dr G (.ref a) (.dct ks ds)
  | exc {e C B : Addr} {o : Obj} {nm : Str} {fs : List Str} {xs : List V} {ds : List D} : EX.ExK K B nm C fs → o.cls = .ref C → (∃ vs, o.data = .fields vs) → G e = some (.frz o (.ext fun _ => True)) →
      (fs ≠ [] → ∃ d, o.dict = some d ∧ G d = some (.xd (fs.zip xs))) → (fs = [] → o.dict = none) → xs.length = fs.length → RpA K dr G xs ds → Rp K dr G (.ref e) (.exc nm fs ds)
inductive RpA (K : PySem.W.Frag) (dr : Option Addr) (G : Hp) : List V → List D → Prop
  | nil : RpA K dr G [] []
  | cons {v : V} {vs : List V} {d : D} {ds : List D} : Rp K dr G v d → RpA K dr G vs ds → RpA K dr G (v :: vs) (d :: ds)
end

theorem Same.tup {K : PySem.W.Frag} {H H' : Hp} {a : Addr} {xs : List V} (e : Same H H') (h : SqT K H a xs) : SqT K H' a xs := by
  rcases h with (h | ⟨o, h⟩) | h
  · exact .inl (.inl (e _ _ h))
  · exact .inl (.inr ⟨o, e _ _ h⟩)
  · exact .inr h

section
variable {K : PySem.W.Frag} {dr : Option Addr} {G G' : Hp}
mutual
theorem Rp.mono (e : Same G G') {v : V} {d : D} : Rp K dr G v d → Rp K dr G' v d
  | .non => .non
  | .bl b => .bl b
  | .int i => .int i
  | .str x => .str x
  | .lst h hs => .lst (e _ _ h) (RpA.mono e hs)
  | .tup h hs => .tup (Same.tup e h) (RpA.mono e hs)
  | .drw h o => .drw h (o.mono e)
  | .dic0 h o => .dic0 (e _ _ h) (o.mono e)
  | .dct h q hs => .dct (e _ _ h) q (RpA.mono e hs)
  | .exc T hc hv he hd hn hl hs => .exc T hc hv (e _ _ he) (fun ne => match hd ne with | ⟨d, h1, h2⟩ => ⟨d, h1, e _ _ h2⟩) hn hl (RpA.mono e hs)
theorem RpA.mono (e : Same G G') {vs : List V} {ds : List D} : RpA K dr G vs ds → RpA K dr G' vs ds
  | .nil => .nil
  | .cons h hs => .cons (Rp.mono e h) (RpA.mono e hs)
end
theorem RpA.length : ∀ {vs : List V} {ds : List D}, RpA K dr G vs ds → vs.length = ds.length
  | _, _, .nil => rfl
  | _, _, .cons _ t => by rw [List.length_cons, List.length_cons, RpA.length t]
theorem RpA.append : ∀ {vs ws : List V} {ds es : List D}, RpA K dr G vs ds → RpA K dr G ws es → RpA K dr G (vs ++ ws) (ds ++ es)
  | _, _, _, _, .nil, s => s
  | _, _, _, _, .cons r t, s => .cons r (RpA.append t s)
theorem RpA.get : ∀ {vs : List V} {ds : List D} {i : Nat} {d : D}, RpA K dr G vs ds → ds[i]? = some d → ∃ v, vs[i]? = some v ∧ Rp K dr G v d
  | _, _, _, _, .nil, e => by simp at e
  | _, _, 0, _, .cons r _, e => by simp at e; subst e; exact ⟨_, rfl, r⟩
  | _, _, i + 1, d, .cons _ t, e => by
    obtain ⟨u, h1, h2⟩ := RpA.get (i := i) (d := d) t (by simpa using e)
    exact ⟨u, by simpa using h1, h2⟩
theorem RpA.take : ∀ {vs : List V} {ds : List D} (n : Nat), RpA K dr G vs ds → RpA K dr G (vs.take n) (ds.take n)
  | _, _, 0, _ => by simp; exact .nil
  | _, _, _ + 1, .nil => .nil
  | _, _, n + 1, .cons r t => .cons r (RpA.take n t)
theorem RpA.drop : ∀ {vs : List V} {ds : List D} (n : Nat), RpA K dr G vs ds → RpA K dr G (vs.drop n) (ds.drop n)
  | _, _, 0, r => r
  | _, _, _ + 1, .nil => .nil
  | _, _, n + 1, .cons _ t => RpA.drop n t
theorem RpA.dropLast {vs : List V} {ds : List D} (h : RpA K dr G vs ds) : RpA K dr G vs.dropLast ds.dropLast := by
  rw [List.dropLast_eq_take, List.dropLast_eq_take, h.length]
  exact h.take _
theorem RpA.set {v : V} {d : D} (r : Rp K dr G v d) : ∀ {vs : List V} {ds : List D} (i : Nat), RpA K dr G vs ds → RpA K dr G (vs.set i v) (ds.set i d)
  | _, _, _, .nil => .nil
  | _, _, 0, .cons _ t => .cons r t
  | _, _, i + 1, .cons q t => .cons q (RpA.set r i t)
theorem RpA.reverse : ∀ {vs : List V} {ds : List D}, RpA K dr G vs ds → RpA K dr G vs.reverse ds.reverse
  | _, _, .nil => .nil
  | _, _, .cons r t => by
    rw [List.reverse_cons, List.reverse_cons]
    exact (RpA.reverse t).append (.cons r .nil)
theorem RpA.ints : ∀ (xs : List Int), RpA K dr G (xs.map V.int) (xs.map D.int)
  | [] => .nil
  | x :: xs => .cons (.int x) (RpA.ints xs)
end

/-! ### the draws -/
structure DrwOk (ns : List Int) (at_ left used : Int) (n : Nat) : Prop where
  ne : 0 < ns.length
  le : ns.length ≤ 64
  a0 : 0 ≤ at_
  an : at_ ≤ n
  u0 : 0 ≤ used
  un : used ≤ n
def drwK (L : Addr) (at_ left used : Int) : List (Key × V) := [(Sum.inr "cells", .ref L), (Sum.inr "at", .int at_), (Sum.inr "left", .int left), (Sum.inr "used", .int used)]
structure DrwAt (G H : Hp) (a : Addr) (n : Nat) : Prop where
  free : G a = none
  ex : ∃ (L : Addr) (ns : List Int) (at_ left used : Int), H a = some (.dK (drwK L at_ left used)) ∧ G L = some (.lst (ns.map V.int)) ∧ DrwOk ns at_ left used n
def Drw (G H : Hp) (dr : Option Addr) (n : Nat) : Prop := ∀ a, dr = some a → DrwAt G H a n

/-! ### the state -/
inductive Sl where
  | emp | val (d : D) | own (ds : List D) | bor (ds : List D) | dic (ks : List Key) (ds : List D) | mem (t : Bool) (F : (D → Prop) → Nat → Addr → HO → Prop) (Pk : D → Prop) (n : Nat)
structure S where
  env : List Sl
  n : Nat
structure Sub (G H : Hp) : Prop where
  go : ∀ a o, G a = some o → H a = some o
  nt : ∀ a ps, G a ≠ some (.tbl ps)
instance {G H : Hp} : CoeFun (Sub G H) (fun _ => ∀ a o, G a = some o → H a = some o) := ⟨Sub.go⟩
instance {G H : Hp} : Coe (Sub G H) (Same G H) := ⟨Sub.go⟩
def NT (o : HO) : Prop := ∀ ps, o ≠ .tbl ps
def NC (o : HO) : Prop := ∀ c q, o ≠ LamX.CodeO c q
/-- no table of code objects, and none of those -/
def Soft (H : Hp) (p : Addr) : Prop := ∀ o, H p = some o → NT o ∧ NC o
theorem nt_lst {xs : List V} : NT (.lst xs) := fun ps z => by cases z
theorem nt_frzL {xs : List V} {ob : Obj} : NT (.frz ob (.lst xs)) := fun ps z => by cases z
theorem nt_dK {xs : List (Key × V)} : NT (.dK xs) := fun ps z => by cases z
theorem nc_lst {xs : List V} : NC (.lst xs) := fun c q z => by
  unfold LamX.CodeO at z
  cases z
theorem nc_dK {xs : List (Key × V)} : NC (.dK xs) := fun c q z => by
  unfold LamX.CodeO at z
  cases z
theorem Soft.none {H : Hp} {p : Addr} (h : H p = none) : Soft H p := fun o e => by rw [h] at e; cases e
theorem Soft.lst {H : Hp} {p : Addr} {xs : List V} (h : H p = some (.lst xs)) : Soft H p := fun o e => by rw [h] at e; cases e; exact ⟨nt_lst, nc_lst⟩
theorem Soft.dK {H : Hp} {p : Addr} {xs : List (Key × V)} (h : H p = some (.dK xs)) : Soft H p := fun o e => by rw [h] at e; cases e; exact ⟨nt_dK, nc_dK⟩
/-- the name of the code objects that a table may hold -/
class Nm where
  nm : Addr → Str
variable [Nm]
/-- all but the draws' dict stands; tables of code objects stay such -/
structure Bse (dr : Option Addr) (H H' : Hp) : Prop where
  keep : ∀ a o, dr ≠ some a → H a = some o → NT o → H' a = some o
  tbl : ∀ a ps, H a = some (.tbl ps) → ∃ ps', H' a = some (.tbl ps')
  tab : ∀ P, LamX.TabS H P (Nm.nm P) → LamX.TabS H' P (Nm.nm P)
theorem Bse.refl {dr : Option Addr} {H : Hp} : Bse dr H H := ⟨fun _ _ _ h _ => h, fun _ ps h => ⟨ps, h⟩, fun _ h => h⟩
theorem Bse.trans {dr : Option Addr} {H H1 H2 : Hp} (a : Bse dr H H1) (b : Bse dr H1 H2) : Bse dr H H2 :=
  ⟨fun x o hd h n => b.keep x o hd (a.keep x o hd h n) n, fun x ps h => by obtain ⟨ps1, h1⟩ := a.tbl x ps h; exact b.tbl x ps1 h1, fun P h => b.tab P (a.tab P h)⟩
theorem Bse.there {dr : Option Addr} {H H' : Hp} (B : Bse dr H H') {a : Addr} {o : HO} (hd : dr ≠ some a) (h : H a = some o) : ∃ o', H' a = some o' := by
  by_cases t : ∃ ps, o = .tbl ps
  · obtain ⟨ps, rfl⟩ := t
    obtain ⟨ps', h'⟩ := B.tbl a ps h
    exact ⟨_, h'⟩
  · exact ⟨o, B.keep a o hd h fun ps z => t ⟨ps, z⟩⟩
theorem Bse.free {dr : Option Addr} {H H' : Hp} (B : Bse dr H H') {p : Addr} (hd : dr ≠ some p) (hp : H' p = none) : H p = none := by
  cases e : H p with
  | none => rfl
  | some o =>
    obtain ⟨o', h'⟩ := B.there hd e
    rw [hp] at h'
    cases h'
theorem Bse.upd {dr : Option Addr} {H0 H H' : Hp} {p : Addr} (B : Bse dr H0 H) (k : ∀ a, a ≠ p → H' a = H a) (sf : Soft H p) (h0 : H0 p = none ∨ dr = some p) : Bse dr H0 H' := by
  have nb : ∀ b ps, H b = some (.tbl ps) → b ≠ p := fun b ps h z => by
    subst z
    exact (sf _ h).1 ps rfl
  refine ⟨fun a o hd h n => ?_, fun a ps h => ?_, fun P h => ?_⟩
  · have ne : a ≠ p := fun z => by
      subst z
      rcases h0 with h0 | h0
      · rw [h0] at h; cases h
      · exact hd h0
    rw [k a ne]
    exact B.keep a o hd h n
  · obtain ⟨ps', h'⟩ := B.tbl a ps h
    exact ⟨ps', by rw [k a (nb a ps' h')]; exact h'⟩
  · obtain ⟨ps, h1, h2, h3⟩ := B.tab P h
    refine ⟨ps, by rw [k P (nb P ps h1)]; exact h1, h2, fun pos cv hc => ?_⟩
    obtain ⟨c, e1, e2⟩ := h3 pos cv hc
    exact ⟨c, e1, by rw [k c (fun z => by subst z; exact (sf _ e2).2 c _ rfl)]; exact e2⟩
/-- what is new was free -/
def New (H0 G0 G : Hp) : Prop := ∀ a, G0 a = none → H0 a ≠ none → G a = none

/-- a dict of tuples of ints and texts, or a thing by what is true of its object -/
def Opq : Bool → HO → Prop
  | true, o => ∃ kvs, o = .dT kvs
  | false, o => ∃ φ, o = .ext φ
theorem Opq.lst {t : Bool} {o : HO} (h : Opq t o) (xs : List V) : o ≠ .lst xs := fun e => by
  subst e
  cases t
  · obtain ⟨_, z⟩ := h
    cases z
  · obtain ⟨_, z⟩ := h
    cases z
theorem Opq.dK {t : Bool} {o : HO} (h : Opq t o) (kvs : List (Key × V)) : o ≠ .dK kvs := fun e => by
  subst e
  cases t
  · obtain ⟨_, z⟩ := h
    cases z
  · obtain ⟨_, z⟩ := h
    cases z
theorem Opq.nt {t : Bool} {o : HO} (h : Opq t o) : NT o := fun ps e => by
  subst e
  cases t
  · obtain ⟨_, z⟩ := h
    cases z
  · obtain ⟨_, z⟩ := h
    cases z
/-- a list that is written out in K -/
def KLs (K : PySem.W.Frag) (a : Addr) (xs : List V) : Prop := ∃ (o : Obj) (its : Array Value) (n : Nat), K.lookup a = some o ∧ o.cls = .type "list" ∧ o.dict = none ∧ o.data = .seq its n ∧ its.size ≤ sizeLine ∧ Vals xs its.toList
def LsR (K : PySem.W.Frag) (H : Hp) (a : Addr) (xs : List V) : Prop := Rd H a (.lst xs) ∨ KLs K a xs
theorem rd_at {H H' : Hp} {a : Addr} {u : HO} (e : H' a = H a) (h : Rd H a u) : Rd H' a u := by
  unfold Rd at h ⊢
  rw [e]
  exact h
theorem rd_ne {H : Hp} {a p : Addr} {u : HO} (h : Rd H a u) (hp : H p = none) : a ≠ p := fun z => by
  subst z
  rcases h with h | ⟨o, h⟩ <;> rw [hp] at h <;> cases h
theorem rd_not {H : Hp} {a p : Addr} {u o : HO} (h : Rd H a u) (hp : H p = some o) (h1 : o ≠ u) (h2 : ∀ ob, o ≠ .frz ob u) : a ≠ p := fun z => by
  subst z
  rcases h with h | ⟨ob, h⟩ <;> rw [hp] at h <;> cases h
  · exact h1 rfl
  · exact h2 _ rfl
theorem LsR.seq {K : PySem.W.Frag} {H : Hp} {a : Addr} {xs : List V} (h : LsR K H a xs) : SqL K H a xs := h
theorem KLs.seq {K : PySem.W.Frag} {H : Hp} {a : Addr} {xs : List V} (h : KLs K a xs) : SqL K H a xs := .inr h
def SlR (K : PySem.W.Frag) (dr : Option Addr) (H0 H G : Hp) (v : Option (Option V)) : Sl → Prop
  | .emp => True
  | .val d => ∃ u, v = some (some u) ∧ Rp K dr G u d
  | .own ds => ∃ p xs, v = some (some (.ref p)) ∧ H p = some (.lst xs) ∧ G p = none ∧ dr ≠ some p ∧ H0 p = none ∧ RpA K dr G xs ds
  | .bor ds => ∃ p xs, v = some (some (.ref p)) ∧ ((Rd H p (.lst xs) ∧ H0 p ≠ none) ∨ KLs K p xs) ∧ RpA K dr G xs ds
  | .dic ks ds => ∃ p kvs, v = some (some (.ref p)) ∧ H p = some (.dK kvs) ∧ G p = none ∧ dr ≠ some p ∧ H0 p = none ∧ kvs.map (·.1) = ks ∧ RpA K dr G (kvs.map (·.2)) ds
  | .mem t F Pk n => ∃ p o, v = some (some (.ref p)) ∧ H p = some o ∧ G p = none ∧ dr ≠ some p ∧ H0 p = none ∧ Opq t o ∧ F Pk n p o
structure Rs (K : PySem.W.Frag) (dr : Option Addr) (H0 G0 : Hp) (σ : St) (H G : Hp) (s : S) : Prop where
  sub : Sub G H
  base : Bse dr H0 H
  new : New H0 G0 G
  len : s.env.length = σ.length
  slot : ∀ (i : Nat) (x : Sl), s.env[i]? = some x → SlR K dr H0 H G σ[i]? x
  inj : ∀ (i j : Nat) (p : Addr) (ds es : List D), i ≠ j → s.env[i]? = some (.own ds) → s.env[j]? = some (.own es) → σ[i]? = some (some (.ref p)) → σ[j]? ≠ some (some (.ref p))
  injD : ∀ (i j : Nat) (p : Addr) (ks ls : List Key) (ds es : List D), i ≠ j → s.env[i]? = some (.dic ks ds) → s.env[j]? = some (.dic ls es) → σ[i]? = some (some (.ref p)) → σ[j]? ≠ some (some (.ref p))
  drw : Drw G H dr s.n
section
variable {K : PySem.W.Frag} {dr : Option Addr} {H0 G0 : Hp} {σ : St} {H G H' G' : Hp} {s : S}
theorem Drw.ne (h : Drw G H dr n) {p : Addr} (hp : H p = none) : dr ≠ some p := fun e => by
  obtain ⟨L, ns, a, l, u, e1, _⟩ := (h p e).ex
  rw [hp] at e1
  cases e1
theorem Sub.none (h : Sub G H) {p : Addr} (hp : H p = none) : G p = none := by
  cases e : G p with
  | none => rfl
  | some o =>
    rw [h p o e] at hp
    cases hp
theorem Same.upd {p : Addr} {o : HO} (h : H p = none) : Same H (upd H p o) := fun a u e => by
  rw [upd_ne (ne_of_none e h)]
  exact e
/-- a new object of both heaps -/
theorem nt_upd {G : Hp} {p : Addr} {o : HO} (h : ∀ a ps, G a ≠ some (.tbl ps)) (hn : NT o) : ∀ a ps, L2.upd G p o a ≠ some (.tbl ps) := fun a ps z => by
  by_cases e : a = p
  · subst e
    rw [upd_same] at z
    cases z
    exact hn ps rfl
  · rw [upd_ne e] at z
    exact h a ps z
theorem Rs.alloc {p : Addr} {o : HO} (R : Rs K dr H0 G0 σ H G s) (hp : H p = none) (hn : NT o := by first | exact nt_lst | exact nt_dK | (intro ps z; cases z) | (intro ps z; exact nomatch z)) : Rs K dr H0 G0 σ (upd H p o) (upd G p o) s := by
  have gp : G p = none := R.sub.none hp
  have dn : dr ≠ some p := R.drw.ne hp
  have kG : Same G (upd G p o) := Same.upd gp
  refine ⟨⟨fun a u e => ?_, nt_upd R.sub.nt hn⟩, ?_, fun a h1 h2 => ?_, R.len, fun i x hx => ?_, R.inj, R.injD, fun a ha => ?_⟩
  · by_cases h : a = p
    · subst h
      rw [upd_same] at e ⊢
      exact e
    · rw [upd_ne h] at e ⊢
      exact R.sub a u e
  · exact R.base.upd (fun a h => upd_ne h) (Soft.none hp) (.inl (R.base.free dn hp))
  · by_cases h : a = p
    · subst h
      exact absurd (R.base.free dn hp) h2
    · rw [upd_ne h]
      exact R.new a h1 h2
  · have q := R.slot i x hx
    cases x with
    | emp => trivial
    | val d =>
      obtain ⟨u, e, r⟩ := q
      exact ⟨u, e, r.mono kG⟩
    | own ds =>
      obtain ⟨q1, xs, e, h1, h2, h3, h4, r⟩ := q
      have ne : q1 ≠ p := ne_of_none h1 hp
      exact ⟨q1, xs, e, by rw [upd_ne ne]; exact h1, by rw [upd_ne ne]; exact h2, h3, h4, r.mono kG⟩
    | bor ds =>
      obtain ⟨q1, xs, e, hb, r⟩ := q
      refine ⟨q1, xs, e, ?_, r.mono kG⟩
      rcases hb with ⟨h1, h2⟩ | hb
      · exact .inl ⟨rd_at (upd_ne (rd_ne h1 hp)) h1, h2⟩
      · exact .inr hb
    | dic ks ds =>
      obtain ⟨q1, xs, e, h1, h2, h3, h4, h5, r⟩ := q
      have ne : q1 ≠ p := ne_of_none h1 hp
      exact ⟨q1, xs, e, by rw [upd_ne ne]; exact h1, by rw [upd_ne ne]; exact h2, h3, h4, h5, r.mono kG⟩
    | mem t F Pk n =>
      obtain ⟨q1, o1, e, g1, g2, g3, g4, g5, g6⟩ := q
      have ne : q1 ≠ p := by
        first
          | exact ne_of_none g1 hp
          | (intro z; rw [z, h1] at g1; cases g1; exact g5.lst _ rfl)
          | (intro z; rw [z, h1] at g1; cases g1; exact g5.dK _ rfl)
      exact ⟨q1, o1, e, by first | exact g1 | (rw [upd_ne ne]; exact g1), by first | exact g2 | (rw [upd_ne ne]; exact g2), g3, g4, g5, g6⟩
  · obtain ⟨f, L, ns, x, l, u, e1, e2, k⟩ := R.drw a ha
    have ne : a ≠ p := fun z => dn (by rw [ha, z])
    exact ⟨by rw [upd_ne ne]; exact f, L, ns, x, l, u, by rw [upd_ne ne]; exact e1, kG L _ e2, k⟩
end
section
variable {K : PySem.W.Frag} {dr : Option Addr} {G : Hp} {p : Addr} {ps : Array Value}
theorem off_tbl {a : Addr} {o : HO} (h : L2.upd G p (.tbl ps) a = some o) (hn : NT o) : G a = some o := by
  by_cases e : a = p
  · subst e
    rw [upd_same] at h
    cases h
    exact absurd rfl (hn ps)
  · rwa [upd_ne e] at h
theorem One.off (o : One K (L2.upd G p (.tbl ps))) : One K G := by
  obtain ⟨ob, h, q⟩ := o
  exact ⟨ob, h, q.imp (fun z => off_tbl z fun _ z => nomatch z) id⟩
theorem SqT.off {a : Addr} {xs : List V} (h : SqT K (L2.upd G p (.tbl ps)) a xs) : SqT K G a xs := by
  rcases h with (h | ⟨o, h⟩) | h
  · exact .inl (.inl (off_tbl h fun _ z => nomatch z))
  · exact .inl (.inr ⟨o, off_tbl h fun _ z => nomatch z⟩)
  · exact .inr h
mutual
theorem Rp.off {v : V} {d : D} : Rp K dr (L2.upd G p (.tbl ps)) v d → Rp K dr G v d
  | .non => .non
  | .bl b => .bl b
  | .int i => .int i
  | .str x => .str x
  | .lst h hs => .lst (off_tbl h fun _ z => nomatch z) (RpA.off hs)
  | .tup h hs => .tup (SqT.off h) (RpA.off hs)
  | .drw h o => .drw h o.off
  | .dic0 h o => .dic0 (off_tbl h fun _ z => nomatch z) o.off
  | .dct h e hs => .dct (off_tbl h fun _ z => nomatch z) e (RpA.off hs)
  | .exc T hc hv h1 h2 h3 hl hs => .exc T hc hv (off_tbl h1 fun _ z => nomatch z) (fun ne => by
      obtain ⟨d, e1, e2⟩ := h2 ne
      exact ⟨d, e1, off_tbl e2 fun _ z => nomatch z⟩) h3 hl (RpA.off hs)
theorem RpA.off {vs : List V} {ds : List D} : RpA K dr (L2.upd G p (.tbl ps)) vs ds → RpA K dr G vs ds
  | .nil => .nil
  | .cons r t => .cons (Rp.off r) (RpA.off t)
end
end
section
variable {K : PySem.W.Frag} {dr : Option Addr} {H0 G0 : Hp} {σ : St} {H G H' G' : Hp} {s : S}
/-- a new object of the heap alone -/
theorem Rs.allocH {p : Addr} {o : HO} (R : Rs K dr H0 G0 σ H G s) (hp : H p = none) : Rs K dr H0 G0 σ (L2.upd H p o) G s := by
  have dn : dr ≠ some p := R.drw.ne hp
  refine ⟨⟨fun a u e => ?_, R.sub.nt⟩, R.base.upd (fun a h => upd_ne h) (Soft.none hp) (.inl (R.base.free dn hp)), R.new, R.len, fun i x hx => ?_, R.inj, R.injD, fun a ha => ?_⟩
  · rw [upd_ne (ne_of_none (R.sub a u e) hp)]
    exact R.sub a u e
  · have q := R.slot i x hx
    cases x with
    | emp => trivial
    | val d => exact q
    | own ds =>
      obtain ⟨q1, xs, e, h1, h2⟩ := q
      exact ⟨q1, xs, e, by rw [upd_ne (ne_of_none h1 hp)]; exact h1, h2⟩
    | bor ds =>
      obtain ⟨q1, xs, e, hb, rR⟩ := q
      refine ⟨q1, xs, e, ?_, rR⟩
      rcases hb with ⟨h1, h2⟩ | hb
      · exact .inl ⟨rd_at (upd_ne (rd_ne h1 hp)) h1, h2⟩
      · exact .inr hb
    | dic ks ds =>
      obtain ⟨q1, xs, e, h1, h2⟩ := q
      exact ⟨q1, xs, e, by rw [upd_ne (ne_of_none h1 hp)]; exact h1, h2⟩
    | mem t F Pk n =>
      obtain ⟨q1, o1, e, g1, g2, g3, g4, g5, g6⟩ := q
      have ne : q1 ≠ p := by
        first
          | exact ne_of_none g1 hp
          | (intro z; rw [z, h1] at g1; cases g1; exact g5.lst _ rfl)
          | (intro z; rw [z, h1] at g1; cases g1; exact g5.dK _ rfl)
      exact ⟨q1, o1, e, by first | exact g1 | (rw [upd_ne ne]; exact g1), by first | exact g2 | (rw [upd_ne ne]; exact g2), g3, g4, g5, g6⟩
  · obtain ⟨f, L, ns, x, l, u, e1, e2, k⟩ := R.drw a ha
    exact ⟨f, L, ns, x, l, u, by rw [upd_ne (ne_of_none e1 hp)]; exact e1, e2, k⟩
/-- a new object, whatever it is -/
theorem Rs.fresh {p : Addr} {o : HO} (R : Rs K dr H0 G0 σ H G s) (hp : H p = none) : ∃ G', Same G G' ∧ Rs K dr H0 G0 σ (L2.upd H p o) G' s ∧ (∀ a, a ≠ p → G' a = G a) ∧ ∀ v d, Rp K dr (L2.upd G p o) v d → Rp K dr G' v d := by
  by_cases t : ∃ ps, o = .tbl ps
  · obtain ⟨ps, rfl⟩ := t
    exact ⟨G, Same.refl G, R.allocH hp, fun _ _ => rfl, fun v d r => r.off⟩
  · exact ⟨_, Same.upd (R.sub.none hp), R.alloc hp (fun ps z => t ⟨ps, z⟩), fun a h => upd_ne h, fun v d r => r⟩
end
section
variable {K : PySem.W.Frag} {dr : Option Addr} {H0 G0 : Hp} {σ : St} {H G H' G' : Hp} {s : S}
/-- a slot stored -/
theorem Rs.set {i : Nat} {v : V} {d : D} (R : Rs K dr H0 G0 σ H G s) (hi : i < σ.length) (r : Rp K dr G v d) : Rs K dr H0 G0 (σ.set i (some v)) H G { s with env := s.env.set i (.val d) } := by
  refine ⟨R.sub, R.base, R.new, by simp [R.len], fun j x hx => ?_, fun j k p ds es hjk e1 e2 e3 => ?_, fun j k p ks ls ds es hjk e1 e2 e3 => ?_, R.drw⟩
  · by_cases h : i = j
    · subst h
      rw [List.getElem?_set_self (by rw [R.len]; exact hi)] at hx
      cases hx
      exact ⟨v, by rw [List.getElem?_set_self hi], r⟩
    · rw [List.getElem?_set_ne h] at hx ⊢
      exact R.slot j x hx
  · have nj : i ≠ j := fun z => by
      subst z
      rw [List.getElem?_set_self (by rw [R.len]; exact hi)] at e1
      cases e1
    have nk : i ≠ k := fun z => by
      subst z
      rw [List.getElem?_set_self (by rw [R.len]; exact hi)] at e2
      cases e2
    rw [List.getElem?_set_ne nj] at e1 e3
    rw [List.getElem?_set_ne nk] at e2 ⊢
    exact R.inj j k p ds es hjk e1 e2 e3
  · have nj : i ≠ j := fun z => by
      subst z
      rw [List.getElem?_set_self (by rw [R.len]; exact hi)] at e1
      cases e1
    have nk : i ≠ k := fun z => by
      subst z
      rw [List.getElem?_set_self (by rw [R.len]; exact hi)] at e2
      cases e2
    rw [List.getElem?_set_ne nj] at e1 e3
    rw [List.getElem?_set_ne nk] at e2 ⊢
    exact R.injD j k p ks ls ds es hjk e1 e2 e3
/-- a new list comes to be a slot's own: ahead of its tracking in G -/
theorem Rs.setOwn {i : Nat} {p : Addr} {xs : List V} {ds : List D} (R : Rs K dr H0 G0 σ H G s) (hi : i < σ.length) (hp : H p = none) (r : RpA K dr G xs ds) :
    Rs K dr H0 G0 (σ.set i (some (.ref p))) (L2.upd H p (.lst xs)) G { s with env := s.env.set i (.own ds) } := by
  have gp : G p = none := R.sub.none hp
  have dn : dr ≠ some p := R.drw.ne hp
  have h0p : H0 p = none := R.base.free dn hp
  have fr : ∀ j es, i ≠ j → s.env[j]? = some (.own es) → σ[j]? ≠ some (some (.ref p)) := fun j es hj e z => by
    obtain ⟨q, ys, e1, h1, _⟩ := R.slot j _ e
    rw [z] at e1
    cases e1
    rw [hp] at h1
    cases h1
  refine ⟨⟨fun a u e => ?_, R.sub.nt⟩, ?_, R.new, by simp [R.len], fun j x hx => ?_, fun j k q es fs hjk e1 e2 e3 => ?_, fun j k q ks ls es fs hjk e1 e2 e3 => ?_, fun a ha => ?_⟩
  · rw [upd_ne (ne_of_none (R.sub a u e) hp)]
    exact R.sub a u e
  · exact R.base.upd (fun a h => upd_ne h) (Soft.none hp) (.inl (R.base.free dn hp))
  · by_cases h : i = j
    · subst h
      rw [List.getElem?_set_self (by rw [R.len]; exact hi)] at hx
      cases hx
      exact ⟨p, xs, by rw [List.getElem?_set_self hi], upd_same, gp, dn, h0p, r⟩
    · rw [List.getElem?_set_ne h] at hx ⊢
      have q := R.slot j x hx
      cases x with
      | emp => trivial
      | val d => exact q
      | own es =>
        obtain ⟨q1, ys, e, h1, h2, h3, h4, r⟩ := q
        exact ⟨q1, ys, e, by rw [upd_ne (ne_of_none h1 hp)]; exact h1, h2, h3, h4, r⟩
      | bor es =>
        obtain ⟨q1, ys, e, hb, r⟩ := q
        refine ⟨q1, ys, e, ?_, r⟩
        rcases hb with ⟨h1, h2⟩ | hb
        · exact .inl ⟨rd_at (upd_ne (rd_ne h1 hp)) h1, h2⟩
        · exact .inr hb
      | dic ks es =>
        obtain ⟨q1, ys, e, h1, h2, h3, h4, h5, r⟩ := q
        exact ⟨q1, ys, e, by rw [upd_ne (ne_of_none h1 hp)]; exact h1, h2, h3, h4, h5, r⟩
      | mem t F Pk n =>
        obtain ⟨q1, o1, e, g1, g2, g3, g4, g5, g6⟩ := q
        have ne : q1 ≠ p := by
          first
            | exact ne_of_none g1 hp
            | (intro z; rw [z, h1] at g1; cases g1; exact g5.lst _ rfl)
            | (intro z; rw [z, h1] at g1; cases g1; exact g5.dK _ rfl)
        exact ⟨q1, o1, e, by first | exact g1 | (rw [upd_ne ne]; exact g1), by first | exact g2 | (rw [upd_ne ne]; exact g2), g3, g4, g5, g6⟩
  · by_cases h : i = j
    · subst h
      rw [List.getElem?_set_self hi] at e3
      cases e3
      rw [List.getElem?_set_ne hjk] at e2 ⊢
      exact fr k _ hjk e2
    · rw [List.getElem?_set_ne h] at e1 e3
      by_cases h' : i = k
      · subst h'
        rw [List.getElem?_set_self hi]
        intro z
        cases z
        exact fr j _ h e1 e3
      · rw [List.getElem?_set_ne h'] at e2 ⊢
        exact R.inj j k q es fs hjk e1 e2 e3
  · have nj : i ≠ j := fun z => by
      subst z
      rw [List.getElem?_set_self (by rw [R.len]; exact hi)] at e1
      cases e1
    have nk : i ≠ k := fun z => by
      subst z
      rw [List.getElem?_set_self (by rw [R.len]; exact hi)] at e2
      cases e2
    rw [List.getElem?_set_ne nj] at e1 e3
    rw [List.getElem?_set_ne nk] at e2 ⊢
    exact R.injD j k q ks ls es fs hjk e1 e2 e3
  · obtain ⟨f, L, ns, x, l, u, e1, e2, k⟩ := R.drw a ha
    exact ⟨f, L, ns, x, l, u, by rw [upd_ne (ne_of_none e1 hp)]; exact e1, e2, k⟩
/-- a slot's own list is written -/
theorem Rs.write {i : Nat} {p : Addr} {ys : List V} {ds es : List D} (R : Rs K dr H0 G0 σ H G s) (hx : s.env[i]? = some (.own ds)) (hv : σ[i]? = some (some (.ref p))) (r : RpA K dr G ys es) :
    Rs K dr H0 G0 σ (L2.upd H p (.lst ys)) G { s with env := s.env.set i (.own es) } := by
  obtain ⟨p', xs, e1, h1, h2, h3, h4, r0⟩ := R.slot i _ hx
  rw [hv] at e1
  cases e1
  have hi : i < σ.length := by
    have := (List.getElem?_eq_some_iff.mp hx).1
    rw [R.len] at this
    exact this
  have hie : i < s.env.length := by rw [R.len]; exact hi
  refine ⟨⟨fun a u e => ?_, R.sub.nt⟩, ?_, R.new, by simp [R.len], fun j x hx' => ?_, fun j k q es' fs hjk e1 e2 e3 => ?_, fun j k q ks ls es' fs hjk e1 e2 e3 => ?_, fun a ha => ?_⟩
  · have ne : a ≠ p := fun z => by
      subst z
      rw [h2] at e
      cases e
    rw [upd_ne ne]
    exact R.sub a u e
  · exact R.base.upd (fun a h => upd_ne h) (Soft.lst h1) (.inl h4)
  · by_cases h : i = j
    · subst h
      rw [List.getElem?_set_self hie] at hx'
      cases hx'
      exact ⟨p, ys, hv, upd_same, h2, h3, h4, r⟩
    · rw [List.getElem?_set_ne h] at hx'
      have q := R.slot j x hx'
      cases x with
      | emp => trivial
      | val d => exact q
      | own fs =>
        obtain ⟨q1, zs, e, g1, g2, g3, g4, r'⟩ := q
        have ne : q1 ≠ p := fun z => by
          subst z
          exact R.inj i j q1 ds fs h hx hx' hv e
        exact ⟨q1, zs, e, by rw [upd_ne ne]; exact g1, g2, g3, g4, r'⟩
      | bor fs =>
        obtain ⟨q1, zs, e, hb, r'⟩ := q
        refine ⟨q1, zs, e, ?_, r'⟩
        rcases hb with ⟨g1, g2⟩ | hb
        · have ne : q1 ≠ p := fun z => g2 (by rw [z]; exact h4)
          exact .inl ⟨rd_at (upd_ne ne) g1, g2⟩
        · exact .inr hb
      | dic ks fs =>
        obtain ⟨q1, zs, e, g1, g2, g3, g4, g5, r'⟩ := q
        have ne : q1 ≠ p := fun z => by
          rw [z, h1] at g1
          cases g1
        exact ⟨q1, zs, e, by rw [upd_ne ne]; exact g1, g2, g3, g4, g5, r'⟩
      | mem t F Pk n =>
        obtain ⟨q1, o1, e, g1, g2, g3, g4, g5, g6⟩ := q
        have ne : q1 ≠ p := by
          first
            | exact ne_of_none g1 hp
            | (intro z; rw [z, h1] at g1; cases g1; exact g5.lst _ rfl)
            | (intro z; rw [z, h1] at g1; cases g1; exact g5.dK _ rfl)
        exact ⟨q1, o1, e, by first | exact g1 | (rw [upd_ne ne]; exact g1), by first | exact g2 | (rw [upd_ne ne]; exact g2), g3, g4, g5, g6⟩
  · have back : ∀ {k : Nat} {fs : List D}, (s.env.set i (.own es))[k]? = some (.own fs) → ∃ gs, s.env[k]? = some (.own gs) := fun {k fs} e => by
      by_cases h : i = k
      · subst h
        exact ⟨ds, hx⟩
      · rw [List.getElem?_set_ne h] at e
        exact ⟨fs, e⟩
    obtain ⟨g1, e1'⟩ := back e1
    obtain ⟨g2, e2'⟩ := back e2
    exact R.inj j k q g1 g2 hjk e1' e2' e3
  · have nj : i ≠ j := fun z => by
      subst z
      rw [List.getElem?_set_self hie] at e1
      cases e1
    have nk : i ≠ k := fun z => by
      subst z
      rw [List.getElem?_set_self hie] at e2
      cases e2
    rw [List.getElem?_set_ne nj] at e1
    rw [List.getElem?_set_ne nk] at e2
    exact R.injD j k q ks ls es' fs hjk e1 e2 e3
  · obtain ⟨f, L, ns, x, l, u, e1, e2, k⟩ := R.drw a ha
    have ne : a ≠ p := fun z => h3 (by rw [ha, z])
    exact ⟨f, L, ns, x, l, u, by rw [upd_ne ne]; exact e1, e2, k⟩
/-- a slot's own list becomes plain data -/
theorem Rs.freeze {i : Nat} {ds : List D} (R : Rs K dr H0 G0 σ H G s) (hx : s.env[i]? = some (.own ds)) :
    ∃ (p : Addr) (xs : List V), σ[i]? = some (some (.ref p)) ∧ H p = some (.lst xs) ∧ G p = none ∧ RpA K dr G xs ds ∧ Rs K dr H0 G0 σ H (L2.upd G p (.lst xs)) { s with env := s.env.set i (.val (.lst ds)) } := by
  obtain ⟨p, xs, e1, h1, h2, h3, h4, r⟩ := R.slot i _ hx
  have kG : Same G (L2.upd G p (.lst xs)) := Same.upd h2
  have hi : i < s.env.length := (List.getElem?_eq_some_iff.mp hx).1
  refine ⟨p, xs, e1, h1, h2, r, ⟨fun a u e => ?_, nt_upd R.sub.nt nt_lst⟩, R.base, fun a z1 z2 => ?_, by simp [R.len], fun j x hx' => ?_, fun j k q es fs hjk e1' e2 e3 => ?_, fun j k q ks ls es fs hjk e1' e2 e3 => ?_, fun a ha => ?_⟩
  · by_cases h : a = p
    · subst h
      rw [upd_same] at e
      cases e
      exact h1
    · rw [upd_ne h] at e
      exact R.sub a u e
  · have ne : a ≠ p := fun z => z2 (by rw [z]; exact h4)
    rw [upd_ne ne]
    exact R.new a z1 z2
  · by_cases h : i = j
    · subst h
      rw [List.getElem?_set_self hi] at hx'
      cases hx'
      exact ⟨.ref p, e1, .lst upd_same (r.mono kG)⟩
    · rw [List.getElem?_set_ne h] at hx'
      have q := R.slot j x hx'
      cases x with
      | emp => trivial
      | val d =>
        obtain ⟨u, e, r'⟩ := q
        exact ⟨u, e, r'.mono kG⟩
      | own fs =>
        obtain ⟨q1, zs, e, g1, g2, g3, g4, r'⟩ := q
        have ne : q1 ≠ p := fun z => by
          subst z
          exact R.inj i j q1 ds fs h hx hx' e1 e
        exact ⟨q1, zs, e, g1, by rw [upd_ne ne]; exact g2, g3, g4, r'.mono kG⟩
      | bor fs =>
        obtain ⟨q1, zs, e, hb, r'⟩ := q
        refine ⟨q1, zs, e, ?_, r'.mono kG⟩
        rcases hb with ⟨g1, g2⟩ | hb
        · exact .inl ⟨g1, g2⟩
        · exact .inr hb
      | dic ks fs =>
        obtain ⟨q1, zs, e, g1, g2, g3, g4, g5, r'⟩ := q
        have ne : q1 ≠ p := fun z => by
          rw [z, h1] at g1
          cases g1
        exact ⟨q1, zs, e, g1, by rw [upd_ne ne]; exact g2, g3, g4, g5, r'.mono kG⟩
      | mem t F Pk n =>
        obtain ⟨q1, o1, e, g1, g2, g3, g4, g5, g6⟩ := q
        have ne : q1 ≠ p := by
          first
            | exact ne_of_none g1 hp
            | (intro z; rw [z, h1] at g1; cases g1; exact g5.lst _ rfl)
            | (intro z; rw [z, h1] at g1; cases g1; exact g5.dK _ rfl)
        exact ⟨q1, o1, e, by first | exact g1 | (rw [upd_ne ne]; exact g1), by first | exact g2 | (rw [upd_ne ne]; exact g2), g3, g4, g5, g6⟩
  · have back : ∀ {k : Nat} {fs : List D}, (s.env.set i (.val (.lst ds)))[k]? = some (.own fs) → s.env[k]? = some (.own fs) := fun {k fs} e => by
      by_cases h : i = k
      · subst h
        rw [List.getElem?_set_self hi] at e
        cases e
      · rw [List.getElem?_set_ne h] at e
        exact e
    exact R.inj j k q es fs hjk (back e1') (back e2) e3
  · have nj : i ≠ j := fun z => by
      subst z
      rw [List.getElem?_set_self hi] at e1'
      cases e1'
    have nk : i ≠ k := fun z => by
      subst z
      rw [List.getElem?_set_self hi] at e2
      cases e2
    rw [List.getElem?_set_ne nj] at e1'
    rw [List.getElem?_set_ne nk] at e2
    exact R.injD j k q ks ls es fs hjk e1' e2 e3
  · obtain ⟨f, L, ns, x, l, u, z1, z2, k⟩ := R.drw a ha
    have ne : a ≠ p := fun z => h3 (by rw [ha, z])
    exact ⟨by rw [upd_ne ne]; exact f, L, ns, x, l, u, z1, kG L _ z2, k⟩
end

section
variable {K : PySem.W.Frag} {dr : Option Addr} {H0 G0 : Hp} {σ : St} {H G H' G' : Hp} {s : S}
/-- an object of a slot's own is replaced in both heaps, the slot is no dict any more -/
theorem Rs.freezeD {i : Nat} {ks : List Key} {ds : List D} (R : Rs K dr H0 G0 σ H G s) (hx : s.env[i]? = some (.dic ks ds)) :
    ∃ (p : Addr) (kvs : List (Key × V)), σ[i]? = some (some (.ref p)) ∧ H p = some (.dK kvs) ∧ G p = none ∧ kvs.map (·.1) = ks ∧ RpA K dr G (kvs.map (·.2)) ds ∧
      ∀ od, Rs K dr H0 G0 σ (L2.upd H p (.frz od (.dK kvs))) (L2.upd G p (.frz od (.dK kvs))) { s with env := s.env.set i (.val (.dct ks ds)) } := by
  obtain ⟨p, kvs, e1, h1, h2, h3, h4, h5, r⟩ := R.slot i _ hx
  have hi : i < s.env.length := (List.getElem?_eq_some_iff.mp hx).1
  refine ⟨p, kvs, e1, h1, h2, h5, r, fun od => ?_⟩
  have kG : Same G (L2.upd G p (.frz od (.dK kvs))) := Same.upd h2
  refine ⟨⟨fun a u e => ?_, nt_upd R.sub.nt (fun ps z => nomatch z)⟩, ?_, fun a z1 z2 => ?_, by simp [R.len], fun j x hx' => ?_, fun j k q es fs hjk e1' e2 e3 => ?_, fun j k q ks' ls es fs hjk e1' e2 e3 => ?_, fun a ha => ?_⟩
  · by_cases h : a = p
    · subst h
      rw [upd_same] at e ⊢
      exact e
    · rw [upd_ne h] at e ⊢
      exact R.sub a u e
  · exact R.base.upd (fun a h => upd_ne h) (Soft.dK h1) (.inl h4)
  · have ne : a ≠ p := fun z => z2 (by rw [z]; exact h4)
    rw [upd_ne ne]
    exact R.new a z1 z2
  · by_cases h : i = j
    · subst h
      rw [List.getElem?_set_self hi] at hx'
      cases hx'
      exact ⟨.ref p, e1, .dct upd_same h5 (r.mono kG)⟩
    · rw [List.getElem?_set_ne h] at hx'
      have q := R.slot j x hx'
      cases x with
      | emp => trivial
      | val d =>
        obtain ⟨u, e, r'⟩ := q
        exact ⟨u, e, r'.mono kG⟩
      | own fs =>
        obtain ⟨q1, zs, e, g1, g2, g3, g4, r'⟩ := q
        have ne : q1 ≠ p := fun z => by
          rw [z, h1] at g1
          cases g1
        exact ⟨q1, zs, e, by rw [upd_ne ne]; exact g1, by rw [upd_ne ne]; exact g2, g3, g4, r'.mono kG⟩
      | bor fs =>
        obtain ⟨q1, zs, e, hb, r'⟩ := q
        refine ⟨q1, zs, e, ?_, r'.mono kG⟩
        rcases hb with ⟨g1, g2⟩ | hb
        · have ne : q1 ≠ p := fun z => g2 (by rw [z]; exact h4)
          exact .inl ⟨rd_at (upd_ne ne) g1, g2⟩
        · exact .inr hb
      | dic ks' fs =>
        obtain ⟨q1, zs, e, g1, g2, g3, g4, g5, r'⟩ := q
        have ne : q1 ≠ p := fun z => by
          subst z
          exact R.injD i j q1 ks ks' ds fs h hx hx' e1 e
        exact ⟨q1, zs, e, by rw [upd_ne ne]; exact g1, by rw [upd_ne ne]; exact g2, g3, g4, g5, r'.mono kG⟩
      | mem t F Pk n =>
        obtain ⟨q1, o1, e, g1, g2, g3, g4, g5, g6⟩ := q
        have ne : q1 ≠ p := by
          first
            | exact ne_of_none g1 hp
            | (intro z; rw [z, h1] at g1; cases g1; exact g5.lst _ rfl)
            | (intro z; rw [z, h1] at g1; cases g1; exact g5.dK _ rfl)
        exact ⟨q1, o1, e, by first | exact g1 | (rw [upd_ne ne]; exact g1), by first | exact g2 | (rw [upd_ne ne]; exact g2), g3, g4, g5, g6⟩
  · have nj : i ≠ j := fun z => by
      subst z
      rw [List.getElem?_set_self hi] at e1'
      cases e1'
    have nk : i ≠ k := fun z => by
      subst z
      rw [List.getElem?_set_self hi] at e2
      cases e2
    rw [List.getElem?_set_ne nj] at e1'
    rw [List.getElem?_set_ne nk] at e2
    exact R.inj j k q es fs hjk e1' e2 e3
  · have nj : i ≠ j := fun z => by
      subst z
      rw [List.getElem?_set_self hi] at e1'
      cases e1'
    have nk : i ≠ k := fun z => by
      subst z
      rw [List.getElem?_set_self hi] at e2
      cases e2
    rw [List.getElem?_set_ne nj] at e1'
    rw [List.getElem?_set_ne nk] at e2
    exact R.injD j k q ks' ls es fs hjk e1' e2 e3
  · obtain ⟨f, L, ns, x, l, u, z1, z2, z3⟩ := R.drw a ha
    have ne : a ≠ p := fun z => h3 (by rw [ha, z])
    exact ⟨by rw [upd_ne ne]; exact f, L, ns, x, l, u, by rw [upd_ne ne]; exact z1, kG L _ z2, z3⟩
/-- a slot's own dict is written -/
theorem Rs.writeD {i : Nat} {p : Addr} {kvs : List (Key × V)} {ks ls : List Key} {ds es : List D} (R : Rs K dr H0 G0 σ H G s) (hx : s.env[i]? = some (.dic ks ds)) (hv : σ[i]? = some (some (.ref p))) (he : kvs.map (·.1) = ls) (r : RpA K dr G (kvs.map (·.2)) es) :
    Rs K dr H0 G0 σ (L2.upd H p (.dK kvs)) G { s with env := s.env.set i (.dic ls es) } := by
  obtain ⟨p', kvs0, e1, h1, h2, h3, h4, h5, r0⟩ := R.slot i _ hx
  rw [hv] at e1
  cases e1
  have hie : i < s.env.length := (List.getElem?_eq_some_iff.mp hx).1
  refine ⟨⟨fun a u e => ?_, R.sub.nt⟩, ?_, R.new, by simp [R.len], fun j x hx' => ?_, fun j k q es' fs hjk e1 e2 e3 => ?_, fun j k q ks' ls' es' fs hjk e1 e2 e3 => ?_, fun a ha => ?_⟩
  · have ne : a ≠ p := fun z => by
      subst z
      rw [h2] at e
      cases e
    rw [upd_ne ne]
    exact R.sub a u e
  · exact R.base.upd (fun a h => upd_ne h) (Soft.dK h1) (.inl h4)
  · by_cases h : i = j
    · subst h
      rw [List.getElem?_set_self hie] at hx'
      cases hx'
      exact ⟨p, kvs, hv, upd_same, h2, h3, h4, he, r⟩
    · rw [List.getElem?_set_ne h] at hx'
      have q := R.slot j x hx'
      cases x with
      | emp => trivial
      | val d => exact q
      | own fs =>
        obtain ⟨q1, zs, e, g1, g2, g3, g4, r'⟩ := q
        have ne : q1 ≠ p := fun z => by
          rw [z, h1] at g1
          cases g1
        exact ⟨q1, zs, e, by rw [upd_ne ne]; exact g1, g2, g3, g4, r'⟩
      | bor fs =>
        obtain ⟨q1, zs, e, hb, r'⟩ := q
        refine ⟨q1, zs, e, ?_, r'⟩
        rcases hb with ⟨g1, g2⟩ | hb
        · have ne : q1 ≠ p := fun z => g2 (by rw [z]; exact h4)
          exact .inl ⟨rd_at (upd_ne ne) g1, g2⟩
        · exact .inr hb
      | dic ks' fs =>
        obtain ⟨q1, zs, e, g1, g2, g3, g4, g5, r'⟩ := q
        have ne : q1 ≠ p := fun z => by
          subst z
          exact R.injD i j q1 ks ks' ds fs h hx hx' hv e
        exact ⟨q1, zs, e, by rw [upd_ne ne]; exact g1, g2, g3, g4, g5, r'⟩
      | mem t F Pk n =>
        obtain ⟨q1, o1, e, g1, g2, g3, g4, g5, g6⟩ := q
        have ne : q1 ≠ p := by
          first
            | exact ne_of_none g1 hp
            | (intro z; rw [z, h1] at g1; cases g1; exact g5.lst _ rfl)
            | (intro z; rw [z, h1] at g1; cases g1; exact g5.dK _ rfl)
        exact ⟨q1, o1, e, by first | exact g1 | (rw [upd_ne ne]; exact g1), by first | exact g2 | (rw [upd_ne ne]; exact g2), g3, g4, g5, g6⟩
  · have nj : i ≠ j := fun z => by
      subst z
      rw [List.getElem?_set_self hie] at e1
      cases e1
    have nk : i ≠ k := fun z => by
      subst z
      rw [List.getElem?_set_self hie] at e2
      cases e2
    rw [List.getElem?_set_ne nj] at e1
    rw [List.getElem?_set_ne nk] at e2
    exact R.inj j k q es' fs hjk e1 e2 e3
  · have back : ∀ {k : Nat} {ms : List Key} {fs : List D}, (s.env.set i (.dic ls es))[k]? = some (.dic ms fs) → ∃ ms gs, s.env[k]? = some (.dic ms gs) := fun {k ms fs} e => by
      by_cases h : i = k
      · subst h
        exact ⟨ks, ds, hx⟩
      · rw [List.getElem?_set_ne h] at e
        exact ⟨ms, fs, e⟩
    obtain ⟨m1, g1, e1'⟩ := back e1
    obtain ⟨m2, g2, e2'⟩ := back e2
    exact R.injD j k q m1 m2 g1 g2 hjk e1' e2' e3
  · obtain ⟨f, L, ns, x, l, u, e1, e2, k⟩ := R.drw a ha
    have ne : a ≠ p := fun z => h3 (by rw [ha, z])
    exact ⟨f, L, ns, x, l, u, by rw [upd_ne ne]; exact e1, e2, k⟩
/-- a new dict comes to be a slot's own -/
theorem Rs.setDic {i : Nat} {p : Addr} {kvs : List (Key × V)} {ks : List Key} {ds : List D} (R : Rs K dr H0 G0 σ H G s) (hi : i < σ.length) (hp : H p = none) (he : kvs.map (·.1) = ks) (r : RpA K dr G (kvs.map (·.2)) ds) :
    Rs K dr H0 G0 (σ.set i (some (.ref p))) (L2.upd H p (.dK kvs)) G { s with env := s.env.set i (.dic ks ds) } := by
  have gp : G p = none := R.sub.none hp
  have dn : dr ≠ some p := R.drw.ne hp
  have hie : i < s.env.length := by rw [R.len]; exact hi
  have h0p : H0 p = none := R.base.free dn hp
  have fr : ∀ j ms es, i ≠ j → s.env[j]? = some (.dic ms es) → σ[j]? ≠ some (some (.ref p)) := fun j ms es hj e z => by
    obtain ⟨q, ys, e1, h1, _⟩ := R.slot j _ e
    rw [z] at e1
    cases e1
    rw [hp] at h1
    cases h1
  refine ⟨⟨fun a u e => ?_, R.sub.nt⟩, ?_, R.new, by simp [R.len], fun j x hx => ?_, fun j k q es fs hjk e1 e2 e3 => ?_, fun j k q ms ls es fs hjk e1 e2 e3 => ?_, fun a ha => ?_⟩
  · rw [upd_ne (ne_of_none (R.sub a u e) hp)]
    exact R.sub a u e
  · exact R.base.upd (fun a h => upd_ne h) (Soft.none hp) (.inl (R.base.free dn hp))
  · by_cases h : i = j
    · subst h
      rw [List.getElem?_set_self hie] at hx
      cases hx
      exact ⟨p, kvs, by rw [List.getElem?_set_self hi], upd_same, gp, dn, h0p, he, r⟩
    · rw [List.getElem?_set_ne h] at hx ⊢
      have q := R.slot j x hx
      cases x with
      | emp => trivial
      | val d => exact q
      | own es =>
        obtain ⟨q1, ys, e, h1, h2, h3, h4, r⟩ := q
        exact ⟨q1, ys, e, by rw [upd_ne (ne_of_none h1 hp)]; exact h1, h2, h3, h4, r⟩
      | bor es =>
        obtain ⟨q1, ys, e, hb, r⟩ := q
        refine ⟨q1, ys, e, ?_, r⟩
        rcases hb with ⟨h1, h2⟩ | hb
        · exact .inl ⟨rd_at (upd_ne (rd_ne h1 hp)) h1, h2⟩
        · exact .inr hb
      | dic ms es =>
        obtain ⟨q1, ys, e, h1, h2, h3, h4, h5, r⟩ := q
        exact ⟨q1, ys, e, by rw [upd_ne (ne_of_none h1 hp)]; exact h1, h2, h3, h4, h5, r⟩
      | mem t F Pk n =>
        obtain ⟨q1, o1, e, g1, g2, g3, g4, g5, g6⟩ := q
        have ne : q1 ≠ p := by
          first
            | exact ne_of_none g1 hp
            | (intro z; rw [z, h1] at g1; cases g1; exact g5.lst _ rfl)
            | (intro z; rw [z, h1] at g1; cases g1; exact g5.dK _ rfl)
        exact ⟨q1, o1, e, by first | exact g1 | (rw [upd_ne ne]; exact g1), by first | exact g2 | (rw [upd_ne ne]; exact g2), g3, g4, g5, g6⟩
  · have nj : i ≠ j := fun z => by
      subst z
      rw [List.getElem?_set_self hie] at e1
      cases e1
    have nk : i ≠ k := fun z => by
      subst z
      rw [List.getElem?_set_self hie] at e2
      cases e2
    rw [List.getElem?_set_ne nj] at e1 e3
    rw [List.getElem?_set_ne nk] at e2 ⊢
    exact R.inj j k q es fs hjk e1 e2 e3
  · by_cases h : i = j
    · subst h
      rw [List.getElem?_set_self hi] at e3
      cases e3
      rw [List.getElem?_set_ne hjk] at e2 ⊢
      exact fr k _ _ hjk e2
    · rw [List.getElem?_set_ne h] at e1 e3
      by_cases h' : i = k
      · subst h'
        rw [List.getElem?_set_self hi]
        intro z
        cases z
        exact fr j _ _ h e1 e3
      · rw [List.getElem?_set_ne h'] at e2 ⊢
        exact R.injD j k q ms ls es fs hjk e1 e2 e3
  · obtain ⟨f, L, ns, x, l, u, e1, e2, k⟩ := R.drw a ha
    exact ⟨f, L, ns, x, l, u, by rw [upd_ne (ne_of_none e1 hp)]; exact e1, e2, k⟩
end

/-! ### readings by data -/
structure W where
  f : S → (D → S → Prop) → Prop
  mono : ∀ s P P', (∀ d s', P d s' → P' d s') → f s P → f s P'
structure WT where
  f : S → (Bool → S → Prop) → Prop
  mono : ∀ s P P', (∀ d s', P d s' → P' d s') → f s P → f s P'
structure WA where
  f : S → (List D → S → Prop) → Prop
  mono : ∀ s P P', (∀ d s', P d s' → P' d s') → f s P → f s P'
/-- where a proof stands: K, the draws, the heaps at the entry -/
structure Pl where
  K : PySem.W.Frag
  dr : Option Addr
  H0 : Hp
  G0 : Hp
abbrev Pl.Rs (p : Pl) (σ : St) (H G : Hp) (s : S) : Prop := DI.Rs p.K p.dr p.H0 p.G0 σ H G s
abbrev Pl.Rp (p : Pl) (G : Hp) (v : V) (d : D) : Prop := DI.Rp p.K p.dr G v d
abbrev Pl.RpA (p : Pl) (G : Hp) (v : List V) (d : List D) : Prop := DI.RpA p.K p.dr G v d
def lift (p : Pl) (w : W) : TE := fun σ H Q => ∃ G s, p.Rs σ H G s ∧ w.f s fun d s' => ∀ v H' G', Same G G' → p.Rs σ H' G' s' → p.Rp G' v d → Q v H'
def liftT (p : Pl) (w : WT) : TT := fun σ H Q => ∃ G s, p.Rs σ H G s ∧ w.f s fun b s' => ∀ H' G', Same G G' → p.Rs σ H' G' s' → Q b H'
theorem PE.imp {X : Cx} {e : Expr} {t t' : TE} (h : PE X e t) (i : ∀ σ H Q, t' σ H Q → t σ H Q) : PE X e t' := ⟨fun pins s σ H Q I q => h.run pins s σ H Q I (i σ H Q q)⟩
theorem PT.imp {X : Cx} {e : Expr} {t t' : TT} (h : PT X e t) (i : ∀ σ H Q, t' σ H Q → t σ H Q) : PT X e t' := ⟨fun pins s σ H Q I q => h.run pins s σ H Q I (i σ H Q q)⟩
theorem PA.imp {X : Cx} {e : List Expr} {t t' : TA} (h : PA X e t) (i : ∀ σ H Q, t' σ H Q → t σ H Q) : PA X e t' := ⟨fun pos pins s σ H Q I q => h.run pos pins s σ H Q I (i σ H Q q)⟩
theorem PS.imp {X : Cx} {e : Stmt} {t t' : TS} (h : PS X e t) (i : ∀ D σ H, t' D σ H → t D σ H) : PS X e t' := ⟨fun pins s σ H Q I q => h.run pins s σ H Q I (i Q σ H q)⟩
theorem PSs.imp {X : Cx} {e : List Stmt} {t t' : TS} (h : PSs X e t) (i : ∀ D σ H, t' D σ H → t D σ H) : PSs X e t' := ⟨fun pins s σ H Q I q => h.run pins s σ H Q I (i Q σ H q)⟩
end DI
/-! Expressions by data. -/
namespace DI
open PySem L2
variable [Nm]
def get {α : Type} (o : Option α) (P : α → Prop) : Prop := match o with
  | some d => P d
  | none => False
theorem get_some {α : Type} {P : α → Prop} {d : α} : get (some d) P = P d := rfl
theorem get_mono {α : Type} {o : Option α} {P P' : α → Prop} (h : ∀ d, P d → P' d) (q : get o P) : get o P' := by
  cases o with
  | none => exact q
  | some d => exact h d q
theorem get_of {α : Type} {o : Option α} {P : α → Prop} (q : get o P) : ∃ d, o = some d ∧ P d := by
  cases o with
  | none => exact q.elim
  | some d => exact ⟨d, rfl, q⟩

/-- what a slot holds, to be read -/
def vget (env : List Sl) (i : Nat) : Option D := match env[i]? with
  | some (.val d) => some d
  | some (.own ds) => some (.lst ds)
  | some (.bor ds) => some (.lst ds)
  | _ => none
/-- a value read without being kept -/
def RpB (p : Pl) (H G : Hp) (v : V) : D → Prop
  | .lst ds => ∃ a xs, v = .ref a ∧ LsR p.K H a xs ∧ p.RpA G xs ds
  | d => p.Rp G v d
section
variable {p : Pl} {σ : St} {H G H' G' : Hp} {s : S} {v : V} {d : D}
theorem RpB.of (hs : Same G H) (r : p.Rp G v d) : RpB p H G v d := by
  cases r with
  | lst h a => exact ⟨_, _, rfl, .inl (.inl (hs _ _ h)), a⟩
  | non => exact .non
  | bl b => exact .bl b
  | int i => exact .int i
  | str x => exact .str x
  | tup h a => exact .tup h a
  | drw h o => exact .drw h o
  | dic0 h o => exact .dic0 h o
  | dct h q a => exact .dct h q a
  | exc a b c d e f g h => exact .exc a b c d e f g h
theorem vget_rb {i : Nat} (R : p.Rs σ H G s) (h : vget s.env i = some d) : ∃ v, σ[i]? = some (some v) ∧ RpB p H G v d := by
  unfold vget at h
  cases e : s.env[i]? with
  | none =>
    rw [e] at h
    cases h
  | some x =>
    have q := R.slot i x e
    rw [e] at h
    cases x with
    | emp => cases h
    | dic ks ds => cases h
    | mem t F Pk m => cases h
    | val d' =>
      cases h
      obtain ⟨u, e1, r⟩ := q
      exact ⟨u, e1, .of R.sub r⟩
    | own ds =>
      cases h
      obtain ⟨a, xs, e1, h1, _, _, _, r⟩ := q
      exact ⟨_, e1, a, xs, rfl, .inl (.inl h1), r⟩
    | bor ds =>
      cases h
      obtain ⟨a, xs, e1, h1, r⟩ := q
      exact ⟨_, e1, a, xs, rfl, h1.elim (fun z => .inl z.1) .inr, r⟩
end

/-- a mutable thing is given away for good: it is locked -/
def tFrz (t : TE) : TE := fun σ H Q => t σ H fun v H1 => Q v H1 ∨ ∃ a u, v = .ref a ∧ H1 a = some u ∧ Mut (some u) ∧ ∀ od, Q v (L2.upd H1 a (.frz od u))
theorem pe_frz {X : Cx} {e : Expr} {t : TE} (h : PE X e t) : PE X e (tFrz t) := ⟨fun pins s σ H Q I k => thn (h.run pins s σ H _ I k) fun v s1 ⟨x, H1, I1, r1, q1⟩ => by
  rcases q1 with q | ⟨a, u, rfl, ha, mu, q⟩
  · exact ⟨x, H1, I1, r1, q⟩
  · obtain ⟨od, I2⟩ := I1.lock ha mu
    exact ⟨_, _, I2, r1, q od⟩⟩
/-! ### constants and names -/
def wC (d : D) : W := ⟨fun s P => P d s, fun _ _ _ h q => h _ _ q⟩
def wVar (i : Nat) : W := ⟨fun s P => match s.env[i]? with
  | some (.val d) => P d s
  | some (.own ds) => P (.lst ds) { s with env := s.env.set i (.val (.lst ds)) }
  | some (.dic ks ds) => P (.dct ks ds) { s with env := s.env.set i (.val (.dct ks ds)) }
  | _ => False, fun s P P' h q => by
    cases e : s.env[i]? with
    | none => simp only [e] at q
    | some x => cases x <;> simp only [e] at q ⊢ <;> exact h _ _ q⟩
/-- a value that stands for itself: any G bears it -/
def Cst (p : Pl) (v : V) (d : D) : Prop := ∀ G, p.Rp G v d
section
variable {X : Cx} {p : Pl} {e a b : Expr} {es : List Expr} {pos : Pos} {w wa wb : W} {t : TE}
theorem pd_c {v : V} {d : D} (h : PE X e (tC v)) (r : Cst p v d) : PE X e (lift p (wC d)) :=
  PE.imp h fun σ H Q ⟨G, s, R, k⟩ => k v H G (Same.refl G) R (r G)
theorem pd_int {i j} : PE X (.Constant (.int i) j pos) (lift p (wC (.int i))) := pd_c pe_int fun _ => .int i
theorem pd_bl {i j} : PE X (.Constant (.bool i) j pos) (lift p (wC (.bl i))) := pd_c pe_bl fun _ => .bl i
theorem pd_non {j} : PE X (.Constant .none j pos) (lift p (wC .non)) := pd_c pe_non fun _ => .non
theorem pd_str {x j} : PE X (.Constant (.str x) j pos) (lift p (wC (.str x))) := pd_c pe_str fun _ => .str x
theorem pd_glob {x : Str} {v : V} {u : Value} {d : D} (hg : Gl X x) (hm : X.mg x = some u) (r : RelV v u) (c : Cst p v d) (hd : (x == ("__debug__" : Str)) = false := by decide) : PE X (.Name x pos) (lift p (wC d)) := pd_c (pe_glob hg hm r hd) c
theorem pd_var (i : Nat) (h : PE X e (tVar i)) : PE X e (lift p (wVar i)) := PE.imp (pe_frz h) fun σ H Q ⟨G, s, R, k⟩ => by
  have k' : (match s.env[i]? with
    | some (.val d) => (fun d s' => ∀ v H' G', Same G G' → p.Rs σ H' G' s' → p.Rp G' v d → Q v H') d s
    | some (.own ds) => (fun d s' => ∀ v H' G', Same G G' → p.Rs σ H' G' s' → p.Rp G' v d → Q v H') (.lst ds) { s with env := s.env.set i (.val (.lst ds)) }
    | some (.dic ks ds) => (fun d s' => ∀ v H' G', Same G G' → p.Rs σ H' G' s' → p.Rp G' v d → Q v H') (.dct ks ds) { s with env := s.env.set i (.val (.dct ks ds)) }
    | _ => False) := k
  cases e : s.env[i]? with
  | none =>
    rw [e] at k'
    exact k'.elim
  | some x =>
    rw [e] at k'
    cases x with
    | emp => exact k'.elim
    | bor ds => exact k'.elim
    | mem t F Pk m => exact k'.elim
    | val d =>
      obtain ⟨u, e1, r⟩ := R.slot i _ e
      exact ⟨u, e1, .inl (k' u H G (Same.refl G) R r)⟩
    | own ds =>
      obtain ⟨q, xs, e1, h1, h2, r, R'⟩ := R.freeze e
      have kG : Same G (L2.upd G q (.lst xs)) := Same.upd h2
      exact ⟨_, e1, .inl (k' _ H _ kG R' (.lst upd_same (r.mono kG)))⟩
    | dic ks ds =>
      obtain ⟨q, kvs, e1, h1, h2, h5, r, R'⟩ := R.freezeD e
      refine ⟨_, e1, .inr ⟨q, _, rfl, h1, True.intro, fun od => ?_⟩⟩
      have kG : Same G (L2.upd G q (.frz od (.dK kvs))) := Same.upd h2
      exact k' _ _ _ kG (R' od) (.dct upd_same h5 (r.mono kG))

/-! ### operators -/
/-- an operation by values does what g says on data -/
def OpD (p : Pl) (r : R2) (c : D → D → Prop) (g : D → D → Option D) : Prop :=
  ∀ (G H : Hp) (x y : V) (d1 d2 d : D) (Q : VK), Sub G H → RpB p H G x d1 → RpB p H G y d2 → c d1 d2 → g d1 d2 = some d → (∀ v, p.Rp G v d → Q v H) → (∀ a o, H a = none → p.Rp (upd G a o) (.ref a) d → Q (.ref a) (upd H a o)) → r x y H Q
theorem OpD.or {r r' : R2} {c c' : D → D → Prop} {g g' : D → D → Option D} {c2 : D → D → Prop} {g2 : D → D → Option D} (h : OpD p r c g) (h' : OpD p r' c' g')
    (i : ∀ d1 d2 d, c2 d1 d2 → g2 d1 d2 = some d → (c d1 d2 ∧ g d1 d2 = some d) ∨ (c' d1 d2 ∧ g' d1 d2 = some d)) : OpD p (fun x y H Q => r x y H Q ∨ r' x y H Q) c2 g2 := by
  intro G H x y d1 d2 d Q hs r1 r2 hc hg k1 k2
  rcases i d1 d2 d hc hg with ⟨a, b⟩ | ⟨a, b⟩
  · exact .inl (h G H x y d1 d2 d Q hs r1 r2 a b k1 k2)
  · exact .inr (h' G H x y d1 d2 d Q hs r1 r2 a b k1 k2)
def wBin (c : D → D → Prop) (g : D → D → Option D) (wa wb : W) : W := ⟨fun s P => wa.f s fun d1 s1 => wb.f s1 fun d2 s2 => c d1 d2 ∧ get (g d1 d2) fun d => P d s2,
  fun s P P' h q => wa.mono _ _ _ (fun d1 s1 q1 => wb.mono _ _ _ (fun d2 s2 ⟨q2, q3⟩ => ⟨q2, get_mono (fun d => h d s2) q3⟩) q1) q⟩
/-- the first operand a name -/
def wBinV (c : D → D → Prop) (g : D → D → Option D) (i : Nat) (wb : W) : W := ⟨fun s P => get (vget s.env i) fun _ => wb.f s fun d2 s2 => get (vget s2.env i) fun d1 => c d1 d2 ∧ get (g d1 d2) fun d => P d s2,
  fun s P P' h q => get_mono (fun _ q => wb.mono _ _ _ (fun d2 s2 q1 => get_mono (fun d1 ⟨q2, q3⟩ => ⟨q2, get_mono (fun d => h d s2) q3⟩) q1) q) q⟩
/-- the second operand a name -/
def wBinR (c : D → D → Prop) (g : D → D → Option D) (wa : W) (i : Nat) : W := ⟨fun s P => wa.f s fun d1 s1 => get (vget s1.env i) fun d2 => c d1 d2 ∧ get (g d1 d2) fun d => P d s1,
  fun s P P' h q => wa.mono _ _ _ (fun d2 s2 q1 => get_mono (fun d1 ⟨q2, q3⟩ => ⟨q2, get_mono (fun d => h d s2) q3⟩) q1) q⟩
theorem op_lift {r : R2} {c : D → D → Prop} {g : D → D → Option D} (hd : OpD p r c g) (σ : St) (H : Hp) (Q : VK) (h : lift p (wBin c g wa wb) σ H Q) : tOp r (lift p wa) (lift p wb) σ H Q := by
  obtain ⟨G, s, R, k⟩ := h
  refine ⟨G, s, R, wa.mono _ _ _ (fun d1 s1 k1 x H1 G1 e1 R1 r1 => ⟨G1, s1, R1, wb.mono _ _ _ (fun d2 s2 k2 y H2 G2 e2 R2 r2 => ?_) k1⟩) k⟩
  obtain ⟨kc, kg⟩ := k2
  obtain ⟨d, eg, kd⟩ := get_of kg
  exact hd G2 H2 x y d1 d2 d Q R2.sub (.of R2.sub (r1.mono e2)) (.of R2.sub r2) kc eg (fun v rv => kd v H2 G2 (e1.trans e2) R2 rv) fun a o ha ra => by
      obtain ⟨Gn, en, Rn, _, rn⟩ := R2.fresh ha
      exact kd _ _ _ ((e1.trans e2).trans en) Rn (rn _ _ ra)
theorem opV_lift {r : R2} {c : D → D → Prop} {g : D → D → Option D} {i : Nat} (hd : OpD p r c g) (σ : St) (H : Hp) (Q : VK) (h : lift p (wBinV c g i wb) σ H Q) : tOp r (tVar i) (lift p wb) σ H Q := by
  obtain ⟨G, s, R, k⟩ := h
  obtain ⟨d0, e0, k⟩ := get_of k
  obtain ⟨x, hx, _⟩ := vget_rb R e0
  refine ⟨x, hx, G, s, R, wb.mono _ _ _ (fun d2 s2 k2 y H2 G2 e2 R2 r2 => ?_) k⟩
  obtain ⟨d1, ed, k3⟩ := get_of k2
  obtain ⟨x', ex, rx⟩ := vget_rb R2 ed
  rw [hx] at ex
  cases ex
  obtain ⟨kc, kg⟩ := k3
  obtain ⟨d, eg, kd⟩ := get_of kg
  exact hd G2 H2 x y d1 d2 d Q R2.sub rx (.of R2.sub r2) kc eg (fun v rv => kd v H2 G2 e2 R2 rv) fun a o ha ra => by
      obtain ⟨Gn, en, Rn, _, rn⟩ := R2.fresh ha
      exact kd _ _ _ (e2.trans en) Rn (rn _ _ ra)
/-! the rules -/
theorem rb_int {i : Int} {x : V} {G H : Hp} (r : RpB p H G x (.int i)) : x = .int i := by
  have r' : p.Rp G x (.int i) := r
  cases r'
  rfl
theorem rb_bl {i : Bool} {x : V} {G H : Hp} (r : RpB p H G x (.bl i)) : x = .bl i := by
  have r' : p.Rp G x (.bl i) := r
  cases r'
  rfl
theorem rb_str {i : Str} {x : V} {G H : Hp} (r : RpB p H G x (.str i)) : x = .str i := by
  have r' : p.Rp G x (.str i) := r
  cases r'
  rfl
theorem rb_tup {ds : List D} {x : V} {G H : Hp} (hs : Sub G H) (r : RpB p H G x (.tup ds)) : ∃ a xs, x = .ref a ∧ SqT p.K G a xs ∧ SqT p.K H a xs ∧ p.RpA G xs ds := by
  have r' : p.Rp G x (.tup ds) := r
  cases r' with
  | tup h k => exact ⟨_, _, rfl, h, Same.tup hs.go h, k⟩
theorem rb_non {x : V} {G H : Hp} (r : RpB p H G x .non) : x = .non := by
  have r' : p.Rp G x .non := r
  cases r'
  rfl
/-- two ints -/
def gI (f : Int → Int → D) : D → D → Option D
  | .int i, .int j => some (f i j)
  | _, _ => none
theorem gI_of {f : Int → Int → D} {a b d : D} (h : gI f a b = some d) : ∃ i j, a = .int i ∧ b = .int j ∧ d = f i j := by
  cases a <;> cases b <;> simp only [gI] at h <;> cases h
  exact ⟨_, _, rfl, rfl, rfl⟩
def cT : D → D → Prop := fun _ _ => True
def cI (C : Int → Int → Prop) : D → D → Prop
  | .int i, .int j => C i j
  | _, _ => False
theorem od_I {C : Int → Int → Prop} {f : Int → Int → Int} : OpD p (rI C fun i j => .int (f i j)) (cI C) (gI fun i j => .int (f i j)) := by
  intro G H x y d1 d2 d Q hs r1 r2 hc hg k1 k2
  obtain ⟨i, j, rfl, rfl, rfl⟩ := gI_of hg
  cases rb_int r1
  cases rb_int r2
  exact ⟨i, j, rfl, rfl, hc, k1 _ (.int _)⟩
theorem od_I0 {f : Int → Int → Int} : OpD p (rI0 fun i j => .int (f i j)) cT (gI fun i j => .int (f i j)) := by
  intro G H x y d1 d2 d Q hs r1 r2 hc hg k1 k2
  obtain ⟨i, j, rfl, rfl, rfl⟩ := gI_of hg
  cases rb_int r1
  cases rb_int r2
  exact ⟨i, j, rfl, rfl, k1 _ (.int _)⟩
/-- + -/
def gAdd : D → D → Option D
  | .int i, .int j => some (.int (i + j))
  | .str x, .str y => some (.str (x ++ y))
  | .tup x, .tup y => some (.tup (x ++ y))
  | .lst x, .lst y => some (.lst (x ++ y))
  | _, _ => none
def cAdd : D → D → Prop
  | .str x, .str y => x.length + y.length ≤ sizeLine
  | .tup x, .tup y => x.length + y.length ≤ sizeLine
  | .lst x, .lst y => x.length + y.length ≤ sizeLine
  | _, _ => True
/-- script + [0]: lists of any sort -/
def rCatS (K : PySem.W.Frag) : R2 := fun x y H Q => ∃ a b xs zs, x = .ref a ∧ y = .ref b ∧ SqL K H a xs ∧ SqL K H b zs ∧ xs.length + zs.length ≤ sizeLine ∧ ∀ p, H p = none → Q (.ref p) (upd H p (.lst (xs ++ zs)))
theorem op_catS {X : Cx} : OpR X (binaryOp .Add) (rCatS X.K) := by
  intro pins s σ H x y v u Q I rx ry ⟨a, b, xs, zs, ex, ey, h1, h2, hz, q⟩
  subst ex ey
  cases rx
  cases ry
  obtain ⟨i1, v1, ⟨⟨c1, d1, dt1, s1⟩, n1, g1, e1, e2, e3⟩, z1⟩ := I.list h1
  obtain ⟨i2, v2, ⟨⟨c2, d2, dt2, s2⟩, n2, g2, f1, f2, f3⟩, z2⟩ := I.list h2
  subst e1 e2 e3 f1 f2 f3
  have hlen : i1.toArray.size + i2.toArray.size ≤ sizeLine := by
    have := v1.length; have := v2.length
    simp only [List.size_toArray]; omega
  open PyProof.Rows PySem.Spec in
  refine concat_meets ⟨_, g1, rfl⟩ ⟨_, g2, rfl⟩ noFill_list_add seq_list_add F.slot_list_add F.entry_list_add (F.args_list_add_2 _ _) (PyProof.Rows.list_addW a b _ _ n1 n2 _ _ _ _ hlen) ⟨g1, g2, ?_⟩
  have I2 := I.lnew (t' := s.toks) (v1.append v2) (by rw [List.length_append]; exact hz)
  refine ⟨.ref _, _, ?_, rfl, q _ I.fresh⟩
  simpa using I2
def rAddA (K : PySem.W.Frag) : R2 := fun x y H Q => rI0 (fun i j => .int (i + j)) x y H Q ∨ ((∃ i j, x = .str i ∧ y = .str j ∧ i.length + j.length ≤ sizeLine ∧ Q (.str (i ++ j)) H) ∨ (rCatA K x y H Q ∨ rCatS K x y H Q))
theorem op_addA : OpR X (binaryOp .Add) (rAddA X.K) := op_add.or (op_add_str.or (op_catA.or op_catS))
theorem od_add (hK : p.K = X.K) : OpD p (rAddA X.K) cAdd gAdd := by
  intro G H x y d1 d2 d Q hs r1 r2 hc hg k1 k2
  cases d1 <;> cases d2 <;> simp only [gAdd] at hg <;> cases hg
  · cases rb_int r1
    cases rb_int r2
    exact .inl ⟨_, _, rfl, rfl, k1 _ (.int _)⟩
  · cases rb_str r1
    cases rb_str r2
    exact .inr (.inl ⟨_, _, rfl, rfl, hc, k1 _ (.str _)⟩)
  · obtain ⟨a, xs, rfl, e1, h1⟩ := r1
    obtain ⟨b, ys, rfl, e2, h2⟩ := r2
    exact .inr (.inr (.inr ⟨a, b, xs, ys, rfl, rfl, hK ▸ e1.seq, hK ▸ e2.seq, by rw [h1.length, h2.length]; exact hc, fun l hl => k2 l _ hl (.lst upd_same ((h1.append h2).mono (Same.upd (hs.none hl))))⟩))
  · obtain ⟨a, xs, rfl, t1, e1, h1⟩ := rb_tup hs r1
    obtain ⟨b, ys, rfl, t2, e2, h2⟩ := rb_tup hs r2
    rw [hK] at e1 e2
    have l1 := h1.length
    have l2 := h2.length
    refine .inr (.inr (.inl ⟨a, b, xs, ys, rfl, rfl, e1, e2, by rw [l1, l2]; exact hc, fun z => ?_, fun z z2 => ?_, fun z1 z2 l hl => k2 l _ hl (.tup (.inl (.inl upd_same)) ((h1.append h2).mono (Same.upd (hs.none hl))))⟩))
    · subst z
      cases h1
      exact k1 _ (.tup t2 h2)
    · subst z2
      cases h2
      exact k1 _ (.tup t1 (by rw [List.append_nil]; exact h1))
abbrev gSub : D → D → Option D := gI fun i j => .int (i - j)
abbrev gMod : D → D → Option D := gI fun i j => .int (i % j)
abbrev gDiv : D → D → Option D := gI fun i j => .int (i / j)
abbrev cMod : D → D → Prop := cI fun _ j => 0 < j
abbrev cDiv : D → D → Prop := cI CDiv
section
variable (ha : PE X a (lift p wa)) (hb : PE X b (lift p wb))
include ha hb
theorem pd_add (hK : p.K = X.K := by rfl) : PE X (.BinOp a .Add b pos) (lift p (wBin cAdd gAdd wa wb)) := PE.imp (pe_op op_addA ha hb) (op_lift (od_add hK))
theorem pd_sub : PE X (.BinOp a .Sub b pos) (lift p (wBin cT gSub wa wb)) := PE.imp (pe_op op_sub ha hb) (op_lift od_I0)
theorem pd_mod : PE X (.BinOp a .Mod b pos) (lift p (wBin cMod gMod wa wb)) := PE.imp (pe_op op_mod ha hb) (op_lift od_I)
theorem pd_div : PE X (.BinOp a .FloorDiv b pos) (lift p (wBin cDiv gDiv wa wb)) := PE.imp (pe_op op_fdiv ha hb) (op_lift od_I)
end
theorem pd_neg (ha : PE X a (lift p wa)) : PE X (.UnaryOp .USub a pos) (lift p ⟨fun s P => wa.f s fun d s1 => get (match d with | .int i => some i | _ => none) fun i => P (.int (-i)) s1, fun s P P' h q => wa.mono _ _ _ (fun d s1 q => get_mono (fun i => h _ s1) q) q⟩) :=
  PE.imp (pe_un un_neg ha) fun σ H Q ⟨G, s, R, k⟩ => ⟨G, s, R, wa.mono _ _ _ (fun d s1 k1 x H1 G1 e1 R1 r1 => by
    obtain ⟨i, e, k2⟩ := get_of k1
    cases d <;> cases e
    cases r1
    exact ⟨i, rfl, k2 _ H1 G1 e1 R1 (.int _)⟩) k⟩

/-! ### equality of data -/
mutual
def toPy : D → PyData
  | .non => .none
  | .bl b => .bool b
  | .int i => .int i
  | .str x => .str x
  | .lst xs => .list (toPyA xs)
  | .tup xs => .tuple (toPyA xs)
  | .drw => .none
  | .dic0 => .dict []
  | .dct _ _ => .none
  | .exc _ _ _ => .none
def toPyA : List D → List PyData
  | [] => []
  | x :: xs => toPy x :: toPyA xs
end
mutual
def plain : D → Bool
  | .drw => false
  | .dic0 => false
  | .dct _ _ => false
  | .exc _ _ _ => false
  | .lst xs => plainA xs
  | .tup xs => plainA xs
  | _ => true
def plainA : List D → Bool
  | [] => true
  | x :: xs => plain x && plainA xs
end
def shp (d : D) : Prop := plain d = true ∧ SeqAt.shaped (toPy d) = true
mutual
theorem Rp.dp {K : PySem.W.Frag} {dr : Option Addr} {G : Hp} : ∀ {v : V} {d : D}, Rp K dr G v d → plain d = true → Dp K G v (toPy d)
  | _, _, .non, _ => by simp only [toPy]; exact .non
  | _, _, .bl b, _ => by simp only [toPy]; exact .bl b
  | _, _, .int i, _ => by simp only [toPy]; exact .int i
  | _, _, .str x, _ => by simp only [toPy]; exact .str x
  | _, _, .lst h hs, q => by
    simp only [toPy]
    exact .lst (SqL.of h) (RpA.dp hs (by simpa only [plain] using q))
  | _, _, .tup h hs, q => by
    simp only [toPy]
    exact .tup h (RpA.dp hs (by simpa only [plain] using q))
  | _, _, .drw h _, q => by simp [plain] at q
  | _, _, .dic0 h _, q => by simp [plain] at q
  | _, _, .dct _ _ _, q => by simp [plain] at q
  | _, _, .exc _ _ _ _ _ _ _ _, q => by simp [plain] at q
theorem RpA.dp {K : PySem.W.Frag} {dr : Option Addr} {G : Hp} : ∀ {vs : List V} {ds : List D}, RpA K dr G vs ds → plainA ds = true → DpAll K G vs (toPyA ds)
  | _, _, .nil, _ => by simp only [toPyA]; exact .nil
  | _, _, .cons r t, q => by
    simp only [plainA, Bool.and_eq_true] at q
    simp only [toPyA]
    exact .cons (Rp.dp r q.1) (RpA.dp t q.2)
end
theorem rb_dp {H G : Hp} {v : V} {d : D} (hs : Sub G H) (r : RpB p H G v d) (q : plain d = true) : Dp p.K H v (toPy d) := by
  cases d with
  | lst ds =>
    obtain ⟨a, xs, rfl, h, k⟩ := r
    simp only [toPy]
    exact .lst h.seq (RpA.dp (k.mono hs.go) (by simpa only [plain] using q))
  | _ => exact Rp.dp (Rp.mono hs.go r) q
def scalD : D → D → Bool
  | .non, .non => true | .non, .int _ => true | .int _, .non => true | .non, .bl _ => true | .bl _, .non => true | .non, .str _ => true | .str _, .non => true
  | .int _, .int _ => true | .bl _, .bl _ => true | .str _, .str _ => true
  | .int _, .str _ => true | .str _, .int _ => true | .bl _, .str _ => true | .str _, .bl _ => true
  | _, _ => false
def eqD (a b : D) : Bool := PyData.eqv (toPy a) (toPy b)
def cEq (a b : D) : Prop := scalD a b = true ∨ (shp a ∧ shp b)
def gEq (a b : D) : Option D := some (.bl (eqD a b))
def gNe (a b : D) : Option D := some (.bl (!eqD a b))
def rEqA (K : PySem.W.Frag) : R2 := fun x y H Q => rEq x y H Q ∨ rEqD K x y H Q
def rNeA (K : PySem.W.Frag) : R2 := fun x y H Q => rNe x y H Q ∨ rNeD K x y H Q
theorem op_eqA (hu : X.A.units + 64 < cLine) : OpR X (compareOp .Eq) (rEqA X.K) := op_eq.or (op_eqD hu)
theorem op_neA (hu : X.A.units + 64 < cLine) : OpR X (compareOp .NotEq) (rNeA X.K) := op_ne.or (op_neD hu)
theorem scal_of {H G : Hp} {x y : V} {d1 d2 : D} (r1 : RpB p H G x d1) (r2 : RpB p H G y d2) (h : scalD d1 d2 = true) : scal x y = true ∧ decide (x = y) = eqD d1 d2 := by
  cases d1 <;> cases d2 <;> simp only [scalD, Bool.false_eq_true] at h <;>
    first
    | (cases rb_non r1; cases rb_non r2; exact ⟨rfl, by simp [eqD, toPy, PyData.eqv]⟩)
    | (cases rb_non r1; cases rb_int r2; exact ⟨rfl, by simp [eqD, toPy, PyData.eqv]⟩)
    | (cases rb_non r1; cases rb_bl r2; exact ⟨rfl, by simp [eqD, toPy, PyData.eqv]⟩)
    | (cases rb_non r1; cases rb_str r2; exact ⟨rfl, by simp [eqD, toPy, PyData.eqv]⟩)
    | (cases rb_int r1; cases rb_non r2; exact ⟨rfl, by simp [eqD, toPy, PyData.eqv]⟩)
    | (cases rb_bl r1; cases rb_non r2; exact ⟨rfl, by simp [eqD, toPy, PyData.eqv]⟩)
    | (cases rb_str r1; cases rb_non r2; exact ⟨rfl, by simp [eqD, toPy, PyData.eqv]⟩)
    | (cases rb_int r1; cases rb_int r2; exact ⟨rfl, by rw [dec_int]; simp [eqD, toPy, PyData.eqv]⟩)
    | (cases rb_bl r1; cases rb_bl r2; exact ⟨rfl, by rw [dec_bl]; simp [eqD, toPy, PyData.eqv]⟩)
    | (cases rb_str r1; cases rb_str r2; exact ⟨rfl, by rw [dec_str]; simp [eqD, toPy, PyData.eqv]⟩)
    | (cases rb_int r1; cases rb_str r2; exact ⟨rfl, by simp [eqD, toPy, PyData.eqv]⟩)
    | (cases rb_str r1; cases rb_int r2; exact ⟨rfl, by simp [eqD, toPy, PyData.eqv]⟩)
    | (cases rb_bl r1; cases rb_str r2; exact ⟨rfl, by simp [eqD, toPy, PyData.eqv]⟩)
    | (cases rb_str r1; cases rb_bl r2; exact ⟨rfl, by simp [eqD, toPy, PyData.eqv]⟩)
theorem od_eq (hK : p.K = X.K) : OpD p (rEqA X.K) cEq gEq := by
  intro G H x y d1 d2 d Q hs r1 r2 hc hg k1 k2
  cases hg
  rcases hc with hc | ⟨⟨p1, s1⟩, ⟨p2, s2⟩⟩
  · obtain ⟨e1, e2⟩ := scal_of r1 r2 hc
    exact .inl ⟨e1, by rw [e2]; exact k1 _ (.bl _)⟩
  · exact .inr ⟨_, _, hK ▸ rb_dp hs r1 p1, hK ▸ rb_dp hs r2 p2, s1, s2, k1 _ (.bl _)⟩
theorem od_ne (hK : p.K = X.K) : OpD p (rNeA X.K) cEq gNe := by
  intro G H x y d1 d2 d Q hs r1 r2 hc hg k1 k2
  cases hg
  rcases hc with hc | ⟨⟨p1, s1⟩, ⟨p2, s2⟩⟩
  · obtain ⟨e1, e2⟩ := scal_of r1 r2 hc
    exact .inl ⟨e1, by rw [e2]; exact k1 _ (.bl _)⟩
  · exact .inr ⟨_, _, hK ▸ rb_dp hs r1 p1, hK ▸ rb_dp hs r2 p2, s1, s2, k1 _ (.bl _)⟩

/-! ### comparisons -/
def strLt (x y : Str) : Bool := decide (x.cps.toList < y.cps.toList)
def gLt : D → D → Option D
  | .int i, .int j => some (.bl (decide (i < j)))
  | .str x, .str y => some (.bl (strLt x y))
  | _, _ => none
def gLe : D → D → Option D
  | .int i, .int j => some (.bl (decide (i ≤ j)))
  | .str x, .str y => some (.bl (!strLt y x))
  | _, _ => none
def gGt : D → D → Option D
  | .int i, .int j => some (.bl (decide (j < i)))
  | .str x, .str y => some (.bl (strLt y x))
  | _, _ => none
def gGe : D → D → Option D
  | .int i, .int j => some (.bl (decide (j ≤ i)))
  | .str x, .str y => some (.bl (!strLt x y))
  | _, _ => none
def rS (f : Str → Str → Bool) : R2 := fun x y H Q => ∃ i j, x = .str i ∧ y = .str j ∧ Q (.bl (f i j)) H
theorem opS {op : CmpOp} {f : Str → Str → Bool} (rule : ∀ (x y : Str) (t u : Tok) (s : Shared) (Q : Value → Shared → Prop) (E : Value → Shared → Prop), Q (.bool (f x y)) s → wpAny (model X.prog X.w) X.A (compareOp op (.str x t) (.str y u)) Q E s) : OpR X (compareOp op) (rS f) := by
  intro pins s σ H x y v u Q I rx ry h
  obtain ⟨i, j, rfl, rfl, q⟩ := h
  obtain ⟨t, rfl⟩ := rx
  obtain ⟨t', rfl⟩ := ry
  exact rule i j t t' s _ _ ⟨.bl _, H, I, rfl, q⟩
theorem od_IS {f : Int → Int → Bool} {h : Str → Str → Bool} {g : D → D → Option D} (e : ∀ a b d, g a b = some d → (∃ i j, a = .int i ∧ b = .int j ∧ d = .bl (f i j)) ∨ (∃ i j, a = .str i ∧ b = .str j ∧ d = .bl (h i j))) :
    OpD p (fun x y H Q => rI0 (fun i j => .bl (f i j)) x y H Q ∨ rS h x y H Q) cT g := by
  intro G H x y d1 d2 d Q hs r1 r2 hc hg k1 k2
  rcases e _ _ _ hg with ⟨i, j, rfl, rfl, rfl⟩ | ⟨i, j, rfl, rfl, rfl⟩
  · cases rb_int r1
    cases rb_int r2
    exact .inl ⟨i, j, rfl, rfl, k1 _ (.bl _)⟩
  · cases rb_str r1
    cases rb_str r2
    exact .inr ⟨i, j, rfl, rfl, k1 _ (.bl _)⟩
/-- a comparison's rule: by values and by data -/
structure CmpR (X : Cx) (p : Pl) (op : CmpOp) (c : D → D → Prop) (g : D → D → Option D) : Prop where
  ex : ∃ r, OpR X (compareOp op) r ∧ OpD p r c g
theorem cm_lt : CmpR X p .Lt cT gLt := ⟨_, op_lt.or (opS fun _ _ _ _ _ _ _ q => PyProof.Rows.lt_str q), od_IS fun a b d h => by
  cases a <;> cases b <;> simp only [gLt] at h <;> cases h
  · exact .inl ⟨_, _, rfl, rfl, rfl⟩
  · exact .inr ⟨_, _, rfl, rfl, rfl⟩⟩
theorem cm_le : CmpR X p .LtE cT gLe := ⟨_, op_le.or (opS (f := fun x y => !strLt y x) fun _ _ _ _ _ _ _ q => PySem.P.le_str q), od_IS fun a b d h => by
  cases a <;> cases b <;> simp only [gLe] at h <;> cases h
  · exact .inl ⟨_, _, rfl, rfl, rfl⟩
  · exact .inr ⟨_, _, rfl, rfl, rfl⟩⟩
theorem cm_gt : CmpR X p .Gt cT gGt := ⟨_, op_gt.or (opS (f := fun x y => strLt y x) fun _ _ _ _ _ _ _ q => PySem.P.gt_str q), od_IS fun a b d h => by
  cases a <;> cases b <;> simp only [gGt] at h <;> cases h
  · exact .inl ⟨_, _, rfl, rfl, rfl⟩
  · exact .inr ⟨_, _, rfl, rfl, rfl⟩⟩
theorem cm_ge : CmpR X p .GtE cT gGe := ⟨_, op_ge.or (opS (f := fun x y => !strLt x y) fun _ _ _ _ _ _ _ q => PySem.P.ge_str q), od_IS fun a b d h => by
  cases a <;> cases b <;> simp only [gGe] at h <;> cases h
  · exact .inl ⟨_, _, rfl, rfl, rfl⟩
  · exact .inr ⟨_, _, rfl, rfl, rfl⟩⟩
theorem cm_eq {k : Nat} (hr : Room k X.A) (hK : p.K = X.K := by rfl) : CmpR X p .Eq cEq gEq := ⟨_, op_eqA hr.units, od_eq hK⟩
theorem cm_ne {k : Nat} (hr : Room k X.A) (hK : p.K = X.K := by rfl) : CmpR X p .NotEq cEq gNe := ⟨_, op_neA hr.units, od_ne hK⟩
/-- is None -/
def isNon : D → Bool
  | .non => true
  | _ => false
def gIsN : D → D → Option D
  | a, .non => some (.bl (isNon a))
  | _, _ => none
def gNotN : D → D → Option D
  | a, .non => some (.bl (!isNon a))
  | _, _ => none
theorem rb_isNon {H G : Hp} {x : V} {d : D} (r : RpB p H G x d) : decide (x = .non) = isNon d := by
  cases d with
  | lst ds =>
    obtain ⟨a, xs, rfl, _⟩ := r
    rfl
  | non => cases rb_non r; rfl
  | bl b => cases rb_bl r; rfl
  | int b => cases rb_int r; rfl
  | str b => cases rb_str r; rfl
  | tup ds =>
    have r' : p.Rp G x (.tup ds) := r
    cases r'
    rfl
  | drw =>
    have r' : p.Rp G x .drw := r
    cases r'
    rfl
  | dic0 =>
    have r' : p.Rp G x .dic0 := r
    cases r'
    rfl
  | dct ks ds =>
    have r' : p.Rp G x (.dct ks ds) := r
    cases r'
    rfl
  | exc nm fs ds =>
    have r' : p.Rp G x (.exc nm fs ds) := r
    cases r'
    rfl
theorem cm_isN : CmpR X p .Is cT gIsN := ⟨_, op_isN, fun G H x y d1 d2 d Q hs r1 r2 hc hg k1 k2 => by
  cases d2 <;> simp only [gIsN] at hg <;> cases hg
  cases rb_non r2
  exact ⟨rfl, by rw [rb_isNon r1]; exact k1 _ (.bl _)⟩⟩
theorem cm_notN : CmpR X p .IsNot cT gNotN := ⟨_, op_notN, fun G H x y d1 d2 d Q hs r1 r2 hc hg k1 k2 => by
  cases d2 <;> simp only [gNotN] at hg <;> cases hg
  cases rb_non r2
  exact ⟨rfl, by rw [rb_isNon r1]; exact k1 _ (.bl _)⟩⟩
/-- in: flat items, or a text in a text -/
def flatD : D → Bool
  | .non => true
  | .bl _ => true
  | .int _ => true
  | .str _ => true
  | _ => false
def inD (x : D) (xs : List D) : Bool := xs.any fun y => eqD y x
def inStr (x y : Str) : Bool := !(Builtin.Str.occurrences y x 0 y.length 1).isEmpty
def cIn : D → D → Prop
  | x, .tup ys => flatD x = true ∧ ys.all flatD = true
  | x, .lst ys => flatD x = true ∧ ys.all flatD = true
  | _, _ => True
def gIn : D → D → Option D
  | x, .tup ys => some (.bl (inD x ys))
  | x, .lst ys => some (.bl (inD x ys))
  | .str x, .str y => some (.bl (inStr x y))
  | _, _ => none
def gNin : D → D → Option D
  | x, .tup ys => some (.bl (!inD x ys))
  | x, .lst ys => some (.bl (!inD x ys))
  | .str x, .str y => some (.bl (!inStr x y))
  | _, _ => none
theorem flat_of {G H : Hp} {x : V} {d : D} (r : RpB p H G x d) (h : flatD d = true) : flatV x = true := by
  cases d <;> simp only [flatD, Bool.false_eq_true] at h
  · cases rb_non r; rfl
  · cases rb_bl r; rfl
  · cases rb_int r; rfl
  · cases rb_str r; rfl
theorem rp_rb {G : Hp} {x : V} {d : D} (r : p.Rp G x d) : RpB p G G x d := .of (fun _ _ h => h) r
theorem eqV_of {G H G' H' : Hp} {x y : V} {a b : D} (r1 : RpB p H G x a) (r2 : RpB p H' G' y b) (h1 : flatD a = true) (h2 : flatD b = true) : eqV x y = eqD a b := by
  cases a <;> simp only [flatD, Bool.false_eq_true] at h1 <;> cases b <;> simp only [flatD, Bool.false_eq_true] at h2 <;>
    first
    | (cases rb_non r1; cases rb_non r2; simp [eqD, toPy, PyData.eqv, eqV]; done)
    | (cases rb_non r1; cases rb_int r2; simp [eqD, toPy, PyData.eqv, eqV]; done)
    | (cases rb_non r1; cases rb_bl r2; simp [eqD, toPy, PyData.eqv, eqV]; done)
    | (cases rb_non r1; cases rb_str r2; simp [eqD, toPy, PyData.eqv, eqV]; done)
    | (cases rb_int r1; cases rb_non r2; simp [eqD, toPy, PyData.eqv, eqV]; done)
    | (cases rb_bl r1; cases rb_non r2; simp [eqD, toPy, PyData.eqv, eqV]; done)
    | (cases rb_str r1; cases rb_non r2; simp [eqD, toPy, PyData.eqv, eqV]; done)
    | (cases rb_int r1; cases rb_int r2; simp [eqD, toPy, PyData.eqv, eqV]; done)
    | (cases rb_int r1; cases rb_bl r2; simp [eqD, toPy, PyData.eqv, eqV]; done)
    | (cases rb_bl r1; cases rb_int r2; simp [eqD, toPy, PyData.eqv, eqV]; done)
    | (cases rb_bl r1; cases rb_bl r2; simp [eqD, toPy, PyData.eqv, eqV]; done)
    | (cases rb_str r1; cases rb_str r2; simp [eqD, toPy, PyData.eqv, eqV]; done)
    | (cases rb_int r1; cases rb_str r2; simp [eqD, toPy, PyData.eqv, eqV]; done)
    | (cases rb_str r1; cases rb_int r2; simp [eqD, toPy, PyData.eqv, eqV]; done)
    | (cases rb_bl r1; cases rb_str r2; simp [eqD, toPy, PyData.eqv, eqV]; done)
    | (cases rb_str r1; cases rb_bl r2; simp [eqD, toPy, PyData.eqv, eqV]; done)
theorem flats_of {G H : Hp} {x : V} {a : D} (r1 : RpB p H G x a) (h1 : flatD a = true) : ∀ {xs : List V} {ds : List D}, p.RpA G xs ds → ds.all flatD = true → xs.all flatV = true ∧ inV x xs = inD a ds
  | _, _, .nil, _ => ⟨rfl, rfl⟩
  | _, _, .cons r t, h => by
    rw [List.all_cons, Bool.and_eq_true] at h
    obtain ⟨q1, q2⟩ := flats_of r1 h1 t h.2
    refine ⟨by rw [List.all_cons, flat_of (rp_rb r) h.1, q1] <;> rfl, ?_⟩
    unfold inV inD at q2 ⊢
    rw [List.any_cons, List.any_cons, q2, eqV_of (rp_rb r) r1 h.1 h1]
theorem cm_in (hK : p.K = X.K := by rfl) : CmpR X p .In cIn gIn := ⟨_, op_in_seq.or op_in_str, fun G H x y d1 d2 d Q hs r1 r2 hc hg k1 k2 => by
  have seq : ∀ (ds : List D) (a : Addr) (xs : List V), y = .ref a → (SqL p.K H a xs ∨ SqT p.K H a xs) → p.RpA G xs ds → (flatD d1 = true ∧ ds.all flatD = true) → d = .bl (inD d1 ds) → rIn X.K false x y H Q := fun ds a xs e h k ⟨f1, f2⟩ ed => by
    obtain ⟨q1, q2⟩ := flats_of r1 f1 k f2
    exact ⟨a, xs, e, hK ▸ h, flat_of r1 f1, q1, by rw [q2]; subst ed; exact k1 _ (.bl _)⟩
  cases d2 with
  | tup ds =>
    obtain ⟨a, xs, e, _, h, k⟩ := rb_tup hs r2
    exact .inl (seq ds a xs e (.inr h) k hc (by cases hg; rfl))
  | lst ds =>
    obtain ⟨a, xs, e, h, k⟩ := r2
    exact .inl (seq ds a xs e (.inl h.seq) k hc (by cases hg; rfl))
  | str b =>
    cases d1 <;> simp only [gIn] at hg <;> cases hg
    cases rb_str r1
    cases rb_str r2
    exact .inr ⟨_, _, rfl, rfl, k1 _ (.bl _)⟩
  | _ => cases d1 <;> simp only [gIn] at hg <;> cases hg⟩
theorem cm_nin (hK : p.K = X.K := by rfl) : CmpR X p .NotIn cIn gNin := ⟨_, op_notIn_seq.or op_notin_str, fun G H x y d1 d2 d Q hs r1 r2 hc hg k1 k2 => by
  have seq : ∀ (ds : List D) (a : Addr) (xs : List V), y = .ref a → (SqL p.K H a xs ∨ SqT p.K H a xs) → p.RpA G xs ds → (flatD d1 = true ∧ ds.all flatD = true) → d = .bl (!inD d1 ds) → rIn X.K true x y H Q := fun ds a xs e h k ⟨f1, f2⟩ ed => by
    obtain ⟨q1, q2⟩ := flats_of r1 f1 k f2
    exact ⟨a, xs, e, hK ▸ h, flat_of r1 f1, q1, by rw [q2]; subst ed; exact k1 _ (.bl _)⟩
  cases d2 with
  | tup ds =>
    obtain ⟨a, xs, e, _, h, k⟩ := rb_tup hs r2
    exact .inl (seq ds a xs e (.inr h) k hc (by cases hg; rfl))
  | lst ds =>
    obtain ⟨a, xs, e, h, k⟩ := r2
    exact .inl (seq ds a xs e (.inl h.seq) k hc (by cases hg; rfl))
  | str b =>
    cases d1 <;> simp only [gNin] at hg <;> cases hg
    cases rb_str r1
    cases rb_str r2
    exact .inr ⟨_, _, rfl, rfl, k1 _ (.bl _)⟩
  | _ => cases d1 <;> simp only [gNin] at hg <;> cases hg⟩
section
variable {op op2 : CmpOp} {c c2 : D → D → Prop} {g g2 : D → D → Option D} {i : Nat}
theorem pd_cmp (R : CmpR X p op c g) (ha : PE X a (lift p wa)) (hb : PE X b (lift p wb)) (hm : behindInMarks op b = false := by first | exact nomark _ | with_unfolding_all rfl) : PE X (.Compare a [op] [b] pos) (lift p (wBin c g wa wb)) := by
  obtain ⟨r, h1, h2⟩ := R.ex
  exact PE.imp (pe_cmpR h1 ha hb hm) (op_lift h2)
theorem pd_cmpV (R : CmpR X p op c g) (ha : PE X a (tVar i)) (hb : PE X b (lift p wb)) (hm : behindInMarks op b = false := by first | exact nomark _ | with_unfolding_all rfl) : PE X (.Compare a [op] [b] pos) (lift p (wBinV c g i wb)) := by
  obtain ⟨r, h1, h2⟩ := R.ex
  exact PE.imp (pe_cmpR h1 ha hb hm) (opV_lift h2)
end

/-! ### tests -/
def wT (w : W) : WT := ⟨fun s P => w.f s fun d s1 => get (match d with | .bl b => some b | _ => none) fun b => P b s1, fun s P P' h q => w.mono _ _ _ (fun d s1 q => get_mono (fun b => h b s1) q) q⟩
theorem bl_of {d : D} {P : Bool → Prop} (h : get (match d with | .bl b => some b | _ => none) P) : ∃ b, d = .bl b ∧ P b := by
  obtain ⟨b, e, q⟩ := get_of h
  cases d <;> cases e
  exact ⟨_, rfl, q⟩
theorem test_lift {t : TE} (i : ∀ σ H Q, lift p w σ H Q → t σ H Q) (σ : St) (H : Hp) (Q : Bool → Hp → Prop) (h : liftT p (wT w) σ H Q) : tTest t σ H Q := by
  obtain ⟨G, s, R, k⟩ := h
  refine i σ H _ ⟨G, s, R, w.mono _ _ _ (fun d s1 k1 v H1 G1 e1 R1 r1 => ?_) k⟩
  obtain ⟨b, rfl, k2⟩ := bl_of k1
  cases r1
  exact ⟨b, rfl, k2 H1 G1 e1 R1⟩
section
variable {op op2 : CmpOp} {c c2 : D → D → Prop} {g g2 : D → D → Option D} {i : Nat}
theorem td_cmp (R : CmpR X p op c g) (ha : PE X a (lift p wa)) (hb : PE X b (lift p wb)) (hm : behindInMarks op b = false := by first | exact nomark _ | with_unfolding_all rfl) : PT X (.Compare a [op] [b] pos) (liftT p (wT (wBin c g wa wb))) := by
  obtain ⟨r, h1, h2⟩ := R.ex
  exact PT.imp (pt_cmpR h1 ha hb hm) (test_lift (op_lift h2))
theorem td_cmpV (R : CmpR X p op c g) (ha : PE X a (tVar i)) (hb : PE X b (lift p wb)) (hm : behindInMarks op b = false := by first | exact nomark _ | with_unfolding_all rfl) : PT X (.Compare a [op] [b] pos) (liftT p (wT (wBinV c g i wb))) := by
  obtain ⟨r, h1, h2⟩ := R.ex
  exact PT.imp (pt_cmpR h1 ha hb hm) (test_lift (opV_lift h2))
/-- a <= b <= c -/
def wChain (c c' : D → D → Prop) (g g' : D → D → Option D) (wa wb wc : W) : W := ⟨fun s P => wa.f s fun d1 s1 => wb.f s1 fun d2 s2 => c d1 d2 ∧ get (g d1 d2) fun z => get (match z with | .bl b => some b | _ => none) fun k =>
    if k = true then wc.f s2 fun d3 s3 => c' d2 d3 ∧ get (g' d2 d3) fun d => P d s3 else P (.bl false) s2,
  fun s P P' h q => wa.mono _ _ _ (fun d1 s1 q => wb.mono _ _ _ (fun d2 s2 q => ⟨q.1, get_mono (fun z q => get_mono (fun k q => by
    cases k with
    | true => exact wc.mono _ _ _ (fun d3 s3 q => ⟨q.1, get_mono (fun d => h d s3) q.2⟩) q
    | false => exact h _ _ q) q) q.2⟩) q) q⟩
theorem chain_lift {wc : W} {r r' : R2} (h1 : OpD p r c g) (h2 : OpD p r' c2 g2) (σ : St) (H : Hp) (Q : VK) (h : lift p (wChain c c2 g g2 wa wb wc) σ H Q) : tChain r r' (lift p wa) (lift p wb) (lift p wc) σ H Q := by
  obtain ⟨G, s, R, k⟩ := h
  refine ⟨G, s, R, wa.mono _ _ _ (fun d1 s1 k1 x H1 G1 e1 R1 r1 => ⟨G1, s1, R1, wb.mono _ _ _ (fun d2 s2 k2 y H2 G2 e2 R2 r2 => ?_) k1⟩) k⟩
  obtain ⟨kc, kg⟩ := k2
  obtain ⟨z, ez, kz⟩ := get_of kg
  obtain ⟨b, rfl, kb⟩ := bl_of kz
  refine h1 G2 H2 x y d1 d2 _ _ R2.sub (.of R2.sub (r1.mono e2)) (.of R2.sub r2) kc ez (fun v rv => ?_) fun a o ha ra => by cases ra
  cases rv
  refine ⟨b, rfl, ?_⟩
  cases b with
  | false => exact kb _ H2 G2 (e1.trans e2) R2 (.bl _)
  | true =>
    refine ⟨G2, s2, R2, wc.mono _ _ _ (fun d3 s3 k3 u H3 G3 e3 R3 r3 => ?_) kb⟩
    obtain ⟨kc3, kg3⟩ := k3
    obtain ⟨d, ed, kd⟩ := get_of kg3
    exact h2 G3 H3 y u d2 d3 d Q R3.sub (.of R3.sub (r2.mono e3)) (.of R3.sub r3) kc3 ed (fun v rv => kd v H3 G3 ((e1.trans e2).trans e3) R3 rv) fun a o ha ra => by
      obtain ⟨Gn, en, Rn, _, rn⟩ := R3.fresh ha
      exact kd _ _ _ (((e1.trans e2).trans e3).trans en) Rn (rn _ _ ra)
theorem pd_chain {wc : W} {cc : Expr} (R : CmpR X p op c g) (R2 : CmpR X p op2 c2 g2) (ha : PE X a (lift p wa)) (hb : PE X b (lift p wb)) (hc : PE X cc (lift p wc)) (hm : lastMarks [op, op2] [b, cc] = false := by with_unfolding_all rfl) :
    PE X (.Compare a [op, op2] [b, cc] pos) (lift p (wChain c c2 g g2 wa wb wc)) := by
  obtain ⟨r, h1, h2⟩ := R.ex
  obtain ⟨r', h3, h4⟩ := R2.ex
  exact PE.imp (pe_chain h1 h3 ha hb hc hm) (chain_lift h2 h4)
theorem td_chain {wc : W} {cc : Expr} (R : CmpR X p op c g) (R2 : CmpR X p op2 c2 g2) (ha : PE X a (lift p wa)) (hb : PE X b (lift p wb)) (hc : PE X cc (lift p wc)) (hm : lastMarks [op, op2] [b, cc] = false := by with_unfolding_all rfl) :
    PT X (.Compare a [op, op2] [b, cc] pos) (liftT p (wT (wChain c c2 g g2 wa wb wc))) := by
  obtain ⟨r, h1, h2⟩ := R.ex
  obtain ⟨r', h3, h4⟩ := R2.ex
  exact PT.imp (pt_chain h1 h3 ha hb hc hm) (test_lift (chain_lift h2 h4))
end
/-- truth of any data -/
def truD : D → Option Bool
  | .non => some false
  | .bl b => some b
  | .int i => some (i != 0)
  | .str x => some ((x.length : Int) != 0)
  | .lst xs => some (!xs.isEmpty)
  | .tup xs => some (!xs.isEmpty)
  | .dic0 => some false
  | .dct _ _ => none
  | .drw => none
  | .exc _ _ _ => none
def cTru : D → Prop
  | .str x => x.length ≤ sizeLine
  | _ => True
def wTru (w : W) : WT := ⟨fun s P => w.f s fun d s1 => cTru d ∧ get (truD d) fun b => P b s1, fun s P P' h q => w.mono _ _ _ (fun d s1 q => ⟨q.1, get_mono (fun b => h b s1) q.2⟩) q⟩
def wTruV (i : Nat) : WT := ⟨fun s P => get (vget s.env i) fun d => cTru d ∧ get (truD d) fun b => P b s, fun s P P' h q => get_mono (fun d q => ⟨q.1, get_mono (fun b => h b s) q.2⟩) q⟩
theorem RpA.isEmpty {K : PySem.W.Frag} {dr : Option Addr} {G : Hp} {xs : List V} {ds : List D} (h : RpA K dr G xs ds) : xs.isEmpty = ds.isEmpty := by
  cases h <;> rfl
theorem tru_of {G H : Hp} {x : V} {d : D} {b : Bool} (hs : Sub G H) (r : RpB p H G x d) (c : cTru d) (h : truD d = some b) : TruV p.K x H b := by
  cases d <;> simp only [truD] at h <;> cases h
  · cases rb_non r; rfl
  · cases rb_bl r; rfl
  · cases rb_int r; rfl
  · cases rb_str r; exact ⟨c, rfl⟩
  · obtain ⟨a, xs, rfl, h, k⟩ := r
    exact .inl ⟨xs, h.seq, by rw [k.isEmpty]⟩
  · obtain ⟨a, xs, rfl, _, h, k⟩ := rb_tup hs r
    exact .inr (.inl ⟨xs, h, by rw [k.isEmpty]⟩)
  · have r' : p.Rp G x .dic0 := r
    cases r' with
    | dic0 h _ => exact .inr (.inr ⟨_, hs _ _ h, rfl⟩)
theorem td_truV (i : Nat) (ha : PE X a (tVar i)) (hK : p.K = X.K := by rfl) (he : ∀ whole, isTrue a X.env whole = (do let v ← whole; standAt a.pos; holding [v] (truthy v)) := by intro _; rfl) : PT X a (liftT p (wTruV i)) :=
  PT.imp (pt_truth ha he) fun σ H Q ⟨G, s, R, k⟩ => by
    obtain ⟨d, ed, kc, kg⟩ := get_of k
    obtain ⟨b, eb, kb⟩ := get_of kg
    obtain ⟨x, ex, rx⟩ := vget_rb R ed
    exact ⟨x, ex, b, hK ▸ tru_of R.sub rx kc eb, kb H G (Same.refl G) R⟩
/-- an expression that gives a truth -/
theorem td_val (ha : PE X a (lift p w)) (he : ∀ whole, isTrue a X.env whole = (do let v ← whole; standAt a.pos; holding [v] (truthy v)) := by intro _; rfl) : PT X a (liftT p (wT w)) :=
  PT.imp (pt_val ha he) (test_lift fun _ _ _ q => q)
variable {t1 t2 : WT} {rest : List Expr}
def tAndD (t u : WT) : WT := ⟨fun s P => t.f s fun b s1 => if b = true then u.f s1 P else P false s1, fun s P P' h q => t.mono _ _ _ (fun b s1 q => by
  cases b with
  | true => exact u.mono _ _ _ h q
  | false => exact h _ _ q) q⟩
def tOrD (t u : WT) : WT := ⟨fun s P => t.f s fun b s1 => if b = true then P true s1 else u.f s1 P, fun s P P' h q => t.mono _ _ _ (fun b s1 q => by
  cases b with
  | false => exact u.mono _ _ _ h q
  | true => exact h _ _ q) q⟩
def tNotD (t : WT) : WT := ⟨fun s P => t.f s fun b s1 => P (!b) s1, fun s P P' h q => t.mono _ _ _ (fun b s1 q => h _ _ q) q⟩
theorem PW.imp {t t' : TT} (h : PW X e t) (i : ∀ σ H Q, t' σ H Q → t σ H Q) : PW X e t' := ⟨fun wh pins s σ H Q I q => h.run wh pins s σ H Q I (i σ H Q q)⟩
theorem wd_and1 (ha : PT X a (liftT p t1)) : PW X (.BoolOp .And [a] pos) (liftT p t1) := pw_and1 ha
theorem wd_or1 (ha : PT X a (liftT p t1)) : PW X (.BoolOp .Or [a] pos) (liftT p t1) := pw_or1 ha
theorem wd_and (ha : PT X a (liftT p t1)) (hb : PW X (.BoolOp .And (b :: rest) pos) (liftT p t2)) : PW X (.BoolOp .And (a :: b :: rest) pos) (liftT p (tAndD t1 t2)) :=
  PW.imp (pw_and ha hb) fun σ H Q ⟨G, s, R, k⟩ => ⟨G, s, R, t1.mono _ _ _ (fun b s1 k1 H1 G1 e1 R1 => by
    cases b with
    | true => exact ⟨G1, s1, R1, t2.mono _ _ _ (fun b2 s2 k2 H2 G2 e2 R2 => k2 H2 G2 (e1.trans e2) R2) k1⟩
    | false => exact k1 H1 G1 e1 R1) k⟩
theorem wd_or (ha : PT X a (liftT p t1)) (hb : PW X (.BoolOp .Or (b :: rest) pos) (liftT p t2)) : PW X (.BoolOp .Or (a :: b :: rest) pos) (liftT p (tOrD t1 t2)) :=
  PW.imp (pw_or ha hb) fun σ H Q ⟨G, s, R, k⟩ => ⟨G, s, R, t1.mono _ _ _ (fun b s1 k1 H1 G1 e1 R1 => by
    cases b with
    | false => exact ⟨G1, s1, R1, t2.mono _ _ _ (fun b2 s2 k2 H2 G2 e2 R2 => k2 H2 G2 (e1.trans e2) R2) k1⟩
    | true => exact k1 H1 G1 e1 R1) k⟩
theorem td_not (ha : PT X a (liftT p t1)) : PT X (.UnaryOp .Not a pos) (liftT p (tNotD t1)) :=
  PT.imp (pt_not ha) fun σ H Q ⟨G, s, R, k⟩ => ⟨G, s, R, k⟩
/-- and, or, not as values, of truths -/
def wAndV (wa wb : W) : W := ⟨fun s P => wa.f s fun d s1 => get (match d with | .bl b => some b | _ => none) fun b => if b = true then wb.f s1 P else P (.bl false) s1, fun s P P' h q => wa.mono _ _ _ (fun d s1 q => get_mono (fun b q => by
  cases b with
  | true => exact wb.mono _ _ _ h q
  | false => exact h _ _ q) q) q⟩
def wOrV (wa wb : W) : W := ⟨fun s P => wa.f s fun d s1 => get (match d with | .bl b => some b | _ => none) fun b => if b = true then P (.bl true) s1 else wb.f s1 P, fun s P P' h q => wa.mono _ _ _ (fun d s1 q => get_mono (fun b q => by
  cases b with
  | false => exact wb.mono _ _ _ h q
  | true => exact h _ _ q) q) q⟩
def wNotV (wa : W) : W := ⟨fun s P => wa.f s fun d s1 => get (match d with | .bl b => some b | _ => none) fun b => P (.bl (!b)) s1, fun s P P' h q => wa.mono _ _ _ (fun d s1 q => get_mono (fun b q => h _ _ q) q) q⟩
theorem pd_one {op} (h : PE X a (lift p w)) : PE X (.BoolOp op [a] pos) (lift p w) := pe_one h
theorem pd_and (ha : PE X a (lift p wa)) (hb : PE X (.BoolOp .And (b :: rest) pos) (lift p wb)) : PE X (.BoolOp .And (a :: b :: rest) pos) (lift p (wAndV wa wb)) :=
  PE.imp (pe_and ha hb) fun σ H Q ⟨G, s, R, k⟩ => ⟨G, s, R, wa.mono _ _ _ (fun d s1 k1 x H1 G1 e1 R1 r1 => by
    obtain ⟨b, rfl, k2⟩ := bl_of k1
    cases r1
    refine ⟨b, rfl, ?_⟩
    cases b with
    | true => exact ⟨G1, s1, R1, wb.mono _ _ _ (fun d2 s2 k2 v H2 G2 e2 R2 => k2 v H2 G2 (e1.trans e2) R2) k2⟩
    | false => exact k2 _ H1 G1 e1 R1 (.bl _)) k⟩
theorem pd_or (ha : PE X a (lift p wa)) (hb : PE X (.BoolOp .Or (b :: rest) pos) (lift p wb)) : PE X (.BoolOp .Or (a :: b :: rest) pos) (lift p (wOrV wa wb)) :=
  PE.imp (pe_or ha hb) fun σ H Q ⟨G, s, R, k⟩ => ⟨G, s, R, wa.mono _ _ _ (fun d s1 k1 x H1 G1 e1 R1 r1 => by
    obtain ⟨b, rfl, k2⟩ := bl_of k1
    cases r1
    refine ⟨b, rfl, ?_⟩
    cases b with
    | false => exact ⟨G1, s1, R1, wb.mono _ _ _ (fun d2 s2 k2 v H2 G2 e2 R2 => k2 v H2 G2 (e1.trans e2) R2) k2⟩
    | true => exact k2 _ H1 G1 e1 R1 (.bl _)) k⟩
theorem pd_not (ha : PE X a (lift p wa)) : PE X (.UnaryOp .Not a pos) (lift p (wNotV wa)) :=
  PE.imp (pe_not ha) fun σ H Q ⟨G, s, R, k⟩ => ⟨G, s, R, wa.mono _ _ _ (fun d s1 k1 x H1 G1 e1 R1 r1 => by
    obtain ⟨b, rfl, k2⟩ := bl_of k1
    cases r1
    exact ⟨b, rfl, k2 _ H1 G1 e1 R1 (.bl _)⟩) k⟩
def wIf (t : WT) (wa wb : W) : W := ⟨fun s P => t.f s fun b s1 => if b = true then wa.f s1 P else wb.f s1 P, fun s P P' h q => t.mono _ _ _ (fun b s1 q => by
  cases b with
  | true => exact wa.mono _ _ _ h q
  | false => exact wb.mono _ _ _ h q) q⟩
theorem pd_ifExp {c : Expr} (hc : PT X c (liftT p t1)) (ha : PE X a (lift p wa)) (hb : PE X b (lift p wb)) : PE X (.IfExp c a b pos) (lift p (wIf t1 wa wb)) :=
  PE.imp (pe_ifExp hc ha hb) fun σ H Q ⟨G, s, R, k⟩ => ⟨G, s, R, t1.mono _ _ _ (fun b s1 k1 H1 G1 e1 R1 => by
    cases b with
    | true => exact ⟨G1, s1, R1, wa.mono _ _ _ (fun d2 s2 k2 v H2 G2 e2 R2 => k2 v H2 G2 (e1.trans e2) R2) k1⟩
    | false => exact ⟨G1, s1, R1, wb.mono _ _ _ (fun d2 s2 k2 v H2 G2 e2 R2 => k2 v H2 G2 (e1.trans e2) R2) k1⟩) k⟩
end
end DI
/-! Subscripts, displays, arguments, calls. -/
namespace DI
open PySem L2
variable [Nm]
section
variable {X : Cx} {p : Pl} {e a b : Expr} {es : List Expr} {pos : Pos} {w wa wb : W}

/-! ### subscripts -/
def gIx : D → D → Option D
  | .lst ds, .int i => atI ds i
  | .tup ds, .int i => atI ds i
  | .str z, .int i => (atI z.cps.toList i).map fun c => .str ⟨#[c]⟩
  | _, _ => none
def cIx : D → D → Prop
  | .str z, _ => z.length ≤ sizeLine
  | _, _ => True
theorem RpA.atI {K : PySem.W.Frag} {dr : Option Addr} {G : Hp} {xs : List V} {ds : List D} {i : Int} {d : D} (h : RpA K dr G xs ds) (e : L2.atI ds i = some d) : ∃ v, L2.atI xs i = some v ∧ Rp K dr G v d := by
  unfold L2.atI at e ⊢
  rw [h.length]
  cases q : ixN ds.length i with
  | none => rw [q] at e; cases e
  | some j =>
    rw [q] at e
    exact h.get (i := j) (d := d) e
theorem od_ix (hK : p.K = X.K) : OpD p (rIx X.K) cIx gIx := by
  intro G H x y d1 d2 d Q hs r1 r2 hc hg k1 k2
  cases d1 <;> cases d2 <;> simp only [gIx] at hg <;> try cases hg
  · cases rb_str r1
    cases rb_int r2
    rename_i z i
    cases q : atI z.cps.toList i with
    | none => rw [q] at hg; cases hg
    | some c =>
      rw [q] at hg
      cases hg
      exact .inr (.inr ⟨_, _, c, rfl, rfl, hc, q, k1 _ (.str _)⟩)
  · obtain ⟨a, xs, rfl, h, k⟩ := r1
    cases rb_int r2
    obtain ⟨v, ev, rv⟩ := k.atI hg
    exact .inl ⟨a, xs, _, v, rfl, rfl, (hK ▸ h.seq), ev, k1 _ rv⟩
  · obtain ⟨a, xs, rfl, _, h, k⟩ := rb_tup hs r1
    cases rb_int r2
    obtain ⟨v, ev, rv⟩ := k.atI hg
    exact .inr (.inl ⟨a, xs, _, v, rfl, rfl, hK ▸ h, ev, k1 _ rv⟩)
theorem pd_ix (ha : PE X a (lift p wa)) (hb : PE X b (lift p wb)) (hK : p.K = X.K := by rfl) (hs : PlainIx b := by exact fun _ _ => rfl) : PE X (.Subscript a b pos) (lift p (wBin cIx gIx wa wb)) := PE.imp (pe_ix ix_seq ha hb hs) (op_lift (od_ix hK))
theorem pd_ixV (i : Nat) (ha : PE X a (tVar i)) (hb : PE X b (lift p wb)) (hK : p.K = X.K := by rfl) (hs : PlainIx b := by exact fun _ _ => rfl) : PE X (.Subscript a b pos) (lift p (wBinV cIx gIx i wb)) := PE.imp (pe_ix ix_seq ha hb hs) (opV_lift (od_ix hK))

/-! ### slices -/
structure WO where
  f : S → (Option Int → S → Prop) → Prop
  mono : ∀ s P P', (∀ d s', P d s' → P' d s') → f s P → f s P'
def liftO (p : Pl) (w : WO) : TO := fun σ H Q => ∃ G s, p.Rs σ H G s ∧ w.f s fun o s' => ∀ H' G', Same G G' → p.Rs σ H' G' s' → Q o H'
def wNoPart : WO := ⟨fun s P => P none s, fun _ _ _ h q => h _ _ q⟩
def wPart (w : W) : WO := ⟨fun s P => w.f s fun d s1 => get (match d with | .int i => some i | _ => none) fun i => P (some i) s1, fun s P P' h q => w.mono _ _ _ (fun d s1 q => get_mono (fun i q => h _ _ q) q) q⟩
theorem od_none : PO X none (liftO p wNoPart) := ⟨fun pins s σ H Q I ⟨G, st, R, k⟩ => po_none.run pins s σ H Q I (k H G (Same.refl G) R)⟩
theorem od_some (h : PE X e (lift p w)) : PO X (some e) (liftO p (wPart w)) := ⟨fun pins s σ H Q I ⟨G, st, R, k⟩ => (po_some h).run pins s σ H Q I ⟨G, st, R, w.mono _ _ _ (fun d s1 k1 v H1 G1 e1 R1 r1 => by
  obtain ⟨i, ei, k2⟩ := get_of k1
  cases d <;> cases ei
  cases r1
  exact ⟨i, rfl, k2 H1 G1 e1 R1⟩) k⟩⟩
def cutL {α : Type} (xs : List α) (lo hi : Option Int) : List α := (xs.drop (HT.sIx xs.length 0 lo)).take (HT.sIx xs.length xs.length hi - HT.sIx xs.length 0 lo)
def gSl : D → Option Int → Option Int → Option D
  | .lst ds, lo, hi => some (.lst (cutL ds lo hi))
  | .tup ds, lo, hi => some (.tup (cutL ds lo hi))
  | .str z, lo, hi => some (.str (cutS z lo hi))
  | _, _, _ => none
def cSl : D → Prop
  | .str z => z.length ≤ sizeLine
  | _ => True
def wSl (wa : W) (lo hi : WO) : W := ⟨fun s P => wa.f s fun d s1 => lo.f s1 fun l s2 => hi.f s2 fun h s3 => cSl d ∧ get (gSl d l h) fun z => P z s3,
  fun s P P' h q => wa.mono _ _ _ (fun d s1 q => lo.mono _ _ _ (fun l s2 q => hi.mono _ _ _ (fun u s3 q => ⟨q.1, get_mono (fun z => h z s3) q.2⟩) q) q) q⟩
def wSlV (i : Nat) (lo hi : WO) : W := ⟨fun s P => get (vget s.env i) fun _ => lo.f s fun l s2 => hi.f s2 fun h s3 => get (vget s3.env i) fun d => cSl d ∧ get (gSl d l h) fun z => P z s3,
  fun s P P' h q => get_mono (fun _ q => lo.mono _ _ _ (fun l s2 q => hi.mono _ _ _ (fun u s3 q => get_mono (fun d q => ⟨q.1, get_mono (fun z => h z s3) q.2⟩) q) q) q) q⟩
theorem RpA.cut {K : PySem.W.Frag} {dr : Option Addr} {G : Hp} {xs : List V} {ds : List D} (h : RpA K dr G xs ds) (lo hi : Option Int) : RpA K dr G (cutV xs lo hi) (cutL ds lo hi) := by
  unfold cutV cutL
  rw [h.length]
  exact (h.drop _).take _
def rSlX (K : PySem.W.Frag) : V → Option Int → Option Int → Hp → VK → Prop := fun x lo hi H Q => rSlL K x lo hi H Q ∨ (rSlA K x lo hi H Q ∨ rSlS x lo hi H Q)
theorem sl_X : L2.SlR X (rSlX X.K) := sl_list.or (sl_tupA.or sl_str)
theorem slx_of {G H : Hp} {x : V} {d z : D} {l h : Option Int} {Q : VK} (hK : p.K = X.K) (hs : Sub G H) (r : RpB p H G x d) (hc : cSl d) (hg : gSl d l h = some z) (k1 : ∀ v, p.Rp G v z → Q v H)
    (k2 : ∀ a o, H a = none → p.Rp (upd G a o) (.ref a) z → Q (.ref a) (upd H a o)) : rSlX X.K x l h H Q := by
  cases d <;> simp only [gSl] at hg <;> cases hg
  · cases rb_str r
    exact .inr (.inr ⟨_, rfl, hc, k1 _ (.str _)⟩)
  · obtain ⟨a, xs, rfl, h1, k⟩ := r
    exact .inl ⟨a, xs, rfl, (hK ▸ h1.seq), fun q hq => k2 q _ hq (.lst upd_same ((k.cut l h).mono (Same.upd (hs.none hq))))⟩
  · obtain ⟨a, xs, rfl, h0, h1, k⟩ := rb_tup hs r
    refine .inr (.inl ⟨a, xs, rfl, hK ▸ h1, fun ⟨q1, q2⟩ => ?_, fun _ q hq => k2 q _ hq (.tup (.inl (.inl upd_same)) ((k.cut l h).mono (Same.upd (hs.none hq))))⟩)
    have e : cutL ‹List D› l h = ‹List D› := by
      unfold cutL
      rw [k.length] at q1 q2
      rw [q1, q2]
      simp
    rw [e] at k1
    exact k1 _ (.tup h0 k)
theorem pd_sl {p2 : Pos} {lo hi : Option Expr} {wl wh : WO} (ha : PE X a (lift p wa)) (hl : PO X lo (liftO p wl)) (hh : PO X hi (liftO p wh)) (hK : p.K = X.K := by rfl) : PE X (.Subscript a (.Slice lo hi none p2) pos) (lift p (wSl wa wl wh)) :=
  PE.imp (pe_slice sl_X ha hl hh) fun σ H Q ⟨G, s, R, k⟩ => ⟨G, s, R, wa.mono _ _ _ (fun d s1 k1 x H1 G1 e1 R1 r1 => ⟨G1, s1, R1, wl.mono _ _ _ (fun l s2 k2 H2 G2 e2 R2 => ⟨G2, s2, R2, wh.mono _ _ _ (fun u s3 k3 H3 G3 e3 R3 => by
    obtain ⟨kc, kg⟩ := k3
    obtain ⟨z, ez, kz⟩ := get_of kg
    have e13 := (e1.trans e2).trans e3
    exact slx_of hK R3.sub (.of R3.sub (r1.mono (e2.trans e3))) kc ez (fun v rv => kz v H3 G3 e13 R3 rv) fun q o hq rq => by
      obtain ⟨Gn, en, Rn, _, rn⟩ := R3.fresh hq
      exact kz _ _ _ (e13.trans en) Rn (rn _ _ rq)) k2⟩) k1⟩) k⟩
/-- xs[::-1] of a list -/
def gRev : D → Option D
  | .lst ds => some (.lst ds.reverse)
  | _ => none
def wRev (wa : W) : W := ⟨fun s P => wa.f s fun d s1 => get (gRev d) fun z => P z s1, fun s P P' h q => wa.mono _ _ _ (fun d s1 q => get_mono (fun z => h z s1) q) q⟩
def wRevV (i : Nat) : W := ⟨fun s P => get (vget s.env i) fun d => get (gRev d) fun z => P z s, fun s P P' h q => get_mono (fun d q => get_mono (fun z => h z s) q) q⟩
theorem pd_rev {k : Nat} {p1 p2 p3 : Pos} (ha : PE X a (lift p wa)) : PE X (.Subscript a (.Slice none none (some (.UnaryOp .USub (.Constant (.int 1) k p1) p2)) p3) pos) (lift p (wRev wa)) :=
  PE.imp (pe_revL ha) fun σ H Q ⟨G, s, R, k⟩ => ⟨G, s, R, wa.mono _ _ _ (fun d s1 k1 x H1 G1 e1 R1 r1 => by
    obtain ⟨z, ez, kz⟩ := get_of k1
    cases d <;> cases ez
    cases r1 with
    | lst h k => exact ⟨_, _, rfl, SqL.of (R1.sub _ _ h), fun q hq => kz _ _ _ (e1.trans (Same.upd (R1.sub.none hq))) (R1.alloc hq) (.lst upd_same (k.reverse.mono (Same.upd (R1.sub.none hq))))⟩) k⟩
theorem pd_revV {k : Nat} {p1 p2 p3 : Pos} (i : Nat) (ha : PE X a (tVar i)) (hK : p.K = X.K := by rfl) : PE X (.Subscript a (.Slice none none (some (.UnaryOp .USub (.Constant (.int 1) k p1) p2)) p3) pos) (lift p (wRevV i)) :=
  PE.imp (pe_revL ha) fun σ H Q ⟨G, s, R, k⟩ => by
    obtain ⟨d, ed, k⟩ := get_of k
    obtain ⟨z, ez, kz⟩ := get_of k
    obtain ⟨x, hx, rx⟩ := vget_rb R ed
    cases d <;> cases ez
    obtain ⟨q, xs, rfl, h, k⟩ := rx
    exact ⟨_, hx, q, xs, rfl, (hK ▸ h.seq), fun q hq => kz _ _ _ (Same.upd (R.sub.none hq)) (R.alloc hq) (.lst upd_same (k.reverse.mono (Same.upd (R.sub.none hq))))⟩

/-! ### arguments -/
/-- values by their modes: borrowed, or plain data -/
inductive RpM (p : Pl) (H G : Hp) : List Bool → List V → List D → Prop
  | nil : RpM p H G [] [] []
  | val {v : V} {d : D} {ms : List Bool} {vs : List V} {ds : List D} : p.Rp G v d → RpM p H G ms vs ds → RpM p H G (false :: ms) (v :: vs) (d :: ds)
  | bor {v : V} {d : D} {ms : List Bool} {vs : List V} {ds : List D} : RpB p H G v d → RpM p H G ms vs ds → RpM p H G (true :: ms) (v :: vs) (d :: ds)
def liftM (p : Pl) (ms : List Bool) (w : WA) : TA := fun σ H Q => ∃ G s, p.Rs σ H G s ∧ w.f s fun ds s' => ∀ vs H' G', Same G G' → p.Rs σ H' G' s' → RpM p H' G' ms vs ds → Q vs H'
def waNil : WA := ⟨fun s P => P [] s, fun _ _ _ h q => h _ _ q⟩
def waCons (w : W) (t : WA) : WA := ⟨fun s P => w.f s fun d s1 => t.f s1 fun ds s2 => P (d :: ds) s2, fun s P P' h q => w.mono _ _ _ (fun d s1 q => t.mono _ _ _ (fun ds s2 q => h _ _ q) q) q⟩
def waBor (i : Nat) (t : WA) : WA := ⟨fun s P => get (vget s.env i) fun _ => t.f s fun ds s2 => get (vget s2.env i) fun d => P (d :: ds) s2, fun s P P' h q => get_mono (fun _ q => t.mono _ _ _ (fun ds s2 q => get_mono (fun d q => h _ _ q) q) q) q⟩
variable {ms : List Bool} {t : WA}
theorem ad_nil : PA X [] (liftM p [] waNil) := PA.imp pa_nil fun σ H Q ⟨G, s, R, k⟩ => k [] H G (Same.refl G) R .nil
theorem ad_cons (h : PE X e (lift p w)) (ht : PA X es (liftM p ms t)) (hs : starEach (e :: es) X.env = (false, eval e X.env) :: starEach es X.env := by rfl) : PA X (e :: es) (liftM p (false :: ms) (waCons w t)) :=
  PA.imp (pa_cons h ht hs) fun σ H Q ⟨G, s, R, k⟩ => ⟨G, s, R, w.mono _ _ _ (fun d s1 k1 v H1 G1 e1 R1 r1 => ⟨G1, s1, R1, t.mono _ _ _ (fun ds s2 k2 vs H2 G2 e2 R2 r2 => k2 _ H2 G2 (e1.trans e2) R2 (.val (r1.mono e2) r2)) k1⟩) k⟩
theorem ad_bor (i : Nat) (h : PE X e (tVar i)) (ht : PA X es (liftM p ms t)) (hs : starEach (e :: es) X.env = (false, eval e X.env) :: starEach es X.env := by rfl) : PA X (e :: es) (liftM p (true :: ms) (waBor i t)) :=
  PA.imp (pa_cons h ht hs) fun σ H Q ⟨G, s, R, k⟩ => by
    obtain ⟨d0, e0, k⟩ := get_of k
    obtain ⟨x, hx, _⟩ := vget_rb R e0
    refine ⟨x, hx, G, s, R, t.mono _ _ _ (fun ds s2 k2 vs H2 G2 e2 R2 r2 => ?_) k⟩
    obtain ⟨d, ed, kd⟩ := get_of k2
    obtain ⟨x', ex, rx⟩ := vget_rb R2 ed
    rw [hx] at ex
    cases ex
    exact kd _ H2 G2 e2 R2 (.bor rx r2)
/-- all plain -/
theorem RpM.all {H G : Hp} : ∀ {ms : List Bool} {vs : List V} {ds : List D}, RpM p H G ms vs ds → (∀ m ∈ ms, m = false) → p.RpA G vs ds
  | _, _, _, .nil, _ => .nil
  | _, _, _, .val r t, h => .cons r (RpM.all t fun m hm => h m (List.mem_cons_of_mem _ hm))
  | _, _, _, .bor r t, h => nomatch h true List.mem_cons_self
theorem RpM.length {H G : Hp} : ∀ {ms : List Bool} {vs : List V} {ds : List D}, RpM p H G ms vs ds → vs.length = ms.length ∧ ds.length = ms.length
  | _, _, _, .nil => ⟨rfl, rfl⟩
  | _, _, _, .val r t => ⟨by rw [List.length_cons, List.length_cons, (RpM.length t).1], by rw [List.length_cons, List.length_cons, (RpM.length t).2]⟩
  | _, _, _, .bor r t => ⟨by rw [List.length_cons, List.length_cons, (RpM.length t).1], by rw [List.length_cons, List.length_cons, (RpM.length t).2]⟩
/-! ### displays -/
def wTup (t : WA) : W := ⟨fun s P => t.f s fun ds s1 => ds.length ≤ sizeLine ∧ P (.tup ds) s1, fun s P P' h q => t.mono _ _ _ (fun ds s1 q => ⟨q.1, h _ _ q.2⟩) q⟩
def wLst (t : WA) : W := ⟨fun s P => t.f s fun ds s1 => ds.length ≤ sizeLine ∧ P (.lst ds) s1, fun s P P' h q => t.mono _ _ _ (fun ds s1 q => ⟨q.1, h _ _ q.2⟩) q⟩
theorem pd_tup {x1} (h : PA X es (liftM p ms t)) (hm : ∀ m ∈ ms, m = false := by decide) : PE X (.Tuple es x1 pos) (lift p (wTup t)) :=
  PE.imp (pe_tup h) fun σ H Q ⟨G, s, R, k⟩ => ⟨G, s, R, t.mono _ _ _ (fun ds s1 k1 vs H1 G1 e1 R1 r1 => by
    have ra := r1.all hm
    exact ⟨by rw [ra.length]; exact k1.1, fun q hq => k1.2 _ _ _ (e1.trans (Same.upd (R1.sub.none hq))) (R1.alloc hq) (.tup (.inl (.inl upd_same)) (ra.mono (Same.upd (R1.sub.none hq))))⟩) k⟩
theorem pd_lst (h : PA X es (liftM p ms t)) (hm : ∀ m ∈ ms, m = false := by decide) : PE X (.List es pos) (lift p (wLst t)) :=
  PE.imp (pe_lst h) fun σ H Q ⟨G, s, R, k⟩ => ⟨G, s, R, t.mono _ _ _ (fun ds s1 k1 vs H1 G1 e1 R1 r1 => by
    have ra := r1.all hm
    exact ⟨by rw [ra.length]; exact k1.1, fun q hq => k1.2 _ _ _ (e1.trans (Same.upd (R1.sub.none hq))) (R1.alloc hq) (.lst upd_same (ra.mono (Same.upd (R1.sub.none hq))))⟩) k⟩

/-! ### calls of built-ins -/
def CallD (p : Pl) (r : List V → Hp → VK → Prop) (ms : List Bool) (c : List D → Prop) (g : List D → Option D) : Prop :=
  ∀ (G H : Hp) (vs : List V) (ds : List D) (d : D) (Q : VK), Sub G H → RpM p H G ms vs ds → c ds → g ds = some d → (∀ v, p.Rp G v d → Q v H) → (∀ a o, H a = none → p.Rp (upd G a o) (.ref a) d → Q (.ref a) (upd H a o)) → r vs H Q
def wFn (c : List D → Prop) (g : List D → Option D) (t : WA) : W := ⟨fun s P => t.f s fun ds s1 => c ds ∧ get (g ds) fun d => P d s1, fun s P P' h q => t.mono _ _ _ (fun ds s1 q => ⟨q.1, get_mono (fun d => h d s1) q.2⟩) q⟩
theorem fn_lift {r : List V → Hp → VK → Prop} {c : List D → Prop} {g : List D → Option D} (hd : CallD p r ms c g) (σ : St) (H : Hp) (Q : VK) (h : lift p (wFn c g t) σ H Q) : tCB r (liftM p ms t) σ H Q := by
  obtain ⟨G, s, R, k⟩ := h
  refine ⟨G, s, R, t.mono _ _ _ (fun ds s1 k1 vs H1 G1 e1 R1 r1 => ?_) k⟩
  obtain ⟨kc, kg⟩ := k1
  obtain ⟨d, ed, kd⟩ := get_of kg
  exact hd G1 H1 vs ds d Q R1.sub r1 kc ed (fun v rv => kd v H1 G1 e1 R1 rv) fun q o hq rq => by
      obtain ⟨Gn, en, Rn, _, rn⟩ := R1.fresh hq
      exact kd _ _ _ (e1.trans en) Rn (rn _ _ rq)
/-- a built-in: its name, its value, its rule by data -/
structure BtR (X : Cx) (p : Pl) (x : Str) (ms : List Bool) (c : List D → Prop) (g : List D → Option D) : Prop where
  ex : (∃ (id : String) (r : List V → Hp → VK → Prop), bootBuiltins x = some (.builtin id) ∧ CallR X (.builtin id) r ∧ CallD p r ms c g) ∨ (∃ (T : String) (r : List V → Hp → VK → Prop), bootBuiltins x = some (.type T) ∧ CallR X (.type T) r ∧ CallD p r ms c g)
theorem pd_bt {x : Str} {pf : Pos} {c : List D → Prop} {g : List D → Option D} (B : BtR X p x ms c g) (hm : X.mg x = none) (ha : PA X (e :: es) (liftM p ms t)) (hg : Gl X x := by rfl) (hn : x ≠ "__name__" := by decide) (hdb : (x == ("__debug__" : Str)) = false := by decide)
    (hs : starEach (e :: es) X.env = (false, eval e X.env) :: starEach es X.env := by rfl) (hpl : (backTo pos (starEach es X.env)).any (·.1) = false := by rfl) : PE X (.Call (.Name x pf) (e :: es) [] pos) (lift p (wFn c g t)) := by
  rcases B.ex with ⟨id, r, hv, h1, h2⟩ | ⟨T, r, hv, h1, h2⟩
  · exact PE.imp (pe_callB h1 hg hm hv ha hn hdb hs hpl) (fn_lift h2)
  · exact PE.imp (pe_callTy h1 hg hm hv ha hn hdb hs hpl) (fn_lift h2)
def c0 : List D → Prop := fun _ => True
theorem rm1 {H G : Hp} {m : Bool} {vs : List V} {ds : List D} (hs : Sub G H) (h : RpM p H G [m] vs ds) : ∃ v d, vs = [v] ∧ ds = [d] ∧ RpB p H G v d := by
  cases h with
  | val r t => cases t; exact ⟨_, _, rfl, rfl, .of hs r⟩
  | bor r t => cases t; exact ⟨_, _, rfl, rfl, r⟩
/-- len -/
def gLen : List D → Option D
  | [.lst ds] => some (.int ds.length)
  | [.tup ds] => some (.int ds.length)
  | [.str z] => some (.int z.length)
  | [.dic0] => some (.int 0)
  | _ => none
def cLen : List D → Prop
  | [.str z] => z.length ≤ sizeLine
  | [.dic0] => False
  | _ => True
theorem bt_len {m : Bool} (hK : p.K = X.K := by rfl) : BtR X p "len" [m] cLen gLen := ⟨.inl ⟨_, _, PySem.boot_len, call_len_seq.or call_len_str, fun G H vs ds d Q hs r hc hg k1 k2 => by
  obtain ⟨v, d0, rfl, rfl, rb⟩ := rm1 hs r
  cases d0 <;> simp only [gLen] at hg <;> cases hg
  · cases rb_str rb
    exact .inr ⟨_, rfl, hc, k1 _ (.int _)⟩
  · obtain ⟨a, xs, rfl, h, k⟩ := rb
    exact .inl ⟨a, xs, rfl, .inl (hK ▸ h.seq), by rw [k.length]; exact k1 _ (.int _)⟩
  · obtain ⟨a, xs, rfl, _, h, k⟩ := rb_tup hs rb
    exact .inl ⟨a, xs, rfl, .inr (hK ▸ h), by rw [k.length]; exact k1 _ (.int _)⟩
  · exact hc.elim⟩⟩
/-- tuple, list of a list or a tuple -/
def gTuple : List D → Option D
  | [.lst ds] => some (.tup ds)
  | [.tup ds] => some (.tup ds)
  | _ => none
def gList : List D → Option D
  | [.lst ds] => some (.lst ds)
  | [.tup ds] => some (.lst ds)
  | _ => none
theorem bt_tuple {m : Bool} (hK : p.K = X.K := by rfl) : BtR X p "tuple" [m] c0 gTuple := ⟨.inr ⟨_, _, by decide +kernel, call_tuple_of, fun G H vs ds d Q hs r hc hg k1 k2 => by
  obtain ⟨v, d0, rfl, rfl, rb⟩ := rm1 hs r
  cases d0 <;> simp only [gTuple] at hg <;> cases hg
  · obtain ⟨a, xs, rfl, h, k⟩ := rb
    exact ⟨a, xs, rfl, .inl ⟨(hK ▸ h.seq), fun q hq => k2 q _ hq (.tup (.inl (.inl upd_same)) (k.mono (Same.upd (hs.none hq))))⟩⟩
  · obtain ⟨a, xs, rfl, h0, h, k⟩ := rb_tup hs rb
    exact ⟨a, xs, rfl, .inr ⟨hK ▸ h, k1 _ (.tup h0 k)⟩⟩⟩⟩
theorem bt_list {m : Bool} (hK : p.K = X.K := by rfl) : BtR X p "list" [m] c0 gList := ⟨.inr ⟨_, _, by decide +kernel, call_list_of, fun G H vs ds d Q hs r hc hg k1 k2 => by
  obtain ⟨v, d0, rfl, rfl, rb⟩ := rm1 hs r
  cases d0 <;> simp only [gList] at hg <;> cases hg
  · obtain ⟨a, xs, rfl, h, k⟩ := rb
    exact ⟨a, xs, rfl, .inl (hK ▸ h.seq), fun q hq => k2 q _ hq (.lst upd_same (k.mono (Same.upd (hs.none hq))))⟩
  · obtain ⟨a, xs, rfl, h0, h, k⟩ := rb_tup hs rb
    exact ⟨a, xs, rfl, .inr (hK ▸ h), fun q hq => k2 q _ hq (.lst upd_same (k.mono (Same.upd (hs.none hq))))⟩⟩⟩
/-- int of an int, a bool; str of an int; ord; all, any of truths -/
def gInt : List D → Option D
  | [.int i] => some (.int i)
  | [.bl b] => some (.int (if b then 1 else 0))
  | _ => none
theorem bt_int : BtR X p "int" [false] c0 gInt := ⟨.inr ⟨_, _, by decide +kernel, call_int1, fun G H vs ds d Q hs r hc hg k1 k2 => by
  obtain ⟨v, d0, rfl, rfl, rb⟩ := rm1 hs r
  cases d0 <;> simp only [gInt] at hg <;> cases hg
  · cases rb_bl rb
    exact .inr ⟨_, rfl, k1 _ (.int _)⟩
  · cases rb_int rb
    exact .inl ⟨_, rfl, k1 _ (.int _)⟩⟩⟩
def gStr : List D → Option D
  | [.int i] => some (.str (toString i))
  | _ => none
def cStr : List D → Prop
  | [.int i] => i.natAbs.log2 < 1920
  | _ => True
def gOrd : List D → Option D
  | [.str x] => some (.int (x.cps.getD 0 0 : Nat))
  | _ => none
def cOrd : List D → Prop
  | [.str x] => x.length = 1
  | _ => True
theorem bt_ord : BtR X p "ord" [false] cOrd gOrd := ⟨.inl ⟨_, _, by decide +kernel, call_ord, fun G H vs ds d Q hs r hc hg k1 k2 => by
  obtain ⟨v, d0, rfl, rfl, rb⟩ := rm1 hs r
  cases d0 <;> simp only [gOrd] at hg <;> cases hg
  cases rb_str rb
  exact ⟨_, rfl, hc, k1 _ (.int _)⟩⟩⟩
def blsOf : List D → Option (List Bool)
  | [] => some []
  | .bl b :: ds => (blsOf ds).map (b :: ·)
  | _ :: _ => none
theorem bls_of {G : Hp} : ∀ {ds : List D} {bs : List Bool} {xs : List V}, blsOf ds = some bs → p.RpA G xs ds → xs = bs.map V.bl
  | [], bs, xs, e, h => by
    cases e
    cases h
    rfl
  | .bl b :: ds, bs, xs, e, h => by
    simp only [blsOf, Option.map_eq_some_iff] at e
    obtain ⟨cs, e1, rfl⟩ := e
    cases h with
    | cons r t =>
      cases r
      rw [bls_of e1 t]
      rfl
  | .non :: _, _, _, e, _ => by cases e
  | .int _ :: _, _, _, e, _ => by cases e
  | .str _ :: _, _, _, e, _ => by cases e
  | .lst _ :: _, _, _, e, _ => by cases e
  | .tup _ :: _, _, _, e, _ => by cases e
  | .drw :: _, _, _, e, _ => by cases e
  | .dic0 :: _, _, _, e, _ => by cases e
  | .dct _ _ :: _, _, _, e, _ => by cases e
def gAll : List D → Option D
  | [.lst ds] => (blsOf ds).map fun bs => .bl (bs.all (fun b => b))
  | _ => none
def gAny : List D → Option D
  | [.lst ds] => (blsOf ds).map fun bs => .bl (bs.any (fun b => b))
  | _ => none
theorem bt_all {m : Bool} (hc : X.calm = true := by rfl) (hK : p.K = X.K := by rfl) : BtR X p "all" [m] c0 gAll := ⟨.inl ⟨_, _, by decide +kernel, cr_all hc, fun G H vs ds d Q hs r hc hg k1 k2 => by
  obtain ⟨v, d0, rfl, rfl, rb⟩ := rm1 hs r
  cases d0 <;> simp only [gAll] at hg <;> try cases hg
  obtain ⟨a, xs, rfl, h, k⟩ := rb
  obtain ⟨bs, e, rfl⟩ := Option.map_eq_some_iff.mp hg
  exact ⟨a, bs, rfl, (by rw [← bls_of e k]; exact hK ▸ h.seq), k1 _ (.bl _)⟩⟩⟩
/-- isinstance(x, T), T a built-in class -/
def tyD : D → Option String
  | .non => some "NoneType"
  | .bl _ => some "bool"
  | .int _ => some "int"
  | .str _ => some "str"
  | .lst _ => some "list"
  | .tup _ => some "tuple"
  | .dic0 => some "dict"
  | .dct _ _ => none
  | .drw => none
  | .exc _ _ _ => none
def isT (T t : String) : Bool := t == T || (t == "bool" && T == "int")
def gIsi (T : String) : D → Option D := fun d => (tyD d).map fun t => .bl (isT T t)
theorem tyx_of {G H : Hp} {x : V} {d : D} {t : String} (hs : Sub G H) (r : RpB p H G x d) (h : tyD d = some t) : TyX p.K H x (.type t) := by
  cases d <;> simp only [tyD] at h <;> cases h
  · cases rb_non r; exact .base .non
  · cases rb_bl r; exact .base (.bl _)
  · cases rb_int r; exact .base (.int _)
  · cases rb_str r; exact .base (.str _)
  · obtain ⟨a, xs, rfl, h, k⟩ := r
    rcases h with (h | ⟨o, h⟩) | ⟨o, its, n, h, hc, _⟩
    · exact .base (.lst h)
    · exact .base (.frz h)
    · exact .kList h hc
  · obtain ⟨a, xs, rfl, h0, h, k⟩ := rb_tup hs r
    rcases h with (h | ⟨o, h⟩) | ⟨o, its, n, h, hc, _⟩
    · exact .base (.tup h)
    · exact .fTuple h
    · exact .kTuple h hc
  · have r' : p.Rp G x .dic0 := r
    cases r' with
    | dic0 h _ => exact .base (.dK (hs _ _ h))
def wIsi (T : String) (w : W) : W := ⟨fun s P => w.f s fun d s1 => get (gIsi T d) fun z => P z s1, fun s P P' h q => w.mono _ _ _ (fun d s1 q => get_mono (fun z => h z s1) q) q⟩
def KitT (K : PySem.W.Frag) (T : String) : Prop := ∀ d t, tyD d = some t → PySem.W.kitOne K (.type t) (.type T) = some (isT T t)
theorem kit_all (K : PySem.W.Frag) {T : String} (h : ∀ t ∈ ["NoneType", "bool", "int", "str", "list", "tuple", "dict"], PySem.W.kitOne K (.type t) (.type T) = some (isT T t)) : KitT K T := fun d t e => h t (by
  cases d <;> simp only [tyD] at e <;> cases e <;> simp)
theorem pd_isi {T : String} {x : Str} {pf pt : Pos} (ha : PE X e (lift p w)) (hv : bootBuiltins x = some (.type T)) (hk : KitT X.K T) (hmi : X.mg "isinstance" = none) (hmx : X.mg x = none) (hK : p.K = X.K := by rfl) (hgi : Gl X "isinstance" := by rfl) (hg : Gl X x := by rfl)
    (hn : x ≠ "__name__" := by decide) (hdb : (x == ("__debug__" : Str)) = false := by decide) (hs : starEach (e :: [.Name x pt]) X.env = (false, eval e X.env) :: starEach [.Name x pt] X.env := by rfl) (hs2 : starEach [.Name x pt] X.env = (false, eval (.Name x pt) X.env) :: starEach [] X.env := by rfl)
    (hpl : (backTo pos (starEach [.Name x pt] X.env)).any (·.1) = false := by rfl) : PE X (.Call (.Name "isinstance" pf) [e, .Name x pt] [] pos) (lift p (wIsi T w)) := by
  have hx : PE X (.Name x pt) (tC (.ty T)) := pe_bltn hg hmx hv rfl hn hdb
  refine PE.imp (pe_callB call_isi hgi hmi (by decide +kernel) (pa_cons ha (pa_cons hx pa_nil hs2) hs) (by decide) (by decide) hs hpl) fun σ H Q ⟨G, s, R, k⟩ => ⟨G, s, R, w.mono _ _ _ (fun d s1 k1 v H1 G1 e1 R1 r1 => ?_) k⟩
  obtain ⟨z, ez, kz⟩ := get_of k1
  obtain ⟨t, et, rfl⟩ := Option.map_eq_some_iff.mp ez
  exact ⟨v, .ty T, .type t, .type T, isT T t, rfl, .ty T, hK ▸ tyx_of R1.sub (.of R1.sub r1) et, hk d t et, kz _ H1 G1 e1 R1 (.bl _)⟩

/-! ### methods of texts -/
def strD : D → Option Str
  | .str z => some z
  | _ => none
theorem strD_of {d : D} {z : Str} (h : strD d = some z) : d = .str z := by
  cases d <;> cases h
  rfl
def wMt (c : Str → D → Prop) (g : Str → D → Option D) (wa wb : W) : W := ⟨fun s P => wa.f s fun d1 s1 => get (strD d1) fun z => wb.f s1 fun d2 s2 => c z d2 ∧ get (g z d2) fun d => P d s2,
  fun s P P' h q => wa.mono _ _ _ (fun d1 s1 q => get_mono (fun z q => wb.mono _ _ _ (fun d2 s2 q => ⟨q.1, get_mono (fun d => h d s2) q.2⟩) q) q) q⟩
/-- o.m(x), o a text -/
structure MtD (X : Cx) (p : Pl) (name : Str) (c : Str → D → Prop) (g : Str → D → Option D) : Prop where
  ex : ∃ (id : String) (r : V → List V → Hp → VK → Prop), Slot "str" name id ∧ typeOf (.builtin id) = pure (.type "method_descriptor") ∧ MtR X id r ∧
    ∀ (G H : Hp) (z : Str) (y : V) (d2 d : D) (Q : VK), Sub G H → RpB p H G y d2 → c z d2 → g z d2 = some d → (∀ v, p.Rp G v d → Q v H) → (∀ a o, H a = none → p.Rp (upd G a o) (.ref a) d → Q (.ref a) (upd H a o)) → r (.str z) [y] H Q
theorem pd_mt {name : Str} {apos : Pos} {c : Str → D → Prop} {g : Str → D → Option D} (M : MtD X p name c g) (ha : PE X a (lift p wa)) (hb : PE X b (lift p wb)) (hs : starEach [b] X.env = [(false, eval b X.env)] := by rfl)
    (hbase : attributeBase a name X.env (eval a X.env) = eval a X.env := by rfl) (hline : (apos.endLine == pos.line) = true := by rfl) : PE X (.Call (.Attribute a name apos) [b] [] pos) (lift p (wMt c g wa wb)) := by
  obtain ⟨id, r, h1, h2, h3, h4⟩ := M.ex
  refine PE.imp (pe_m1 h1 h2 h3 ha hb hs hbase hline) fun σ H Q ⟨G, s, R, k⟩ => ⟨G, s, R, wa.mono _ _ _ (fun d1 s1 k1 x H1 G1 e1 R1 r1 => ?_) k⟩
  obtain ⟨z, ez, k2⟩ := get_of k1
  cases strD_of ez
  cases r1
  refine ⟨⟨z, rfl⟩, G1, s1, R1, wb.mono _ _ _ (fun d2 s2 k3 y H2 G2 e2 R2 r2 => ?_) k2⟩
  obtain ⟨kc, kg⟩ := k3
  obtain ⟨d, ed, kd⟩ := get_of kg
  exact h4 G2 H2 z y d2 d Q R2.sub (.of R2.sub r2) kc ed (fun v rv => kd v H2 G2 (e1.trans e2) R2 rv) fun q o hq rq => by
      obtain ⟨Gn, en, Rn, _, rn⟩ := R2.fresh hq
      exact kd _ _ _ ((e1.trans e2).trans en) Rn (rn _ _ rq)
def cZ : Str → D → Prop := fun _ _ => True
def gStarts : Str → D → Option D
  | z, .str y => some (.bl (Txt.startswith z y))
  | _, _ => none
theorem mt_st : MtD X p "startswith" cZ gStarts := ⟨_, _, F.slot_str_startswith, F.type_str_startswith, mt_startswith, fun G H z y d2 d Q hs r hc hg k1 k2 => by
  cases d2 <;> cases hg
  cases rb_str r
  exact ⟨_, _, rfl, rfl, k1 _ (.bl _)⟩⟩
def cPart : Str → D → Prop
  | z, .str y => (y.length == 0) = false ∧ z.length ≤ sizeLine
  | _, _ => True
def gPart : Str → D → Option D
  | z, .str y => some (.tup [.str (Txt.partition z y).1, .str (Txt.partition z y).2.1, .str (Txt.partition z y).2.2])
  | _, _ => none
theorem mt_pt : MtD X p "partition" cPart gPart := ⟨_, _, F.slot_str_partition, F.type_str_partition, mt_partition, fun G H z y d2 d Q hs r hc hg k1 k2 => by
  cases d2 <;> cases hg
  cases rb_str r
  exact ⟨_, _, rfl, rfl, hc.1, hc.2, fun q hq => k2 q _ hq (.tup (.inl (.inl upd_same)) (.cons (.str _) (.cons (.str _) (.cons (.str _) .nil))))⟩⟩
/-- sep.join(list or tuple of texts) -/
def strsOf : List D → Option (List Str)
  | [] => some []
  | .str b :: ds => (strsOf ds).map (b :: ·)
  | _ :: _ => none
def rowD : D → Option (List D)
  | .lst ds => some ds
  | .tup ds => some ds
  | _ => none
def cJoin : Str → D → Prop := fun z d => ∀ ys, (rowD d).bind strsOf = some ys → (ys.map (·.length)).sum + ys.length * z.length ≤ 16777216
def gJoin : Str → D → Option D := fun z d => ((rowD d).bind strsOf).map fun ys => .str (Txt.join z ys)
/-! ### calls of own functions -/
structure FT where
  f : List D → Nat → (D → Nat → Prop) → Prop
  mono : ∀ ds n P P', (∀ d m, P d m → P' d m) → f ds n P → f ds n P'
/-- the promise by data -/
def SpD (K : PySem.W.Frag) (dr : Option Addr) (ms : List Bool) (F : FT) : Sp := fun vs H Q _ => ∃ (G : Hp) (ds : List D) (n : Nat), Sub G H ∧ Drw G H dr n ∧ RpM ⟨K, dr, H, G⟩ H G ms vs ds ∧
  F.f ds n fun d m => ∀ v H' G', Same G G' → Bse dr H H' → Sub G' H' → New H G G' → Drw G' H' dr m → Rp K dr G' v d → Q v H'
theorem Rs.call {σ : St} {H G H' G' : Hp} {s : S} {m : Nat} (R : p.Rs σ H G s) (e : Same G G') (b : Bse p.dr H H') (sb : Sub G' H') (nw : New H G G') (d : Drw G' H' p.dr m) : p.Rs σ H' G' { s with n := m } := by
  have there : ∀ {q : Addr} {o : HO}, p.dr ≠ some q → H q = some o → G q = none → G' q = none := fun {q o} hd h g => nw q g (by rw [h]; exact fun z => by cases z)
  refine ⟨sb, R.base.trans b, fun a h1 h2 => ?_, R.len, fun i x hx => ?_, R.inj, R.injD, d⟩
  · by_cases hd : p.dr = some a
    · exact (d a hd).free
    · cases h0 : p.H0 a with
      | none => exact absurd h0 h2
      | some o =>
        obtain ⟨o', h'⟩ := R.base.there hd h0
        exact there hd h' (R.new a h1 h2)
  · have q := R.slot i x hx
    cases x with
    | emp => trivial
    | val y =>
      obtain ⟨u, e1, r⟩ := q
      exact ⟨u, e1, r.mono e⟩
    | own ds =>
      obtain ⟨q1, xs, e1, h1, h2, h3, h4, r⟩ := q
      exact ⟨q1, xs, e1, b.keep _ _ h3 h1 nt_lst, there h3 h1 h2, h3, h4, r.mono e⟩
    | bor ds =>
      obtain ⟨q1, xs, e1, hb, r⟩ := q
      refine ⟨q1, xs, e1, ?_, r.mono e⟩
      rcases hb with ⟨h1, h2⟩ | hb
      · refine .inl ⟨?_, h2⟩
        have nd : p.dr ≠ some q1 := fun z => by
          obtain ⟨_, L, _, _, _, _, h5, _⟩ := R.drw q1 z
          exact rd_not h1 h5 (fun z => nomatch z) (fun _ z => nomatch z) rfl
        exact h1.elim (fun y => .inl (b.keep _ _ nd y nt_lst)) (fun ⟨ob, y⟩ => .inr ⟨ob, b.keep _ _ nd y nt_frzL⟩)
      · exact .inr hb
    | dic ks ds =>
      obtain ⟨q1, xs, e1, h1, h2, h3, h4, h5, r⟩ := q
      exact ⟨q1, xs, e1, b.keep _ _ h3 h1 nt_dK, there h3 h1 h2, h3, h4, h5, r.mono e⟩
    | mem t F Pk m =>
      obtain ⟨q1, o1, e1, h1, h2, h3, h4, h5, h6⟩ := q
      exact ⟨q1, o1, e1, b.keep _ _ h3 h1 h5.nt, there h3 h1 h2, h3, h4, h5, h6⟩
def wCall (F : FT) (t : WA) : W := ⟨fun s P => t.f s fun ds s1 => F.f ds s1.n fun d m => P d { s1 with n := m }, fun s P P' h q => t.mono _ _ _ (fun ds s1 q => F.mono _ _ _ _ (fun d m q => h _ _ q) q) q⟩
theorem RpM.at_ {p p' : Pl} {H G : Hp} (h1 : p'.K = p.K) (h2 : p'.dr = p.dr) : ∀ {ms : List Bool} {vs : List V} {ds : List D}, RpM p H G ms vs ds → RpM p' H G ms vs ds
  | _, _, _, .nil => .nil
  | _, _, _, .val r t => .val (by unfold Pl.Rp; rw [h1, h2]; exact r) (RpM.at_ h1 h2 t)
  | _, _, _, .bor (d := d) r t => .bor (by
    cases d with
    | lst ds =>
      obtain ⟨a, xs, e, h, k⟩ := r
      exact ⟨a, xs, e, by rw [h1]; exact h, by unfold Pl.RpA; rw [h1, h2]; exact k⟩
    | _ => exact (by unfold Pl.Rp; rw [h1, h2]; exact r : p'.Rp G _ _)) (RpM.at_ h1 h2 t)
theorem call_lift {F : FT} (σ : St) (H : Hp) (Q : VK) (h : lift p (wCall F t) σ H Q) : tCall (SpD p.K p.dr ms F) [] E0 (liftM p ms t) σ H Q := by
  obtain ⟨G, s, R, k⟩ := h
  refine ⟨G, s, R, t.mono _ _ _ (fun ds s1 k1 vs H1 G1 e1 R1 r1 => ?_) k⟩
  show SpD p.K p.dr ms F (vs ++ []) H1 Q E0
  rw [List.append_nil]
  exact ⟨G1, ds, s1.n, R1.sub, R1.drw, RpM.at_ (p := p) (p' := ⟨p.K, p.dr, H1, G1⟩) rfl rfl r1, F.mono _ _ _ _ (fun d m q v H' G' e b sb nw dw rv => q v H' G' (e1.trans e) (Rs.call R1 e b sb nw dw) rv) k1⟩
end
end DI
/-! Statements, loops, comprehensions, a def by its body. -/
namespace DI
open PySem L2
variable [Nm]

structure ED where
  nx : S → Prop
  rt : D → S → Prop
  bk : S → Prop := fun _ => False
  ct : S → Prop := fun _ => False
structure ED.Le (E E' : ED) : Prop where
  nx : ∀ s, E.nx s → E'.nx s
  rt : ∀ d s, E.rt d s → E'.rt d s
  bk : ∀ s, E.bk s → E'.bk s
  ct : ∀ s, E.ct s → E'.ct s
structure WS where
  f : ED → S → Prop
  mono : ∀ E E' s, ED.Le E E' → f E s → f E' s
structure Cmp (p : Pl) (G : Hp) (E : ED) (D : Ends) : Prop where
  nx : ∀ σ' H' G' s', Same G G' → p.Rs σ' H' G' s' → E.nx s' → D.nx σ' H'
  rt : ∀ v σ' H' G' d s', Same G G' → p.Rs σ' H' G' s' → p.Rp G' v d → E.rt d s' → D.rt v H'
  bk : ∀ σ' H' G' s', Same G G' → p.Rs σ' H' G' s' → E.bk s' → D.bk σ' H'
  ct : ∀ σ' H' G' s', Same G G' → p.Rs σ' H' G' s' → E.ct s' → D.ct σ' H'
theorem Cmp.mono {p : Pl} {G G1 : Hp} {E : ED} {D : Ends} (e : Same G G1) (c : Cmp p G E D) : Cmp p G1 E D :=
  ⟨fun σ' H' G' s' a => c.nx σ' H' G' s' (e.trans a), fun v σ' H' G' d s' a => c.rt v σ' H' G' d s' (e.trans a), fun σ' H' G' s' a => c.bk σ' H' G' s' (e.trans a), fun σ' H' G' s' a => c.ct σ' H' G' s' (e.trans a)⟩
def liftS (p : Pl) (w : WS) : TS := fun D σ H => ∃ G s E, p.Rs σ H G s ∧ w.f E s ∧ Cmp p G E D

section
variable {X : Cx} {p : Pl} {e a b c : Expr} {es : List Expr} {pos : Pos} {w wa wb : W} {t : WT} {u v : WS} {st : Stmt} {rest sa sb : List Stmt}
/-! ### blocks -/
def wNext : WS := ⟨fun E s => E.nx s, fun _ _ s h => h.nx s⟩
def wSeq (u v : WS) : WS := ⟨fun E s => u.f { E with nx := v.f E } s, fun E E' s h => u.mono _ _ s ⟨fun s' => v.mono _ _ s' h, h.rt, h.bk, h.ct⟩⟩
theorem sd_nil : PSs X [] (liftS p wNext) := PSs.imp pss_nil fun D σ H ⟨G, s, E, R, k, q⟩ => q.nx σ H G s (Same.refl G) R k
theorem sd_cons (h1 : PS X st (liftS p u)) (h2 : PSs X rest (liftS p v)) : PSs X (st :: rest) (liftS p (wSeq u v)) :=
  PSs.imp (pss_cons h1 h2) fun D σ H ⟨G, s, E, R, k, q⟩ => ⟨G, s, _, R, k, fun σ' H' G' s' a R' k' => ⟨G', s', E, R', k', q.mono a⟩, q.rt, q.bk, q.ct⟩
theorem sd_one (h1 : PS X st (liftS p u)) : PSs X [st] (liftS p u) := pss_one h1
def wBreak : WS := ⟨fun E s => E.bk s, fun _ _ s h => h.bk s⟩
def wCont : WS := ⟨fun E s => E.ct s, fun _ _ s h => h.ct s⟩
theorem sd_break : PS X (.Break pos) (liftS p wBreak) := PS.imp ps_break fun D σ H ⟨G, s, E, R, k, q⟩ => q.bk σ H G s (Same.refl G) R k
theorem sd_continue : PS X (.Continue pos) (liftS p wCont) := PS.imp ps_continue fun D σ H ⟨G, s, E, R, k, q⟩ => q.ct σ H G s (Same.refl G) R k
def wDrop (w : W) : WS := ⟨fun E s => w.f s fun _ s1 => E.nx s1, fun E E' s h q => w.mono _ _ _ (fun _ s1 => h.nx s1) q⟩
theorem sd_expr (h : PE X e (lift p w)) (hs : swapsWith e none pos.line X.env = pure false := by rfl) : PS X (.Expr e pos) (liftS p (wDrop w)) :=
  PS.imp (ps_expr h hs) fun D σ H ⟨G, s, E, R, k, q⟩ => ⟨G, s, R, w.mono _ _ _ (fun d s1 k1 x H1 G1 e1 R1 r1 => q.nx σ H1 G1 s1 e1 R1 k1) k⟩
def wRet (w : W) : WS := ⟨fun E s => w.f s fun d s1 => E.rt d s1, fun E E' s h q => w.mono _ _ _ (fun d s1 => h.rt d s1) q⟩
theorem sd_ret (h : PE X e (lift p w)) : PS X (.Return (some e) pos) (liftS p (wRet w)) :=
  PS.imp (ps_ret h) fun D σ H ⟨G, s, E, R, k, q⟩ => ⟨G, s, R, w.mono _ _ _ (fun d s1 k1 x H1 G1 e1 R1 r1 => q.rt x σ H1 G1 d s1 e1 R1 r1 k1) k⟩
def wRetN : WS := ⟨fun E s => E.rt .non s, fun E E' s h => h.rt _ s⟩
def wIfS (t : WT) (u v : WS) : WS := ⟨fun E s => t.f s fun b s1 => if b = true then u.f E s1 else v.f E s1, fun E E' s h q => t.mono _ _ _ (fun b s1 q => by
  cases b with
  | true => exact u.mono _ _ _ h q
  | false => exact v.mono _ _ _ h q) q⟩
theorem sd_if (hc : PT X c (liftT p t)) (ha : PSs X sa (liftS p u)) (hb : PSs X sb (liftS p v)) : PS X (.If c sa sb pos) (liftS p (wIfS t u v)) :=
  PS.imp (ps_if hc ha hb) fun D σ H ⟨G, s, E, R, k, q⟩ => ⟨G, s, R, t.mono _ _ _ (fun b s1 k1 H1 G1 e1 R1 => by
    cases b with
    | true => exact ⟨G1, s1, E, R1, k1, q.mono e1⟩
    | false => exact ⟨G1, s1, E, R1, k1, q.mono e1⟩) k⟩
def wNever : WS := ⟨fun _ _ => False, fun _ _ _ _ h => h⟩
/-! ### stores -/
def wSet (i : Nat) (w : W) : WS := ⟨fun E s => w.f s fun d s1 => i < s1.env.length ∧ E.nx { s1 with env := s1.env.set i (.val d) }, fun E E' s h q => w.mono _ _ _ (fun d s1 q => ⟨q.1, h.nx _ q.2⟩) q⟩
theorem sd_set (i : Nat) {x : Str} {pos' : Pos} (hN : X.N.Nodup) (he : PE X e (lift p w)) (hi : X.N[i]? = some x := by rfl) (hx : Loc X.env.scope x := by first | exact .inl rfl | exact .inr rfl) (hs : swapsWith e (some (.Name x pos')) pos.line X.env = pure false := by rfl)
    (hf : X.fn x = true ∨ X.env.scope.names.lookup x = some .local := by first | exact .inl rfl | exact .inr rfl) : PS X (.Assign [.Name x pos'] e pos) (liftS p (wSet i w)) :=
  PS.imp (ps_set hN hi hx he hs hf) fun D σ H ⟨G, s, E, R, k, q⟩ => ⟨G, s, R, w.mono _ _ _ (fun d s1 k1 v H1 G1 e1 R1 r1 => q.nx _ H1 G1 _ e1 (R1.set (by rw [← R1.len]; exact k1.1) r1) k1.2) k⟩
/-- a new list, not kept by anyone yet -/
def liftL (p : Pl) (w : WA) : TE := fun σ H Q => ∃ G s, p.Rs σ H G s ∧ w.f s fun ds s' => ∀ q xs H' G', Same G G' → p.Rs σ H' G' s' → p.RpA G' xs ds → H' q = none → Q (.ref q) (upd H' q (.lst xs))
def wOfL (w : WA) : W := ⟨fun s P => w.f s fun ds s1 => P (.lst ds) s1, fun s P P' h q => w.mono _ _ _ (fun ds s1 q => h _ _ q) q⟩
variable {tl : WA}
theorem pd_ofL (h : PE X e (liftL p tl)) : PE X e (lift p (wOfL tl)) :=
  PE.imp h fun σ H Q ⟨G, s, R, k⟩ => ⟨G, s, R, tl.mono _ _ _ (fun ds s1 k1 q xs H1 G1 e1 R1 r1 hq => k1 _ _ _ (e1.trans (Same.upd (R1.sub.none hq))) (R1.alloc hq) (.lst upd_same (r1.mono (Same.upd (R1.sub.none hq))))) k⟩
def wsz (t : WA) : WA := ⟨fun s P => t.f s fun ds s1 => ds.length ≤ sizeLine ∧ P ds s1, fun s P P' h q => t.mono _ _ _ (fun ds s1 q => ⟨q.1, h _ _ q.2⟩) q⟩
theorem ld_lst {ms : List Bool} {ta : WA} (h : PA X es (liftM p ms ta)) (hm : ∀ m ∈ ms, m = false := by decide) : PE X (.List es pos) (liftL p (wsz ta)) :=
  PE.imp (pe_lst h) fun σ H Q ⟨G, s, R, k⟩ => ⟨G, s, R, ta.mono _ _ _ (fun ds s1 k1 vs H1 G1 e1 R1 r1 => by
    have ra := r1.all hm
    exact ⟨by rw [ra.length]; exact k1.1, fun q hq => k1.2 q vs H1 G1 e1 R1 ra hq⟩) k⟩
def wOwn (i : Nat) (t : WA) : WS := ⟨fun E s => t.f s fun ds s1 => i < s1.env.length ∧ E.nx { s1 with env := s1.env.set i (.own ds) }, fun E E' s h q => t.mono _ _ _ (fun d s1 q => ⟨q.1, h.nx _ q.2⟩) q⟩
theorem sd_own (i : Nat) {x : Str} {pos' : Pos} (hN : X.N.Nodup) (he : PE X e (liftL p tl)) (hi : X.N[i]? = some x := by rfl) (hx : Loc X.env.scope x := by first | exact .inl rfl | exact .inr rfl) (hs : swapsWith e (some (.Name x pos')) pos.line X.env = pure false := by rfl)
    (hf : X.fn x = true ∨ X.env.scope.names.lookup x = some .local := by first | exact .inl rfl | exact .inr rfl) : PS X (.Assign [.Name x pos'] e pos) (liftS p (wOwn i tl)) :=
  PS.imp (ps_set hN hi hx he hs hf) fun D σ H ⟨G, s, E, R, k, q⟩ => ⟨G, s, R, tl.mono _ _ _ (fun ds s1 k1 y xs H1 G1 e1 R1 r1 hq => q.nx _ _ G1 _ e1 (R1.setOwn (by rw [← R1.len]; exact k1.1) hq r1) k1.2) k⟩
/-- a, b = x, y: plain values -/
def wPar (i j : Nat) (t : WA) : WS := ⟨fun E s => t.f s fun ds s1 => ∃ d1 d2, ds = [d1, d2] ∧ i < s1.env.length ∧ j < s1.env.length ∧ E.nx { s1 with env := (s1.env.set i (.val d1)).set j (.val d2) },
  fun E E' s h q => t.mono _ _ _ (fun ds s1 ⟨d1, d2, e, h1, h2, q⟩ => ⟨d1, d2, e, h1, h2, h.nx _ q⟩) q⟩
theorem sd_par (i j : Nat) {ms : List Bool} {ta : WA} {x y : Str} {px py pt : Pos} {kt k2 pt2} (hN : X.N.Nodup) (ha : PA X [a, b] (liftM p ms ta)) (hm : ∀ m ∈ ms, m = false := by decide) (hc : X.calm = true := by rfl) (hi : X.N[i]? = some x := by rfl) (hj : X.N[j]? = some y := by rfl) (hij : i ≠ j := by decide)
    (hx : X.env.scope.names.lookup x = some .local := by rfl) (hy : X.env.scope.names.lookup y = some .local := by rfl)
    (hw : swappedStores [.Tuple [.Name x px, .Name y py] kt pt] (.Tuple [a, b] k2 pt2) X.env = pure (some [x, y]) := by rfl)
    (hs : swapsWithSole [.Tuple [.Name x px, .Name y py] kt pt] (.Tuple [a, b] k2 pt2) pos.line X.env = pure false := by rfl) : PS X (.Assign [.Tuple [.Name x px, .Name y py] kt pt] (.Tuple [a, b] k2 pt2) pos) (liftS p (wPar i j ta)) :=
  PS.imp (ps_par hc hN hi hj hij hx hy ha hw hs) fun D σ H ⟨G, s, E, R, k, q⟩ => ⟨G, s, R, ta.mono _ _ _ (fun ds s1 ⟨d1, d2, ed, h1, h2, k1⟩ vs H1 G1 e1 R1 r1 => by
    subst ed
    have ra := r1.all hm
    cases ra with
    | cons ra1 t1 =>
      cases t1 with
      | cons ra2 t2 =>
        cases t2
        have R2 := R1.set (i := i) (by rw [← R1.len]; exact h1) ra1
        have R3 := R2.set (i := j) (by rw [List.length_set, ← R1.len]; exact h2) ra2
        exact ⟨_, _, rfl, q.nx _ H1 G1 _ e1 R3 k1⟩) k⟩
/-- target = value by a target's rule -/
def liftG (p : Pl) (g : D → List Sl → Option (List Sl)) : TG := fun v σ H Q => ∃ G s d env', p.Rs σ H G s ∧ p.Rp G v d ∧ g d s.env = some env' ∧ ∀ σ' H' G', Same G G' → p.Rs σ' H' G' { s with env := env' } → Q σ' H'
def gNm (i : Nat) : D → List Sl → Option (List Sl) := fun d env => if i < env.length then some (env.set i (.val d)) else none
theorem PG.imp {tg : Expr} {t t' : TG} (h : PG X tg t) (i : ∀ v σ H Q, t' v σ H Q → t v σ H Q) : PG X tg t' := ⟨fun pins s σ H v u Q I r k => h.run pins s σ H v u Q I r (i v σ H Q k)⟩
theorem gd_name (i : Nat) {x : Str} (hN : X.N.Nodup) (hi : X.N[i]? = some x := by rfl) (hx : Loc X.env.scope x := by first | exact .inl rfl | exact .inr rfl) (hf : X.fn x = true ∨ X.env.scope.names.lookup x = some .local := by first | exact .inl rfl | exact .inr rfl) : PG X (.Name x pos) (liftG p (gNm i)) :=
  PG.imp (pg_name hN hi hx hf) fun v σ H Q ⟨G, s, d, env', R, r, g, k⟩ => by
    unfold gNm at g
    split at g
    · cases g
      exact k _ H G (Same.refl G) (R.set (by rw [← R.len]; assumption) r)
    · cases g
/-- several targets -/
def liftGs (p : Pl) (g : List D → List Sl → Option (List Sl)) : TGs := fun vs σ H Q => ∃ G s ds env', p.Rs σ H G s ∧ p.RpA G vs ds ∧ g ds s.env = some env' ∧ ∀ σ' H' G', Same G G' → p.Rs σ' H' G' { s with env := env' } → Q σ' H'
def gsNil : List D → List Sl → Option (List Sl)
  | [], env => some env
  | _, _ => none
def gsCons (g : D → List Sl → Option (List Sl)) (gs : List D → List Sl → Option (List Sl)) : List D → List Sl → Option (List Sl)
  | d :: ds, env => (g d env).bind (gs ds)
  | _, _ => none
theorem PGs.imp {tg : List Expr} {t t' : TGs} (h : PGs X tg t) (i : ∀ v σ H Q, t' v σ H Q → t v σ H Q) : PGs X tg t' := ⟨fun pins s σ H v u Q I r k => h.run pins s σ H v u Q I r (i v σ H Q k)⟩
theorem gds_nil : PGs X [] (liftGs p gsNil) := PGs.imp pgs_nil fun vs σ H Q ⟨G, s, ds, env', R, r, g, k⟩ => by
  cases r with
  | nil =>
    cases g
    exact ⟨rfl, k σ H G (Same.refl G) R⟩
  | cons _ _ => cases g
theorem gds_cons {g : D → List Sl → Option (List Sl)} {gs : List D → List Sl → Option (List Sl)} (h1 : PG X e (liftG p g)) (h2 : PGs X es (liftGs p gs)) (hs : (assignEach (e :: es) X.env).map (·.2) = assign e X.env :: (assignEach es X.env).map (·.2) := by rfl) :
    PGs X (e :: es) (liftGs p (gsCons g gs)) := PGs.imp (pgs_cons h1 h2 hs) fun vs σ H Q ⟨G, s, ds, env', R, r, hg, k⟩ => by
  cases r with
  | nil => cases hg
  | cons r t =>
    simp only [gsCons, Option.bind_eq_some_iff] at hg
    obtain ⟨env1, g1, g2⟩ := hg
    exact ⟨_, _, rfl, G, s, _, env1, R, r, g1, fun σ' H' G' e1 R1 => ⟨G', _, _, env', R1, t.mono e1, g2, fun σ2 H2 G2 e2 R2 => k σ2 H2 G2 (e1.trans e2) R2⟩⟩
def gTp (n : Nat) (gs : List D → List Sl → Option (List Sl)) : D → List Sl → Option (List Sl)
  | .tup ds, env => if ds.length = n then gs ds env else none
  | _, _ => none
theorem gd_tup {k : Nat} {n : Nat} {gs : List D → List Sl → Option (List Sl)} (h : PGs X es (liftGs p gs)) (hK : p.K = X.K := by rfl) (hc : X.calm = true := by rfl) (hn : (assignEach es X.env).length = n := by rfl) (hst : (assignEach es X.env).findIdx? (·.1) = none := by rfl) :
    PG X (.Tuple es k pos) (liftG p (gTp n gs)) := PG.imp (pg_tup hc h hn hst) fun v σ H Q ⟨G, s, d, env', R, r, hg, k⟩ => by
  cases d <;> simp only [gTp] at hg <;> try cases hg
  split at hg
  · cases r with
    | tup h1 r1 => exact ⟨_, _, rfl, hK ▸ Same.tup R.sub.go h1, by rw [r1.length]; assumption, G, s, _, env', R, r1, hg, k⟩
  · cases hg
def wAsgT (g : D → List Sl → Option (List Sl)) (w : W) : WS := ⟨fun E s => w.f s fun d s1 => get (g d s1.env) fun env' => E.nx { s1 with env := env' }, fun E E' s h q => w.mono _ _ _ (fun d s1 q => get_mono (fun env' q => h.nx _ q) q) q⟩
theorem sd_asg {tg : Expr} {g : D → List Sl → Option (List Sl)} (he : PE X e (lift p w)) (hg : PG X tg (liftG p g)) (hs : swapsWithSole [tg] e pos.line X.env = pure false := by rfl) (hw : swappedStores [tg] e X.env = pure none := by rfl)
    (h1 : (assignEach [tg] X.env).map (·.2) = [assign tg X.env] := by rfl) : PS X (.Assign [tg] e pos) (liftS p (wAsgT g w)) :=
  PS.imp (ps_asg he hg hs hw h1) fun D σ H ⟨G, s, E, R, k, q⟩ => ⟨G, s, R, w.mono _ _ _ (fun d s1 k1 v H1 G1 e1 R1 r1 => by
    obtain ⟨env', eg, kn⟩ := get_of k1
    exact ⟨G1, s1, d, env', R1, r1, eg, fun σ' H' G' e2 R2 => q.nx σ' H' G' _ (e1.trans e2) R2 kn⟩) k⟩

/-! ### what is walked -/
structure WI where
  f : S → (List D → S → Prop) → Prop
  mono : ∀ s P P', (∀ d s', P d s' → P' d s') → f s P → f s P'
def Yl (p : Pl) (H G : Hp) (x : V) (H' : Hp) (d : D) : Prop := (H' = H ∧ p.Rp G x d) ∨ ∃ q o, H q = none ∧ H' = upd H q o ∧ x = .ref q ∧ p.Rp (upd G q o) x d
def Src (p : Pl) (J : It) (ds : List D) (G : Hp) : Prop := ∀ i H' G', Same G G' → Sub G' H' → (∀ d, ds[i]? = some d → J.go i H' ∧ ∀ x H'', J.yld i H' x H'' → Yl p H' G' x H'' d) ∧ (ds.length ≤ i → J.stop i H')
def liftI (p : Pl) (w : WI) : TI := fun σ H R => ∃ G s, p.Rs σ H G s ∧ w.f s fun ds s' => ∀ J H' G', Same G G' → p.Rs σ H' G' s' → Src p J ds G' → R J H'
theorem PI.imp {tg : Expr} {t t' : TI} (h : PI X tg e t) (i : ∀ σ H R, t' σ H R → t σ H R) : PI X tg e t' := ⟨fun pins s σ H R I k => h.run pins s σ H R I (i σ H R k)⟩
def lstD : D → Option (List D)
  | .lst ds => some ds
  | _ => none
def tupD : D → Option (List D)
  | .tup ds => some ds
  | _ => none
def wiL (w : W) : WI := ⟨fun s P => w.f s fun d s1 => get (lstD d) fun ds => P ds s1, fun s P P' h q => w.mono _ _ _ (fun d s1 q => get_mono (fun ds q => h _ _ q) q) q⟩
def wiT (w : W) : WI := ⟨fun s P => w.f s fun d s1 => get (tupD d) fun ds => P ds s1, fun s P P' h q => w.mono _ _ _ (fun d s1 q => get_mono (fun ds q => h _ _ q) q) q⟩
def chrs (z : Str) : List D := z.cps.toList.map fun c => .str ⟨#[c]⟩
def wiS (w : W) : WI := ⟨fun s P => w.f s fun d s1 => get (strD d) fun z => P (chrs z) s1, fun s P P' h q => w.mono _ _ _ (fun d s1 q => get_mono (fun z q => h _ _ q) q) q⟩
variable {tg : Expr}
theorem src_list {q : Addr} {xs : List V} {ds : List D} {G : Hp} (h : G q = some (.lst xs)) (k : p.RpA G xs ds) : Src p (Itl X.K q) ds G := fun i H' G' e hs => by
  have h' : H' q = some (.lst xs) := hs _ _ (e _ _ h)
  refine ⟨fun d hd => ?_, fun hi => ⟨xs, SqL.of h', by rw [k.length]; exact hi⟩⟩
  obtain ⟨x, hx, rx⟩ := k.get hd
  refine ⟨⟨xs, x, SqL.of h', hx⟩, fun y H'' ⟨e1, e2⟩ => .inl ⟨e1, ?_⟩⟩
  have e3 := e2 xs (SqL.of h')
  rw [hx] at e3
  cases e3
  exact rx.mono e
theorem src_tup {q : Addr} {xs : List V} {ds : List D} {G : Hp} (hK : p.K = X.K) (h : SqT p.K G q xs) (k : p.RpA G xs ds) : Src p (Itt X.K q) ds G := fun i H' G' e hs => by
  have h' : SqT X.K H' q xs := hK ▸ Same.tup hs.go (Same.tup e h)
  refine ⟨fun d hd => ?_, fun hi => ⟨xs, h', by rw [k.length]; exact hi⟩⟩
  obtain ⟨x, hx, rx⟩ := k.get hd
  refine ⟨⟨xs, x, h', hx⟩, fun y H'' ⟨e1, e2⟩ => .inl ⟨e1, ?_⟩⟩
  have e3 := e2 xs h'
  rw [hx] at e3
  cases e3
  exact rx.mono e
theorem src_str {z : Str} {G : Hp} : Src p (Its z) (chrs z) G := fun i H' G' e hs => by
  refine ⟨fun d hd => ?_, fun hi => ?_⟩
  · unfold chrs at hd
    rw [List.getElem?_map] at hd
    cases q : z.cps.toList[i]? with
    | none => rw [q] at hd; cases hd
    | some c =>
      rw [q] at hd
      cases hd
      have hlt : i < z.cps.size := by
        have := (List.getElem?_eq_some_iff.mp q).1
        simpa using this
      refine ⟨hlt, fun y H'' ⟨e1, c', hc, e2⟩ => .inl ⟨e1, ?_⟩⟩
      rw [Array.getElem?_toList] at q
      rw [q] at hc
      cases hc
      subst e2
      exact .str _
  · show z.cps.size ≤ i
    unfold chrs at hi
    simpa using hi
theorem id_list (h : PE X e (lift p w)) (hK : p.K = X.K := by rfl) : PI X tg e (liftI p (wiL w)) := PI.imp (pi_list h) fun σ H Rr ⟨G, s, R, k⟩ => ⟨G, s, R, w.mono _ _ _ (fun d s1 k1 x H1 G1 e1 R1 r1 => by
  obtain ⟨ds, ed, k2⟩ := get_of k1
  cases d <;> cases ed
  cases r1 with
  | lst h k => exact ⟨_, rfl, ⟨_, SqL.of (R1.sub _ _ h)⟩, k2 _ H1 G1 e1 R1 (src_list h k)⟩) k⟩
theorem id_str (h : PE X e (lift p w)) : PI X tg e (liftI p (wiS w)) := PI.imp (pi_str h) fun σ H Rr ⟨G, s, R, k⟩ => ⟨G, s, R, w.mono _ _ _ (fun d s1 k1 x H1 G1 e1 R1 r1 => by
  obtain ⟨z, ez, k2⟩ := get_of k1
  cases strD_of ez
  cases r1
  exact ⟨z, rfl, k2 _ H1 G1 e1 R1 src_str⟩) k⟩
/-- range(n), range(lo, hi) -/
def rngD (lo : Int) (n : Nat) : List D := (List.range n).map fun (i : Nat) => D.int (lo + (i : Int))
theorem src_rng {lo : Int} {n : Nat} {G : Hp} : Src p (Itr lo n) (rngD lo n) G := fun i H' G' e hs => by
  unfold rngD
  refine ⟨fun d hd => ?_, fun hi => (show n ≤ i by simpa using hi)⟩
  rw [List.getElem?_map] at hd
  by_cases hi : i < n
  · rw [List.getElem?_range hi] at hd
    cases hd
    refine ⟨hi, fun y H'' ⟨e1, e2⟩ => .inl ⟨e1, ?_⟩⟩
    subst e2
    exact .int _
  · rw [List.getElem?_eq_none (by simpa using hi)] at hd
    cases hd
def wiR1 (t : WA) : WI := ⟨fun s P => t.f s fun ds s1 => ∃ j, ds = [.int j] ∧ -(2 ^ 62) ≤ j ∧ j < 2 ^ 62 ∧ P (rngD 0 j.toNat) s1, fun s P P' h q => t.mono _ _ _ (fun ds s1 ⟨j, e, a, b, q⟩ => ⟨j, e, a, b, h _ _ q⟩) q⟩
def wiR2 (t : WA) : WI := ⟨fun s P => t.f s fun ds s1 => ∃ i j, ds = [.int i, .int j] ∧ (-(2 ^ 62) ≤ i ∧ i < 2 ^ 62 ∧ -(2 ^ 62) ≤ j ∧ j < 2 ^ 62) ∧ P (rngD i (j - i).toNat) s1, fun s P P' h q => t.mono _ _ _ (fun ds s1 ⟨i, j, e, a, q⟩ => ⟨i, j, e, a, h _ _ q⟩) q⟩
theorem id_range1 {ta : WA} {pf : Pos} (ha : PA X [e] (liftM p [false] ta)) (hm : X.mg "range" = none) (hg : Gl X "range" := by rfl) (hs : starEach [e] X.env = [(false, eval e X.env)] := by rfl) : PI X tg (.Call (.Name "range" pf) [e] [] pos) (liftI p (wiR1 ta)) :=
  PI.imp (pi_range1 hg hm ha hs) fun σ H Rr ⟨G, s, R, k⟩ => ⟨G, s, R, ta.mono _ _ _ (fun ds s1 ⟨j, ed, h1, h2, k1⟩ vs H1 G1 e1 R1 r1 => by
    subst ed
    cases r1 with
    | val r t =>
      cases t
      cases r
      exact ⟨j, rfl, h1, h2, k1 _ H1 G1 e1 R1 src_rng⟩) k⟩
/-! ### for -/
def forW (g : D → List Sl → Option (List Sl)) (tb : WS) (E : ED) : List D → S → Prop
  | [], s => E.nx s
  | d :: ds, s => get (g d s.env) fun env' => tb.f { nx := forW g tb E ds, rt := E.rt, bk := E.nx, ct := forW g tb E ds } { s with env := env' }
theorem forW_mono {g : D → List Sl → Option (List Sl)} {tb : WS} {E E' : ED} (h : ED.Le E E') : ∀ ds s, forW g tb E ds s → forW g tb E' ds s
  | [], s, q => h.nx s q
  | d :: ds, s, q => get_mono (fun env' q => tb.mono { nx := forW g tb E ds, rt := E.rt, bk := E.nx, ct := forW g tb E ds } { nx := forW g tb E' ds, rt := E'.rt, bk := E'.nx, ct := forW g tb E' ds } _ (ED.Le.mk (forW_mono h ds) h.rt h.nx (forW_mono h ds)) q) q
def wForS (wi : WI) (g : D → List Sl → Option (List Sl)) (tb : WS) : WS := ⟨fun E s => wi.f s fun ds s1 => forW g tb E ds s1, fun E E' s h q => wi.mono _ _ _ (fun ds s1 q => forW_mono h ds s1 q) q⟩
theorem sd_for {wi : WI} {g : D → List Sl → Option (List Sl)} {tb : WS} {body : List Stmt} (hi : PI X tg e (liftI p wi)) (hg : PG X tg (liftG p g)) (hb : PSs X body (liftS p tb)) (hp : PassesOwn (model X.prog X.w) X.A X.env X.xe := by exact PassesOwn.never) (hc : X.calm = true := by rfl) (hs : ∀ x, foldedSetIterable e X.env x = pure x := by intro _; rfl) :
    PS X (.For tg e body [] pos) (liftS p (wForS wi g tb)) := PS.imp (ps_for hp hc hi hg hb hs) fun D σ H ⟨G, s, E, R, k, q⟩ => ⟨G, s, R, wi.mono _ _ _ (fun ds s1 k1 J H1 G1 e1 R1 src => by
    refine ⟨fun i m σ' H' => m = ds.length - i ∧ i ≤ ds.length ∧ ∃ G' s', Same G1 G' ∧ p.Rs σ' H' G' s' ∧ forW g tb E (ds.drop i) s', ⟨ds.length, by simp, Nat.zero_le _, G1, s1, Same.refl G1, R1, by simpa using k1⟩, ?_⟩
    rintro i m σ' H' ⟨rfl, hi, G', s', e2, R2, k2⟩
    obtain ⟨s1', s2'⟩ := src i H' G' e2 R2.sub
    by_cases hlt : i < ds.length
    · right
      have hd : ds[i]? = some ds[i] := List.getElem?_eq_getElem hlt
      obtain ⟨go, yl⟩ := s1' _ hd
      rw [List.drop_eq_getElem_cons hlt] at k2
      obtain ⟨env', eg, k3⟩ := get_of k2
      refine ⟨go, fun σ2 H2 => ∃ G2 s2, Same G1 G2 ∧ p.Rs σ2 H2 G2 s2 ∧ forW g tb E (ds.drop (i + 1)) s2, fun σ2 H2 ⟨G2, s2, z1, z2, z3⟩ => ⟨ds.length - (i + 1), by omega, rfl, hlt, G2, s2, z1, z2, z3⟩, fun x H'' y => ?_⟩
      have cm : ∀ {G3 : Hp}, Same G1 G3 → Cmp p G3 { nx := forW g tb E (ds.drop (i + 1)), rt := E.rt, bk := E.nx, ct := forW g tb E (ds.drop (i + 1)) } { D with nx := fun σ2 H2 => ∃ G2 s2, Same G1 G2 ∧ p.Rs σ2 H2 G2 s2 ∧ forW g tb E (ds.drop (i + 1)) s2, ct := fun σ2 H2 => ∃ G2 s2, Same G1 G2 ∧ p.Rs σ2 H2 G2 s2 ∧ forW g tb E (ds.drop (i + 1)) s2, bk := D.nx } := fun {G3} e3 =>
        ⟨fun σ4 H4 G4 s4 a R4 k4 => ⟨G4, s4, e3.trans a, R4, k4⟩, fun v σ4 H4 G4 d4 s4 a R4 r4 k4 => q.rt v σ4 H4 G4 d4 s4 (e1.trans (e3.trans a)) R4 r4 k4, fun σ4 H4 G4 s4 a R4 k4 => q.nx σ4 H4 G4 s4 (e1.trans (e3.trans a)) R4 k4, fun σ4 H4 G4 s4 a R4 k4 => ⟨G4, s4, e3.trans a, R4, k4⟩⟩
      rcases yl x H'' y with ⟨rfl, rx⟩ | ⟨q1, o, hq, rfl, rfl, rx⟩
      · exact ⟨G', s', _, env', R2, rx, eg, fun σ3 H3 G3 e3 R3 => ⟨G3, _, _, R3, k3, cm (e2.trans e3)⟩⟩
      · obtain ⟨Gn, e4, Rn, _, rn⟩ := R2.fresh (o := o) hq
        exact ⟨_, s', _, env', Rn, rn _ _ rx, eg, fun σ3 H3 G3 e3 R3 => ⟨G3, _, _, R3, k3, cm ((e2.trans e4).trans e3)⟩⟩
    · left
      have e0 : i = ds.length := by omega
      subst e0
      rw [List.drop_length] at k2
      exact ⟨s2' (Nat.le_refl _), q.nx σ' H' G' s' (e1.trans e2) R2 k2⟩) k⟩
end
end DI
/-! Comprehensions; a def by its body; a slot's own list. -/
namespace DI
open PySem L2
variable [Nm]
section
variable {p : Pl} {σ : St} {H G H' G' : Hp} {s : S}
/-- the slots' lists stand elsewhere -/
def Away (σ : St) (env : List Sl) (D : Addr) : Prop := ∀ (i : Nat) (ds : List DI.D) (q : Addr), (env[i]? = some (.own ds) ∨ (env[i]? = some (.bor ds) ∧ False) ∨ (∃ ks, env[i]? = some (.dic ks ds)) ∨ ∃ t F Pk n, env[i]? = some (.mem t F Pk n)) → σ[i]? = some (some (.ref q)) → q ≠ D
theorem Rs.away (R : p.Rs σ H G s) {D : Addr} (h : H D = none) : Away σ s.env D := fun i ds q e hq z => by
  subst z
  rcases e with e | e | ⟨ks, e⟩ | ⟨t, F, Pk, m, e⟩
  · obtain ⟨q1, xs, e1, h1, _⟩ := R.slot i _ e
    rw [hq] at e1
    cases e1
    rw [h] at h1
    cases h1
  · exact e.2.elim
  · obtain ⟨q1, xs, e1, h1, _⟩ := R.slot i _ e
    rw [hq] at e1
    cases e1
    rw [h] at h1
    cases h1
  · obtain ⟨q1, xs, e1, h1, _⟩ := R.slot i _ e
    rw [hq] at e1
    cases e1
    rw [h] at h1
    cases h1
/-- an object that nobody knows is changed -/
theorem Rs.poke (R : p.Rs σ H G s) {D : Addr} (k : ∀ a, a ≠ D → H' a = H a) (aw : Away σ s.env D) (g : G D = none) (d : p.dr ≠ some D) (h0 : p.H0 D = none) (sf : Soft H D) : p.Rs σ H' G s := by
  refine ⟨⟨fun a o e => ?_, R.sub.nt⟩, R.base.upd k sf (.inl h0), R.new, R.len, fun i x hx => ?_, R.inj, R.injD, fun a ha => ?_⟩
  · have ne : a ≠ D := fun z => by rw [z, g] at e; cases e
    rw [k a ne]
    exact R.sub a o e
  · have q := R.slot i x hx
    cases x with
    | emp => trivial
    | val y => exact q
    | own ds =>
      obtain ⟨q1, xs, e1, h1, h2⟩ := q
      exact ⟨q1, xs, e1, by rw [k q1 (aw i ds q1 (.inl hx) e1)]; exact h1, h2⟩
    | bor ds =>
      obtain ⟨q1, xs, e1, hb, h2⟩ := q
      refine ⟨q1, xs, e1, ?_, h2⟩
      rcases hb with ⟨h1, h3⟩ | hb
      · exact .inl ⟨rd_at (k q1 (fun z => h3 (by rw [z]; exact h0))) h1, h3⟩
      · exact .inr hb
    | dic ks ds =>
      obtain ⟨q1, xs, e1, h1, h2⟩ := q
      exact ⟨q1, xs, e1, by rw [k q1 (aw i ds q1 (.inr (.inr (.inl ⟨ks, hx⟩))) e1)]; exact h1, h2⟩
    | mem t F Pk m =>
      obtain ⟨q1, xs, e1, h1, h2⟩ := q
      exact ⟨q1, xs, e1, by rw [k q1 (aw i [] q1 (.inr (.inr (.inr ⟨t, F, Pk, m, hx⟩))) e1)]; exact h1, h2⟩
  · obtain ⟨f, L, ns, x, l, u, e1, e2, kk⟩ := R.drw a ha
    have ne : a ≠ D := fun z => d (by rw [ha, z])
    exact ⟨f, L, ns, x, l, u, by rw [k a ne]; exact e1, e2, kk⟩
def toBor : Sl → Sl
  | .own ds => .bor ds
  | .dic _ _ => .emp
  | .mem _ _ _ _ => .emp
  | x => x
def wipeE : List Nat → List Sl → List Sl
  | [], env => env
  | v :: vs, env => (wipeE vs env).set v .emp
def innE (vs : List Nat) (env : List Sl) : List Sl := wipeE vs (env.map toBor)
theorem wipeE_length : ∀ (vs : List Nat) (env : List Sl), (wipeE vs env).length = env.length
  | [], _ => rfl
  | v :: vs, env => by rw [wipeE, List.length_set, wipeE_length vs env]
theorem innE_length (vs : List Nat) (env : List Sl) : (innE vs env).length = env.length := by
  unfold innE
  rw [wipeE_length, List.length_map]
theorem wipe_get {i : Nat} : ∀ {vs : List Nat} {env : List Sl} {x : Sl}, (wipeE vs env)[i]? = some x → x = .emp ∨ (env[i]? = some x ∧ (wipe σ vs)[i]? = σ[i]?)
  | [], env, x, h => .inr ⟨h, rfl⟩
  | v :: vs, env, x, h => by
    unfold wipeE at h
    by_cases hv : v = i
    · subst hv
      by_cases hl : v < (wipeE vs env).length
      · rw [List.getElem?_set_self hl] at h
        cases h
        exact .inl rfl
      · rw [List.getElem?_eq_none (by rw [List.length_set]; omega)] at h
        cases h
    · rw [List.getElem?_set_ne hv] at h
      rcases wipe_get h with q | ⟨q1, q2⟩
      · exact .inl q
      · refine .inr ⟨q1, ?_⟩
        show ((wipe σ vs).set v none)[i]? = σ[i]?
        rw [List.getElem?_set_ne hv]
        exact q2
/-- the block's own state -/
theorem Rs.inner (R : p.Rs σ H G s) (vs : List Nat) : (⟨p.K, p.dr, H, G⟩ : Pl).Rs (wipe σ vs) H G ⟨innE vs s.env, s.n⟩ := by
  refine ⟨R.sub, Bse.refl, fun a h1 _ => h1, by rw [wipe_length, innE_length]; exact R.len, fun i x hx => ?_, fun i j q ds es hij e1 e2 e3 => ?_, fun i j q ks ls ds es hij e1 e2 e3 => ?_, R.drw⟩
  · rcases wipe_get (σ := σ) hx with rfl | ⟨h1, h2⟩
    · trivial
    · rw [h2]
      rw [List.getElem?_map] at h1
      cases e : s.env[i]? with
      | none => rw [e] at h1; cases h1
      | some y =>
        rw [e] at h1
        cases h1
        have q := R.slot i y e
        cases y with
        | emp => trivial
        | val d => exact q
        | own ds =>
          obtain ⟨q1, xs, e1, h1, h2, h3, h4, r⟩ := q
          exact ⟨q1, xs, e1, .inl ⟨.inl h1, (by rw [show (⟨p.K, p.dr, H, G⟩ : Pl).H0 = H from rfl, h1]; exact (fun z => nomatch z))⟩, r⟩
        | bor ds =>
          obtain ⟨q1, xs, e1, hb, r⟩ := q
          refine ⟨q1, xs, e1, ?_, r⟩
          rcases hb with ⟨h1, h2⟩ | hb
          · exact .inl ⟨h1, fun z => rd_ne h1 z rfl⟩
          · exact .inr hb
        | dic ks ds => trivial
        | mem t F Pk m => trivial
  · have no : ∀ {k : Nat} {fs : List D}, (innE vs s.env)[k]? ≠ some (.own fs) := fun {k fs} z => by
      rcases wipe_get (σ := σ) z with z | ⟨z, _⟩
      · cases z
      · rw [List.getElem?_map] at z
        cases e : s.env[k]? with
        | none => rw [e] at z; cases z
        | some y =>
          rw [e] at z
          cases y <;> cases z
    exact absurd e1 no
  · have no : ∀ {k : Nat} {ms : List Key} {fs : List D}, (innE vs s.env)[k]? ≠ some (.dic ms fs) := fun {k ms fs} z => by
      rcases wipe_get (σ := σ) z with z | ⟨z, _⟩
      · cases z
      · rw [List.getElem?_map] at z
        cases e : s.env[k]? with
        | none => rw [e] at z; cases z
        | some y =>
          rw [e] at z
          cases y <;> cases z
    exact absurd e1 no
end

section
variable {X : Cx} {p : Pl}
/-- a comprehension's target -/
structure LcT (p : Pl) (g : TG) (ge : D → List Sl → Option (List Sl)) (vs : List Nat) : Prop where
  run : ∀ (σ0 : St) (H0 G0 H G : Hp) (v : V) (d : D) (n : Nat) (env env' : List Sl), (⟨p.K, p.dr, H0, G0⟩ : Pl).Rs (wipe σ0 vs) H G ⟨env, n⟩ → p.Rp G v d → ge d env = some env' →
    ∃ σ2, wipe σ2 vs = wipe σ0 vs ∧ (⟨p.K, p.dr, H0, G0⟩ : Pl).Rs σ2 H G ⟨env', n⟩ ∧ ∀ Q : St → Hp → Prop, Q σ2 H → g v (wipe σ0 vs) H Q
theorem wipe_set_in {v : Nat} {x : Option V} : ∀ {vs : List Nat} {σ : St}, v ∈ vs → wipe (σ.set v x) vs = wipe σ vs
  | [], _, h => by cases h
  | u :: vs, σ, h => by
    unfold wipe
    by_cases e : v ∈ vs
    · rw [wipe_set_in e]
    · have e2 : v = u := by
        rcases List.mem_cons.mp h with z | z
        · exact z
        · exact absurd z e
      subst e2
      have comm : ∀ (ws : List Nat) (τ : St), v ∉ ws → wipe (τ.set v x) ws = (wipe τ ws).set v x := fun ws => by
        induction ws with
        | nil => intro τ _; rfl
        | cons w ws ih =>
          intro τ hw
          have h1 : v ≠ w := fun z => hw (by rw [z]; exact List.mem_cons_self)
          have h2 : v ∉ ws := fun z => hw (List.mem_cons_of_mem _ z)
          show (wipe (τ.set v x) ws).set w none = ((wipe τ ws).set w none).set v x
          rw [ih τ h2, List.set_comm _ _ h1]
      rw [comm vs σ e, List.set_set]
theorem wipe_twice : ∀ {vs : List Nat} {σ : St}, wipe (wipe σ vs) vs = wipe σ vs := fun {vs σ} => by
  have key : ∀ (ws : List Nat), (∀ w ∈ ws, w ∈ vs) → wipe (wipe σ ws) vs = wipe σ vs := fun ws => by
    induction ws with
    | nil => intro _; rfl
    | cons w ws ih =>
      intro h
      show wipe ((wipe σ ws).set w none) vs = wipe σ vs
      rw [wipe_set_in (h w List.mem_cons_self)]
      exact ih fun u hu => h u (List.mem_cons_of_mem _ hu)
  exact key vs fun _ h => h
theorem lct_name {j : Nat} {vs : List Nat} (h : j ∈ vs := by decide) : LcT p (gName j) (gNm j) vs := ⟨fun σ0 H0 G0 H G v d n env env' R r e => by
  unfold gNm at e
  split at e
  · cases e
    refine ⟨(wipe σ0 vs).set j (some v), by rw [wipe_set_in h, wipe_twice], ?_, fun Q q => q⟩
    exact Rs.set R (by rw [← R.len]; assumption) r
  · cases e⟩

/-- [elt for target in ds if ..] -/
def lcGo (ge : D → List Sl → Option (List Sl)) (vs : List Nat) (tt : WT) (te : W) (env : List Sl) : List D → List D → Nat → (List D → Nat → Prop) → Prop
  | [], acc, n, P => P acc n
  | d :: ds, acc, n, P => get (ge d (innE vs env)) fun env' => tt.f ⟨env', n⟩ fun b s1 => if b = true then te.f s1 fun y s2 => acc.length < sizeLine ∧ lcGo ge vs tt te env ds (acc ++ [y]) s2.n P else lcGo ge vs tt te env ds acc s1.n P
theorem lcGo_mono {ge : D → List Sl → Option (List Sl)} {vs : List Nat} {tt : WT} {te : W} {env : List Sl} {P P' : List D → Nat → Prop} (h : ∀ a n, P a n → P' a n) : ∀ (ds acc : List D) (n : Nat), lcGo ge vs tt te env ds acc n P → lcGo ge vs tt te env ds acc n P'
  | [], acc, n, q => h _ _ q
  | d :: ds, acc, n, q => get_mono (fun env' q => tt.mono _ _ _ (fun b s1 q => by
    cases b with
    | true => exact te.mono _ _ _ (fun y s2 q => ⟨q.1, lcGo_mono h ds _ _ q.2⟩) q
    | false => exact lcGo_mono h ds _ _ q) q) q
def wLc (wi : WI) (ge : D → List Sl → Option (List Sl)) (vs : List Nat) (tt : WT) (te : W) : WA := ⟨fun s P => wi.f s fun ds s1 => lcGo ge vs tt te s1.env ds [] s1.n fun acc n => P acc { s1 with n := n },
  fun s P P' h q => wi.mono _ _ _ (fun ds s1 q => lcGo_mono (fun a n q => h _ _ q) _ _ _ q) q⟩
def wtYes : WT := ⟨fun s P => P true s, fun _ _ _ h q => h _ _ q⟩
/-- the block's readings, wherever it starts -/
def liftX (p : Pl) (w : W) : TE := fun σ H Q => ∃ H0 G0, lift ⟨p.K, p.dr, H0, G0⟩ w σ H Q
def liftXT (p : Pl) (w : WT) : TT := fun σ H Q => ∃ H0 G0, liftT ⟨p.K, p.dr, H0, G0⟩ w σ H Q
theorem pe_X {Y : Cx} {e : Expr} {w : W} (h : ∀ H0 G0, PE Y e (lift ⟨p.K, p.dr, H0, G0⟩ w)) : PE Y e (liftX p w) := ⟨fun pins s σ H Q I ⟨H0, G0, k⟩ => (h H0 G0).run pins s σ H Q I k⟩
theorem pts_X {Y : Cx} {es : List Expr} {w : WT} (h : ∀ H0 G0, PTs Y es (liftT ⟨p.K, p.dr, H0, G0⟩ w)) : PTs Y es (liftXT p w) := ⟨fun pins s σ H Q I ⟨H0, G0, k⟩ => (h H0 G0).run pins s σ H Q I k⟩
theorem pts_yes {Y : Cx} : PTs Y [] (liftT p wtYes) := ⟨fun pins s σ H Q I ⟨G, st, R, k⟩ => pts_nil.run pins s σ H Q I (k H G (Same.refl G) R)⟩
theorem lc_lift {wi : WI} {g : TG} {ge : D → List Sl → Option (List Sl)} {vs : List Nat} {tt : WT} {te : W} (T : LcT p g ge vs) (σ : St) (H : Hp) (Q : VK) (h : liftL p (wLc wi ge vs tt te) σ H Q) : tLc (liftI p wi) g (liftXT p tt) (liftX p te) vs σ H Q := by
  obtain ⟨G, s, R, k⟩ := h
  refine ⟨G, s, R, wi.mono _ _ _ (fun ds s1 k1 J H1 G1 e1 R1 src L hL => ?_) k⟩
  have gL : G1 L = none := R1.sub.none hL
  have dL : p.dr ≠ some L := R1.drw.ne hL
  have h0L : p.H0 L = none := R1.base.free dL hL
  have aw := Rs.away R1 hL
  refine ⟨fun i m H' => m = ds.length - i ∧ i ≤ ds.length ∧ ∃ G' n acc accV, Same G1 G' ∧ p.Rs σ H' G' { s1 with n := n } ∧ G' L = none ∧ H' L = some (.lst accV) ∧ p.RpA G' accV acc ∧
    lcGo ge vs tt te s1.env (ds.drop i) acc n (fun acc n => ∀ q xs H' G', Same G G' → p.Rs σ H' G' { s1 with n := n } → p.RpA G' xs acc → H' q = none → Q (.ref q) (upd H' q (.lst xs))),
    ⟨ds.length, by simp, Nat.zero_le _, G1, s1.n, [], [], Same.refl G1, Rs.poke R1 (fun a ha => upd_ne ha) aw gL dL h0L (Soft.none hL), gL, upd_same, .nil, by simpa using k1⟩, ?_⟩
  rintro i m H' ⟨rfl, hi, G', n, acc, accV, e2, R2, g2, l2, ra, k2⟩
  obtain ⟨s1', s2'⟩ := src i H' G' e2 R2.sub
  by_cases hlt : i < ds.length
  · right
    have hd : ds[i]? = some ds[i] := List.getElem?_eq_getElem hlt
    obtain ⟨go, yl⟩ := s1' _ hd
    rw [List.drop_eq_getElem_cons hlt] at k2
    obtain ⟨env', eg, k3⟩ := get_of k2
    refine ⟨go, fun H' => i + 1 ≤ ds.length ∧ ∃ G' n acc accV, Same G1 G' ∧ p.Rs σ H' G' { s1 with n := n } ∧ G' L = none ∧ H' L = some (.lst accV) ∧ p.RpA G' accV acc ∧
      lcGo ge vs tt te s1.env (ds.drop (i + 1)) acc n (fun acc n => ∀ q xs H' G', Same G G' → p.Rs σ H' G' { s1 with n := n } → p.RpA G' xs acc → H' q = none → Q (.ref q) (upd H' q (.lst xs))), fun H2 ⟨z0, z⟩ => ⟨ds.length - (i + 1), by omega, rfl, z0, z⟩, fun x H'' y => ?_⟩
    -- the turn, from a state of both heaps
    have turn : ∀ (H3 G3 : Hp), Same G' G3 → p.Rs σ H3 G3 { s1 with n := n } → G3 L = none → H3 L = some (.lst accV) → p.Rp G3 x ds[i] → g x (wipe σ vs) H3 fun σ2 H2 => wipe σ2 vs = wipe σ vs ∧ liftXT p tt σ2 H2 fun b H3 =>
        if b = true then liftX p te σ2 H3 fun y H4 => ∃ acc, H4 L = some (.lst acc) ∧ acc.length < sizeLine ∧ (i + 1 ≤ ds.length ∧ ∃ G' n acc' accV, Same G1 G' ∧ p.Rs σ (upd H4 L (.lst (acc ++ [y]))) G' { s1 with n := n } ∧ G' L = none ∧ (upd H4 L (.lst (acc ++ [y]))) L = some (.lst accV) ∧ p.RpA G' accV acc' ∧
          lcGo ge vs tt te s1.env (ds.drop (i + 1)) acc' n (fun acc n => ∀ q xs H' G', Same G G' → p.Rs σ H' G' { s1 with n := n } → p.RpA G' xs acc → H' q = none → Q (.ref q) (upd H' q (.lst xs))))
        else i + 1 ≤ ds.length ∧ ∃ G' n acc accV, Same G1 G' ∧ p.Rs σ H3 G' { s1 with n := n } ∧ G' L = none ∧ H3 L = some (.lst accV) ∧ p.RpA G' accV acc ∧
          lcGo ge vs tt te s1.env (ds.drop (i + 1)) acc n (fun acc n => ∀ q xs H' G', Same G G' → p.Rs σ H' G' { s1 with n := n } → p.RpA G' xs acc → H' q = none → Q (.ref q) (upd H' q (.lst xs))) := fun H3 G3 e3 R3 g3 l3 rx => by
      obtain ⟨σ2, w2, R4, kq⟩ := T.run σ H3 G3 H3 G3 x ds[i] n _ env' (Rs.inner R3 vs) rx eg
      refine kq _ ⟨w2, H3, G3, G3, _, R4, tt.mono _ _ _ (fun b sb kb H5 G5 e5 R5 => ?_) k3⟩
      have l5 : H5 L = some (.lst accV) := R5.base.keep L _ dL l3 nt_lst
      have g5 : G5 L = none := R5.new L g3 (by rw [show (⟨p.K, p.dr, H3, G3⟩ : Pl).H0 = H3 from rfl, l3]; exact fun z => by cases z)
      cases b with
      | true =>
        refine ⟨H3, G3, G5, sb, R5, te.mono _ _ _ (fun y s6 k6 v H6 G6 e6 R6 r6 => ?_) kb⟩
        have l6 : H6 L = some (.lst accV) := R6.base.keep L _ dL l3 nt_lst
        have g6 : G6 L = none := R6.new L g3 (by rw [show (⟨p.K, p.dr, H3, G3⟩ : Pl).H0 = H3 from rfl, l3]; exact fun z => by cases z)
        have e36 := e5.trans e6
        have R7 := Rs.call R3 e36 R6.base R6.sub R6.new R6.drw
        refine ⟨accV, l6, by rw [ra.length]; exact k6.1, hlt, G6, s6.n, acc ++ [y], accV ++ [v], (e2.trans e3).trans e36, Rs.poke R7 (fun a ha => upd_ne ha) aw g6 dL h0L (Soft.lst l6), g6, upd_same, (ra.mono (e3.trans e36)).append (.cons r6 .nil), k6.2⟩
      | false =>
        have R7 := Rs.call R3 e5 R5.base R5.sub R5.new R5.drw
        exact ⟨hlt, G5, sb.n, acc, accV, (e2.trans e3).trans e5, R7, g5, l5, ra.mono (e3.trans e5), kb⟩
    rcases yl x H'' y with ⟨rfl, rx⟩ | ⟨q1, o, hq, rfl, rfl, rx⟩
    · exact turn _ G' (Same.refl G') R2 g2 l2 rx
    · have ne : L ≠ q1 := fun z => by
        subst z
        rw [l2] at hq
        cases hq
      obtain ⟨Gn, en, Rn, gn, rn⟩ := R2.fresh (o := o) hq
      exact turn _ _ en Rn (by rw [gn L ne]; exact g2) (by rw [upd_ne ne]; exact l2) (rn _ _ rx)
  · left
    have e0 : i = ds.length := by omega
    subst e0
    rw [List.drop_length] at k2
    refine ⟨s2' (Nat.le_refl _), ?_⟩
    have R3 : p.Rs σ (fun a => if a = L then none else H' a) G' { s1 with n := n } := Rs.poke R2 (fun a ha => if_neg ha) aw g2 dL h0L (Soft.lst l2)
    have q := k2 L accV _ G' (e1.trans e2) R3 ra (if_pos rfl)
    have eH : upd (fun a => if a = L then none else H' a) L (.lst accV) = H' := by
      funext a
      unfold upd
      by_cases h : a = L
      · subst h
        rw [if_pos rfl, l2]
      · rw [if_neg h]
        exact if_neg h
    rw [eH] at q
    exact q
theorem ld_lc {elt tg iter : Expr} {ifs : List Expr} {scope : Scope} {own : List (Str × Nat)} {pos : Pos} {wi : WI} {g : TG} {ge : D → List Sl → Option (List Sl)} {tt : WT} {te : W} (hN : X.N.Nodup) (hi : PI X tg iter (liftI p wi)) (T : LcT p g ge (own.map (·.2))) (ok : blkC X.N X.env.scope scope own = true)
    (hg : ∀ (s : Shared) (H : Hp) (C : Addr) (cl : List (Str × Addr)) (fp : List Addr), PG (X.blk s H scope (compEnvC scope cl C X.env) fp) tg g)
    (ht : ∀ (s : Shared) (H : Hp) (C : Addr) (cl : List (Str × Addr)) (fp : List Addr) (H0 G0 : Hp), PTs (X.blk s H scope (compEnvC scope cl C X.env) fp) ifs (liftT ⟨p.K, p.dr, H0, G0⟩ tt))
    (he : ∀ (s : Shared) (H : Hp) (C : Addr) (cl : List (Str × Addr)) (fp : List Addr) (H0 G0 : Hp), PE (X.blk s H scope (compEnvC scope cl C X.env) fp) elt (lift ⟨p.K, p.dr, H0, G0⟩ te))
    (hc : X.calm = true := by rfl) (hs : ∀ x, foldedSetIterable iter X.env x = pure x := by intro _; rfl) : PE X (.ListComp elt [⟨tg, iter, ifs, 0⟩] scope pos) (liftL p (wLc wi ge (own.map (·.2)) tt te)) :=
  PE.imp (pe_lc (own := own) hc hN hi (blkOk_by ok) hg (fun s H C cl fp => pts_X (ht s H C cl fp)) (fun s H C cl fp => pe_X (he s H C cl fp)) hs) (lc_lift T)
end
end DI
/-! A def by its body, where it is known that no object is being shown; repr; a slot's own list; the law's end. -/
namespace DI
open PySem PySem.Spec PyProof.Rows L2
variable [Nm]
/-- a def's promise, kept where no object is being shown -/
structure FnG (P : Program) (w : World) (K : PySem.W.Frag) (mg : Str → Option Value) (base : Heap) (k : Nat) (f : Addr) (fd : FuncData) (ps : List Str) (sp : Sp) : Prop where
  len : ∀ vs H Q E, sp vs H Q E → vs.length = ps.length
  go : ∀ (A : Around) (callers : List Env) (st : Shared) (H : Hp) (args : Args) (us : List Value) (vs : List V) (Q : VK) (E : XK), Room k A → A.guards = some [] → Env0 P w K mg base A callers st H →
    BindsTo st fd args (ps.zip us) → Vals vs us → sp vs H Q E → codeAny (model P w) A (.call (.ref f) args) (CR CX0 callers P w H st Q E) st
theorem FnG.mono {P : Program} {w : World} {K : PySem.W.Frag} {mg : Str → Option Value} {base : Heap} {j k : Nat} {f : Addr} {fd : FuncData} {ps : List Str} {sp : Sp} (F : FnG P w K mg base j f fd ps sp) (h : j ≤ k) : FnG P w K mg base k f fd ps sp :=
  ⟨F.len, fun A callers st H args us vs Q E hr => F.go A callers st H args us vs Q E (hr.mono h)⟩
section
variable {P : Program} {w : World} {K : PySem.W.Frag} {mg : Str → Option Value} {base : Heap}
theorem fng_of {k : Nat} {f : Addr} {nm qual : Str} {prm : Arguments} {body : List Stmt} {scope : Scope} {dV kV doc pm cdv ct oc : Value} {an od : Option Addr} {osl : Array (Option Value)} {N ps : List Str} {sp : Sp}
    (lk : K.lookup f = some ⟨oc, od, .func (PySem.W.fnOf nm qual prm body scope dV kV doc pm an cdv ct), osl⟩) (hcd : PySem.W.codeIn K cdv qual = true) (Sc : FnScope N ps scope) (len : ∀ vs H Q E, sp vs H Q E → vs.length = ps.length)
    (hbody : ∀ (A : Around) (callers : List Env) (st : Shared) (H : Hp) (vs : List V) (Q : VK) (E : XK), Room k (A.deeper (envOfC qual scope st.heap.objs.size f cdv)) → A.guards = some [] → sp vs H Q E →
      ∃ t, PSs (cxOf CX0 P w K mg base N qual scope f cdv A callers st H E) body t ∧ t { nx := fun _ H' => Q .non H', rt := Q } (L2.start N vs) H) :
    FnG P w K mg base (k + 1) f (PySem.W.fnOf nm qual prm body scope dV kV doc pm an cdv ct) ps sp := by
  refine ⟨len, fun A callers st H args us vs Q E room hga env0 hb rv hsp => ?_⟩
  have kin : K.In st.heap := env0.mod.kin.keeps fun b o e => (env0.bs b o e).1
  have nolim : st.heap.NoLimit := env0.mod.nolimit.keeps fun b o e => (env0.bs b o e).1
  have kinds : ∀ y ∈ ps.zip us, scope.names.lookup y.1 = some .local ∨ (scope.names.lookup y.1 = some .cell ∧ ((cellsFrom (st.heap.objs.size + 1) scope.names []).lookup y.1).isSome = true) := by
    rintro ⟨n, v⟩ hy
    cases Sc.par n (List.of_mem_zip hy).1 with
    | inl q => exact Or.inl q
    | inr q => exact Or.inr ⟨q, PySem.W.cellsFrom_some _ _ _ (Or.inl q)⟩
  refine codeAny_call_function room.depth (kin _ _ lk) rfl Sc.co Sc.gen rfl (PySem.W.codeRec_of kin hcd) (hb _ _ _ _ ?_)
  refine wpAny_newFunctionEnv_cells Sc.kind kinds fun env he st1 ic => ?_
  cases he
  refine ⟨nolim.keeps ic.toInCall.keep, codeAny_func ?_⟩
  obtain ⟨t, ht, tq⟩ := hbody A callers st H vs Q E (room.deeper _) hga hsp
  have I : Inv (cxOf CX0 P w K mg base N qual scope f cdv A callers st H E) [] (L2.start N vs) H st1 := inv_start Sc room.hd env0 (len _ _ _ _ hsp) rv ic
  refine wpAny_mono (ht.run [] st1 (L2.start N vs) H _ I tq) (fun fl st2 hs => ?_) fun _ _ z => z
  cases fl with
  | next =>
    obtain ⟨σ2, H2, J, q⟩ := hs
    exact ⟨.non, H2, J.os, J.bare, J.base, J.hok, rfl, q⟩
  | ret u =>
    obtain ⟨v, σ2, H2, J, r2, q⟩ := hs
    exact ⟨v, H2, J.os, J.bare, J.base, J.hok, r2, q⟩
  | brk =>
    obtain ⟨_, _, _, q⟩ := hs
    exact q.elim
  | cont =>
    obtain ⟨_, _, _, q⟩ := hs
    exact q.elim
end
section
variable {X : Cx} {k : Nat} {f : Addr} {fd : FuncData} {ps : List Str} {sp : Sp} {x : Str} {pf pos : Pos} {e : Expr} {es : List Expr} {t : TA}
theorem run_fng {pins : List (Addr × Obj)} {σ : L2.St} {H : Hp} {st : Shared} {Q : VK} {us : List Value} {vs : List V} (F : FnG X.prog X.w X.K X.mg X.base k f fd ps sp) (room : Room k X.A) (hga : X.A.guards = some []) (hb : Binds X.K fd ps [])
    (I : Inv X pins σ H st) (r : Vals vs us) (h : sp vs H Q E0) : wpAny (model X.prog X.w) X.A (call (.ref f) us) (EP X pins σ Q) X.xe st := by
  have hl : (us ++ []).length = ps.length := by rw [List.append_nil, ← r.length]; exact F.len _ _ _ _ h
  have hb' := hb st us I.kIn hl
  rw [List.append_nil] at hb'
  refine wpAny_call (codeAny_mono (F.go X.A X.stack st H ⟨us, []⟩ us vs Q E0 room hga I.env0 hb' r h) fun res st2 hq => ?_)
  cases res with
  | error err => exact (show False from hq).elim
  | ok fl =>
    cases fl with
    | ret u => exact I.after hq
    | next => exact (show False from hq).elim
    | brk => exact (show False from hq).elim
    | cont => exact (show False from hq).elim
theorem pe_callG (F : FnG X.prog X.w X.K X.mg X.base k f fd ps sp) (room : Room k X.A) (hga : X.A.guards = some []) (hm : X.mg x = some (.ref f)) (hk : PySem.W.keepIn X.K (.ref f) = true) (hb : Binds X.K fd ps []) (ha : PA X (e :: es) t) (hg : Gl X x := by rfl)
    (hdb : (x == ("__debug__" : Str)) = false := by decide) (he : starEach (e :: es) X.env = (false, eval e X.env) :: starEach es X.env := by rfl) (hpl : (backTo pos (starEach es X.env)).any (·.1) = false := by rfl) :
    PE X (.Call (.Name x pf) (e :: es) [] pos) (fun σ H Q => t σ H fun vs H1 => sp vs H1 Q E0) := by
  refine ⟨fun pins st σ H Q I h => wpAny_Call_Name_kw (ld_glob I hg hm ?_ hdb)⟩
  exact PySem.W.callWith_K (h₀ := X.base) I.ok.mod.kin hk (thn (ha.run pos pins st σ H _ I h) fun us st1 ⟨vs, H1, I1, r, q⟩ => ⟨I1.kIn, run_fng F room hga hb I1 r q⟩) he hpl
end

/-! ### a def by data -/
def initSl : Bool → D → Sl
  | true, .lst ds => .bor ds
  | _, d => .val d
def initE : Nat → List Bool → List D → List Sl
  | n, m :: ms, d :: ds => initSl m d :: initE (n - 1) ms ds
  | n, _, _ => List.replicate n .emp
theorem initE_length : ∀ (n : Nat) (ms : List Bool) (ds : List D), ms.length = ds.length → ms.length ≤ n → (initE n ms ds).length = n
  | n, [], [], _, _ => by simp [initE]
  | n, m :: ms, d :: ds, h, hn => by
    simp only [initE, List.length_cons]
    simp only [List.length_cons] at h hn
    rw [initE_length (n - 1) ms ds (by omega) (by omega)]
    omega
  | n, [], d :: ds, h, _ => by simp at h
  | n, m :: ms, [], h, _ => by simp at h
theorem initE_slot {p : Pl} {H G : Hp} (h0 : p.H0 = H) (hs : Sub G H) : ∀ {ms : List Bool} {vs : List V} {ds : List D}, RpM p H G ms vs ds → ∀ (n : Nat) (i : Nat) (x : Sl), (initE n ms ds)[i]? = some x →
    SlR p.K p.dr p.H0 H G (vs.map some ++ List.replicate (n - vs.length) none)[i]? x ∧ (∀ fs, x ≠ .own fs) ∧ ∀ ks fs, x ≠ .dic ks fs
  | _, _, _, .nil, n, i, x, hx => by
    simp only [initE] at hx
    rw [List.getElem?_replicate] at hx
    split at hx <;> cases hx
    exact ⟨trivial, ⟨fun _ z => Sl.noConfusion z, fun _ _ z => Sl.noConfusion z⟩⟩
  | _, _, _, .val r t, n, i, x, hx => by
    simp only [initE] at hx
    cases i with
    | zero =>
      have e : x = .val ‹D› := by
        simp only [List.getElem?_cons_zero, Option.some.injEq] at hx
        subst hx
        rfl
      subst e
      exact ⟨⟨_, rfl, r⟩, ⟨fun _ z => Sl.noConfusion z, fun _ _ z => Sl.noConfusion z⟩⟩
    | succ i =>
      simp only [List.getElem?_cons_succ] at hx
      have q := initE_slot h0 hs t (n - 1) i x hx
      simpa [Nat.sub_sub, Nat.add_comm] using q
  | _, _, _, .bor (d := d) r t, n, i, x, hx => by
    simp only [initE] at hx
    cases i with
    | zero =>
      simp only [List.getElem?_cons_zero, Option.some.injEq] at hx
      subst hx
      cases d with
      | lst ds =>
        obtain ⟨a, xs, rfl, h, k⟩ := r
        exact ⟨⟨a, xs, rfl, h.elim (fun h => .inl ⟨h, fun z => rd_ne h (h0 ▸ z) rfl⟩) .inr, k⟩, ⟨fun _ z => Sl.noConfusion z, fun _ _ z => Sl.noConfusion z⟩⟩
      | _ => exact ⟨⟨_, rfl, r⟩, ⟨fun _ z => Sl.noConfusion z, fun _ _ z => Sl.noConfusion z⟩⟩
    | succ i =>
      simp only [List.getElem?_cons_succ] at hx
      have q := initE_slot h0 hs t (n - 1) i x hx
      simpa [Nat.sub_sub, Nat.add_comm] using q
theorem fnd_of {P : Program} {w : World} {K : PySem.W.Frag} {mg : Str → Option Value} {base : Heap} {nm qual : Str} {st : Stmt} {f : Addr} {fd : FuncData} {N ps : List Str} {k : Nat} {ms : List Bool} {F : FT} {ws : WS} {dr : Option Addr} (U : Fun K nm qual st f fd) (Sc : FnScope N ps (defScope st))
    (hms : ms.length = ps.length)
    (body : ∀ (cdv : Value) (A : Around) (callers : List Env) (s0 : Shared) (H : Hp) (E : XK) (G0 : Hp), Room k (A.deeper (envOfC qual (defScope st) s0.heap.objs.size f cdv)) → A.guards = some [] →
      PSs (cxOf CX0 P w K mg base N qual (defScope st) f cdv A callers s0 H E).nox (defBody st) (liftS ⟨K, dr, H, G0⟩ ws))
    (wp : ∀ ds n Q, ds.length = ms.length → F.f ds n Q → ws.f { nx := fun s => Q .non s.n, rt := fun d s => Q d s.n } ⟨initE N.length ms ds, n⟩) : FnG P w K mg base (k + 1) f fd ps (SpD K dr ms F) := by
  obtain ⟨oc, od, kV, doc, pm, an, cdv, ct, osl, rfl, lk, hcd⟩ := U.ex
  have hle : ps.length ≤ N.length := by
    have h := congrArg List.length Sc.pre
    rw [List.length_take] at h
    omega
  refine fng_of lk hcd Sc (fun vs H Q E h => ?_) fun A callers s0 H vs Q E hr hga hsp => ?_
  · obtain ⟨G, ds, n, _, _, r, _⟩ := h
    rw [r.length.1, hms]
  · obtain ⟨G, ds, n, sub, dw, r, q⟩ := hsp
    refine ⟨_, (body cdv A callers s0 H E G hr hga).nox, ?_⟩
    have hl := r.length
    have slots : ∀ (i : Nat) (x : Sl), (initE N.length ms ds)[i]? = some x → SlR K dr H H G (L2.start N vs)[i]? x ∧ (∀ fs, x ≠ .own fs) ∧ ∀ ks fs, x ≠ .dic ks fs := fun i x hx => initE_slot (p := ⟨K, dr, H, G⟩) rfl sub r N.length i x hx
    refine ⟨G, ⟨initE N.length ms ds, n⟩, _, ⟨sub, Bse.refl, fun a h1 _ => h1, ?_, fun i x hx => (slots i x hx).1, fun i j q1 es fs _ e1 _ _ => absurd rfl ((slots i _ e1).2.1 es), fun i j q1 ks ls es fs _ e1 _ _ => absurd rfl ((slots i _ e1).2.2 ks es), dw⟩, wp ds n _ hl.2 q, ?_⟩
    · rw [initE_length _ _ _ hl.2.symm (by rw [hms]; exact hle)]
      unfold L2.start
      rw [List.length_append, List.length_map, List.length_replicate, hl.1, hms]
      omega
    · exact ⟨fun σ' H' G' s' e R k => k .non H' G' e R.base R.sub R.new R.drw .non, fun v σ' H' G' d s' e R r k => k v H' G' e R.base R.sub R.new R.drw r, fun _ _ _ _ _ _ k => k.elim, fun _ _ _ _ _ _ k => k.elim⟩
section
variable {X : Cx} {p : Pl} {e : Expr} {es : List Expr} {ms : List Bool} {t : WA} {pos : Pos}
theorem pd_callG {F : FT} {k : Nat} {f : Addr} {fd : FuncData} {ps : List Str} {x : Str} {pf : Pos} {K : PySem.W.Frag} {dr : Option Addr} (ok : FnG X.prog X.w X.K X.mg X.base k f fd ps (SpD K dr ms F)) (hr : Room k X.A) (hga : X.A.guards = some []) (hm : X.mg x = some (.ref f)) (hk : PySem.W.keepIn X.K (.ref f) = true) (hb : Binds X.K fd ps [])
    (ha : PA X (e :: es) (liftM p ms t)) (hK : p.K = K := by rfl) (hd : p.dr = dr := by rfl) (hg : Gl X x := by rfl) (hdb : (x == ("__debug__" : Str)) = false := by decide) (he : starEach (e :: es) X.env = (false, eval e X.env) :: starEach es X.env := by rfl) (hpl : (backTo pos (starEach es X.env)).any (·.1) = false := by rfl) :
    PE X (.Call (.Name x pf) (e :: es) [] pos) (lift p (wCall F t)) := by
  subst hK hd
  refine PE.imp (pe_callG ok hr hga hm hk hb ha hg hdb he hpl) fun σ H Q h => ?_
  have q := call_lift (ms := ms) σ H Q h
  obtain ⟨G, s, R, kk⟩ := q
  exact ⟨G, s, R, t.mono _ _ _ (fun ds s1 k1 vs H1 G1 e1 R1 r1 => by
    have z : SpD p.K p.dr ms F (vs ++ []) H1 Q E0 := k1 vs H1 G1 e1 R1 r1
    rw [List.append_nil] at z
    exact z) kk⟩

/-! ### a slot's own list -/
def ownE (env : List Sl) (i : Nat) : Option (List D) := match env[i]? with
  | some (.own ds) => some ds
  | _ => none
theorem ownE_of {env : List Sl} {i : Nat} {ds : List D} (h : ownE env i = some ds) : env[i]? = some (.own ds) := by
  unfold ownE at h
  cases e : env[i]? with
  | none => rw [e] at h; cases h
  | some x =>
    rw [e] at h
    cases x <;> cases h
    rfl
/-- x.append(e) -/
def wApp (i : Nat) (w : W) : WS := ⟨fun E s => get (ownE s.env i) fun _ => w.f s fun d s1 => get (ownE s1.env i) fun ds => ds.length < sizeLine ∧ E.nx { s1 with env := s1.env.set i (.own (ds ++ [d])) },
  fun E E' s h q => get_mono (fun _ q => w.mono _ _ _ (fun d s1 q => get_mono (fun ds q => ⟨q.1, h.nx _ q.2⟩) q) q) q⟩
theorem sd_app (i : Nat) {x : Str} {apos p1 cpos : Pos} {a : Expr} {w : W} (hv : PE X (.Name x p1) (tVar i)) (ha : PE X a (lift p w)) (hbase : attributeBase (.Name x p1) "append" X.env (eval (.Name x p1) X.env) = eval (.Name x p1) X.env := by rfl)
    (hfew : ((backTo cpos (starEach (a :: []) X.env)).all (fun x => !x.1) && (backToKw cpos (keywordEach [] X.env)).all (fun x => x.1.isSome) && decide ((a :: ([] : List Expr)).length + ([] : List Keyword).length + (if ([] : List Keyword).isEmpty then 0 else 1) < 30)) = true := by rfl)
    (hline : (apos.endLine == cpos.line) = true := by rfl) (hs : starEach (a :: []) X.env = (false, eval a X.env) :: starEach [] X.env := by rfl) (hplain : (backTo cpos (starEach [] X.env)).any (·.1) = false := by rfl)
    (hsw : swapsWith (.Call (.Attribute (.Name x p1) "append" apos) [a] [] cpos) none pos.line X.env = pure false := by rfl) (hK : p.K = X.K := by rfl) :
    PS X (.Expr (.Call (.Attribute (.Name x p1) "append" apos) [a] [] cpos) pos) (liftS p (wApp i w)) :=
  PS.imp (ps_expr (pe_bm PySem.F.plainAttrs_list PySem.F.slot_list_append PySem.F.type_list_append mt_append hv (pa_cons ha pa_nil hs) hbase hfew hline hs hplain) hsw) fun D σ H ⟨G, s, E, R, k, q⟩ => by
    obtain ⟨ds0, e0, k1⟩ := get_of k
    obtain ⟨l, xs0, el, hl, _⟩ := R.slot i _ (ownE_of e0)
    refine ⟨.ref l, el, .inl ⟨rfl, xs0, SqL.of hl⟩, G, s, R, w.mono _ _ _ (fun d s1 k2 v H1 G1 e1 R1 r1 => ?_) k1⟩
    obtain ⟨ds, e2, hz, kn⟩ := get_of k2
    obtain ⟨l', xs, el', hl', g1, _, _, ra⟩ := R1.slot i _ (ownE_of e2)
    rw [el] at el'
    cases el'
    exact ⟨l, xs, v, rfl, rfl, hl', by rw [ra.length]; exact hz, q.nx σ _ G1 _ e1 (R1.write (ownE_of e2) el (ra.append (.cons r1 .nil))) kn⟩
/-- x.pop() -/
def wPop (i : Nat) : W := ⟨fun s P => get (ownE s.env i) fun ds => get ds[ds.length - 1]? fun d => P d { s with env := s.env.set i (.own ds.dropLast) }, fun s P P' h q => get_mono (fun ds q => get_mono (fun d q => h _ _ q) q) q⟩
theorem pd_pop (i : Nat) {x : Str} {apos p1 : Pos} (hv : PE X (.Name x p1) (tVar i)) (hbase : attributeBase (.Name x p1) "pop" X.env (eval (.Name x p1) X.env) = eval (.Name x p1) X.env := by rfl) (hline : (apos.endLine == pos.line) = true := by rfl) :
    PE X (.Call (.Attribute (.Name x p1) "pop" apos) [] [] pos) (lift p (wPop i)) :=
  PE.imp (pe_bm0 PySem.F.plainAttrs_list PySem.F.slot_list_pop PySem.F.type_list_pop mt_pop hv hbase hline) fun σ H Q ⟨G, s, R, k⟩ => by
    obtain ⟨ds, e0, k1⟩ := get_of k
    obtain ⟨d, ed, kd⟩ := get_of k1
    obtain ⟨l, xs, el, hl, g1, _, _, ra⟩ := R.slot i _ (ownE_of e0)
    obtain ⟨v, ev, rv⟩ := ra.get ed
    exact ⟨.ref l, el, .inl ⟨rfl, xs, SqL.of hl⟩, l, xs, v, rfl, rfl, hl, by rw [ra.length]; exact ev, kd v _ G (Same.refl G) (R.write (ownE_of e0) el ra.dropLast) rv⟩
end
end DI
/-! Further rules: * and **, min, three targets, in over nested data, repr, keywords, dict cells of the draws. -/
namespace DI
open PySem L2
variable [Nm]
section
variable {X : Cx} {p : Pl} {e a b : Expr} {es : List Expr} {pos : Pos} {w wa wb : W} {ms : List Bool} {t : WA}
abbrev gMulI : D → D → Option D := gI fun i j => .int (i * j)
abbrev cMul : D → D → Prop := cI CMul
abbrev gPow : D → D → Option D := gI fun i j => .int (i ^ j.toNat)
abbrev cPow : D → D → Prop := cI CPow
theorem pd_mul (ha : PE X a (lift p wa)) (hb : PE X b (lift p wb)) : PE X (.BinOp a .Mult b pos) (lift p (wBin cMul gMulI wa wb)) := PE.imp (pe_op op_mul ha hb) (op_lift od_I)
theorem pd_pow (ha : PE X a (lift p wa)) (hb : PE X b (lift p wb)) : PE X (.BinOp a .Pow b pos) (lift p (wBin cPow gPow wa wb)) := PE.imp (pe_op op_pow ha hb) (op_lift od_I)
/-- min of two ints -/
def gMin : List D → Option D
  | [.int i, .int j] => some (.int (if j < i then j else i))
  | _ => none
theorem bt_min (hc : X.calm = true := by rfl) : BtR X p "min" [false, false] c0 gMin := ⟨.inl ⟨_, _, by decide +kernel, call_min2 hc, fun G H vs ds d Q hs r hc hg k1 k2 => by
  cases r with
  | val r1 t =>
    cases t with
    | val r2 t =>
      cases t
      cases r1 <;> cases r2 <;> simp only [gMin] at hg <;> cases hg
      exact ⟨_, _, rfl, k1 _ (.int _)⟩⟩⟩
/-- a, b, c = x, y, z: plain values -/
def wPar3 (i j l : Nat) (t : WA) : WS := ⟨fun E s => t.f s fun ds s1 => ∃ d1 d2 d3, ds = [d1, d2, d3] ∧ i < s1.env.length ∧ j < s1.env.length ∧ l < s1.env.length ∧ E.nx { s1 with env := ((s1.env.set i (.val d1)).set j (.val d2)).set l (.val d3) },
  fun E E' s h q => t.mono _ _ _ (fun ds s1 ⟨d1, d2, d3, e, h1, h2, h3, q⟩ => ⟨d1, d2, d3, e, h1, h2, h3, h.nx _ q⟩) q⟩
/-! ### in over nested data -/
/-! ### repr -/
def gRepr : List D → Option D
  | [d] => some (.str (toPy d).shown)
  | _ => none
def cRepr : List D → Prop
  | [d] => plain d = true ∧ (toPy d).showable = true ∧ (toPy d).hasDict = false ∧ (toPy d).depth ≤ 60 ∧ (toPy d).shown.length ≤ sizeLine
  | _ => False
def rRepr (K : PySem.W.Frag) : List V → Hp → VK → Prop := fun vs H Q => ∃ v d, vs = [v] ∧ Dp K H v d ∧ d.showable = true ∧ d.hasDict = false ∧ d.depth ≤ 60 ∧ d.shown.length ≤ sizeLine ∧ Q (.str d.shown) H
theorem call_reprD {k : Nat} (hr : Room k X.A) (hga : X.A.guards = some []) : CallR X (.builtin "repr") (rRepr X.K) := by
  intro pins st σ H xs us Q I r h
  obtain ⟨v, d, rfl, hd, hs, hn, hdp, hz, q⟩ := h
  obtain ⟨u, rfl, rv⟩ := vals1 r
  obtain ⟨as, hrd⟩ := Dp.reads I d v u hd rv
  have hun := hr.un
  cases hd with
  | non =>
    cases rv
    simp only [PyData.shown] at q
    exact PySem.P.repr_of_none ⟨.str _, H, I.tok _, ⟨_, rfl⟩, q⟩
  | bl b =>
    cases rv
    simp only [PyData.shown] at q
    exact PySem.P.repr_of_bool ⟨.str _, H, I.tok _, ⟨_, rfl⟩, q⟩
  | int i =>
    obtain ⟨tk, rfl⟩ := rv
    simp only [PyData.shown] at q
    exact PySem.P.repr_of_int (by simpa [PyData.showable] using hs) ⟨.str _, H, I.tok _, ⟨_, rfl⟩, q⟩
  | str z =>
    obtain ⟨tk, rfl⟩ := rv
    simp only [PyData.shown] at q hz
    exact PySem.P.repr_of_str ⟨.str _, H, I.tok _, ⟨_, rfl⟩, q⟩ hz
  | lst h1 h2 =>
    cases rv
    exact PySem.repr_of_reads' hrd hs (PyData.noDict_hsm hn) hga (by omega) (fun _ _ z => z) (fun h' u' tk hk => ⟨.str _, H, I.kept (t' := tk) hk, ⟨_, rfl⟩, q⟩) hz
  | tup h1 h2 =>
    cases rv
    exact PySem.repr_of_reads' hrd hs (PyData.noDict_hsm hn) hga (by omega) (fun _ _ z => z) (fun h' u' tk hk => ⟨.str _, H, I.kept (t' := tk) hk, ⟨_, rfl⟩, q⟩) hz
theorem bt_repr {m : Bool} {k : Nat} (hr : Room k X.A) (hga : X.A.guards = some []) (hK : p.K = X.K := by rfl) : BtR X p "repr" [m] cRepr gRepr := ⟨.inl ⟨_, _, by decide +kernel, call_reprD hr hga, fun G H vs ds d Q hs r hc hg k1 k2 => by
  obtain ⟨v, d0, rfl, rfl, rb⟩ := rm1 hs r
  cases hg
  obtain ⟨h1, h2, h3, h4, h5⟩ := hc
  exact ⟨v, toPy d0, rfl, hK ▸ rb_dp hs rb h1, h2, h3, h4, h5, k1 _ (.str _)⟩⟩⟩

/-! ### a call by keywords, in the parameters' order -/
structure PKd (X : Cx) (p : Pl) (kws : List Keyword) (n : Nat) (t : WA) : Prop where
  pk : PK X kws (liftM p (List.replicate n false) t)
theorem kd_nil : PKd X p [] 0 waNil := ⟨⟨fun pos pins st σ H Q I ⟨G, s, R, k⟩ => (pk_nil (X := X)).run pos pins st σ H Q I (k [] H G (Same.refl G) R .nil)⟩⟩
theorem kd_cons {nm : Option Str} {kpos : Pos} {kws : List Keyword} {n : Nat} (h : PE X e (lift p w)) (ht : PKd X p kws n t) : PKd X p (⟨nm, e, kpos⟩ :: kws) (n + 1) (waCons w t) :=
  ⟨⟨fun pos pins st σ H Q I ⟨G, s, R, k⟩ => (pk_cons (nm := nm) (kpos := kpos) h ht.pk).run pos pins st σ H Q I ⟨G, s, R, w.mono _ _ _ (fun d s1 k1 v H1 G1 e1 R1 r1 => ⟨G1, s1, R1, t.mono _ _ _ (fun ds s2 k2 vs H2 G2 e2 R2 r2 => k2 _ H2 G2 (e1.trans e2) R2 (.val (r1.mono e2) r2)) k1⟩) k⟩⟩⟩
theorem pd_callK {F : FT} {k : Nat} {f : Addr} {fd : FuncData} {ps ks : List Str} {x : Str} {pf : Pos} {K : PySem.W.Frag} {dr : Option Addr} {kws : List Keyword} {n : Nat} (ok : FnG X.prog X.w X.K X.mg X.base k f fd ps (SpD K dr (List.replicate n false) F)) (room : Room k X.A) (hga : X.A.guards = some []) (hm : X.mg x = some (.ref f)) (hk : PySem.W.keepIn X.K (.ref f) = true)
    (hb : ∀ (s : Shared) (ws : List Value), ws.length = ps.length → BindsTo s fd ⟨[], ks.zip ws⟩ (ps.zip ws)) (ha : PKd X p kws n t) (hK : p.K = K := by rfl) (hd : p.dr = dr := by rfl) (hg : Gl X x := by rfl) (hdb : (x == ("__debug__" : Str)) = false := by decide)
    (hall : (backToKw pos (keywordEach kws X.env)).all (·.1.isSome) = true := by rfl) (hks : (backToKw pos (keywordEach kws X.env)).filterMap (·.1) = ks := by rfl)
    (hpl : ((backTo pos (starEach [] X.env)).any (·.1) || (backToKw pos (keywordEach kws X.env)).any (·.1.isNone)) = false := by rfl) :
    PE X (.Call (.Name x pf) [] kws pos) (lift p (wCall F t)) := by
  subst hK hd
  refine ⟨fun pins st σ H Q I h => wpAny_Call_Name_kw (ld_glob I hg hm ?_ hdb)⟩
  obtain ⟨G, s, R, kk⟩ := call_lift (ms := List.replicate n false) σ H Q h
  refine PySem.W.callWith_KW0 (h₀ := X.base) I.ok.mod.kin hk hall (thn (ha.pk.run pos pins st σ H (fun vs H1 => SpD p.K p.dr (List.replicate n false) F vs H1 Q E0) I ⟨G, s, R, t.mono _ _ _ (fun ds s1 k1 vs H1 G1 e1 R1 r1 => ?_) kk⟩) fun ws st2 ⟨zs, H2, I2, rz, q2⟩ => ⟨I2.kIn, ?_⟩) hpl
  · have z : SpD p.K p.dr (List.replicate n false) F (vs ++ []) H1 Q E0 := k1 vs H1 G1 e1 R1 r1
    rw [List.append_nil] at z
    exact z
  · rw [hks]
    have hl : ws.length = ps.length := by rw [← rz.length]; exact ok.len _ _ _ _ q2
    refine wpAny_call (codeAny_mono (ok.go X.A X.stack st2 H2 ⟨[], ks.zip ws⟩ ws zs Q E0 room hga I2.env0 (hb st2 ws hl) rz q2) fun res st3 hq => ?_)
    cases res with
    | error err => exact (show False from hq).elim
    | ok fl =>
      cases fl with
      | ret u => exact I2.after hq
      | next => exact (show False from hq).elim
      | brk => exact (show False from hq).elim
      | cont => exact (show False from hq).elim
end
end DI
/-! The draws. -/
namespace DI
open PySem PySem.Spec PyProof.Rows L2
variable [Nm]
theorem kAt : ¬ (("cells" : Str) = "at") ∧ ¬ (("cells" : Str) = "left") ∧ ¬ (("cells" : Str) = "used") ∧ ¬ (("at" : Str) = "left") ∧ ¬ (("at" : Str) = "used") ∧ ¬ (("left" : Str) = "used") := by decide +kernel
theorem drw_cells {L : Addr} {a l u : Int} : valV (drwK L a l u) (Sum.inr "cells" : Key) = some (.ref L) := valV_pos rfl
theorem drw_at {L : Addr} {a l u : Int} : valV (drwK L a l u) (Sum.inr "at" : Key) = some (.int a) := by
  unfold drwK
  rw [valV_neg (by intro z; exact kAt.1 (Sum.inr.inj z)), valV_pos rfl]
theorem drw_left {L : Addr} {a l u : Int} : valV (drwK L a l u) (Sum.inr "left" : Key) = some (.int l) := by
  unfold drwK
  rw [valV_neg (by intro z; exact kAt.2.1 (Sum.inr.inj z)), valV_neg (by intro z; exact kAt.2.2.2.1 (Sum.inr.inj z)), valV_pos rfl]
theorem drw_used {L : Addr} {a l u : Int} : valV (drwK L a l u) (Sum.inr "used" : Key) = some (.int u) := by
  unfold drwK
  rw [valV_neg (by intro z; exact kAt.2.2.1 (Sum.inr.inj z)), valV_neg (by intro z; exact kAt.2.2.2.2.1 (Sum.inr.inj z)), valV_neg (by intro z; exact kAt.2.2.2.2.2 (Sum.inr.inj z)), valV_pos rfl]
theorem put_at {L : Addr} {a l u y : Int} : putK (drwK L a l u) (Sum.inr "at" : Key) (.int y) = drwK L y l u := by
  obtain ⟨h1, h2, h3, h4, h5, h6⟩ := kAt
  have g1 : ¬ (("at" : Str) = "cells") := fun z => h1 z.symm
  have g2 : ¬ (("left" : Str) = "cells") := fun z => h2 z.symm
  have g3 : ¬ (("used" : Str) = "cells") := fun z => h3 z.symm
  have g4 : ¬ (("left" : Str) = "at") := fun z => h4 z.symm
  have g5 : ¬ (("used" : Str) = "at") := fun z => h5 z.symm
  have g6 : ¬ (("used" : Str) = "left") := fun z => h6 z.symm
  simp [putK, drwK, h1, h2, h3, h4, h5, h6, g1, g2, g3, g4, g5, g6]
theorem put_left {L : Addr} {a l u y : Int} : putK (drwK L a l u) (Sum.inr "left" : Key) (.int y) = drwK L a y u := by
  obtain ⟨h1, h2, h3, h4, h5, h6⟩ := kAt
  have g1 : ¬ (("at" : Str) = "cells") := fun z => h1 z.symm
  have g2 : ¬ (("left" : Str) = "cells") := fun z => h2 z.symm
  have g3 : ¬ (("used" : Str) = "cells") := fun z => h3 z.symm
  have g4 : ¬ (("left" : Str) = "at") := fun z => h4 z.symm
  have g5 : ¬ (("used" : Str) = "at") := fun z => h5 z.symm
  have g6 : ¬ (("used" : Str) = "left") := fun z => h6 z.symm
  simp [putK, drwK, h1, h2, h3, h4, h5, h6, g1, g2, g3, g4, g5, g6]
theorem put_used {L : Addr} {a l u y : Int} : putK (drwK L a l u) (Sum.inr "used" : Key) (.int y) = drwK L a l y := by
  obtain ⟨h1, h2, h3, h4, h5, h6⟩ := kAt
  have g1 : ¬ (("at" : Str) = "cells") := fun z => h1 z.symm
  have g2 : ¬ (("left" : Str) = "cells") := fun z => h2 z.symm
  have g3 : ¬ (("used" : Str) = "cells") := fun z => h3 z.symm
  have g4 : ¬ (("left" : Str) = "at") := fun z => h4 z.symm
  have g5 : ¬ (("used" : Str) = "at") := fun z => h5 z.symm
  have g6 : ¬ (("used" : Str) = "left") := fun z => h6 z.symm
  simp [putK, drwK, h1, h2, h3, h4, h5, h6, g1, g2, g3, g4, g5, g6]
/-- _law_next: some number below the bound; more draws -/
def fNext : FT := ⟨fun ds n Q => ∃ b : Int, ds = [.drw, .int b] ∧ n < 2 ^ 60 ∧ 0 < b ∧ b < 1073741824 ∧ ∀ r : Int, 0 ≤ r → r < b → Q (.int r) (n + 2),
  fun ds n P P' h ⟨b, e, h1, h2, h3, q⟩ => ⟨b, e, h1, h2, h3, fun r r0 r1 => h _ _ (q r r0 r1)⟩⟩
/-- _law_mixed: some number -/
def fMix : FT := ⟨fun ds n Q => ∃ c k : Int, ds = [.int c, .int k] ∧ 0 ≤ k ∧ k < 2 ^ 62 ∧ ∀ r : Int, Q (.int r) n, fun ds n P P' h ⟨c, k, e, h1, h2, q⟩ => ⟨c, k, e, h1, h2, fun r => h _ _ (q r)⟩⟩
/-- the dict's cells are written -/
theorem drw_write {G H : Hp} {a L : Addr} {ns : List Int} {x l u : Int} {n m : Nat} (d : DrwAt G H a n) (h : G L = some (.lst (ns.map V.int))) (o : DrwOk ns x l u m) : DrwAt G (upd H a (.dK (drwK L x l u))) a m :=
  ⟨d.free, L, ns, x, l, u, upd_same, h, o⟩
section
variable {X : Cx} {p : Pl} {e o : Expr} {pos : Pos} {w : W}
theorem Rs.dwrite {σ : L2.St} {H G : Hp} {s : S} {a L : Addr} {ns : List Int} {x l u : Int} {m : Nat} (R : p.Rs σ H G s) (ea : p.dr = some a) (h : G L = some (.lst (ns.map V.int))) (k : DrwOk ns x l u m) : p.Rs σ (upd H a (.dK (drwK L x l u))) G { s with n := m } := by
  have d := R.drw a ea
  obtain ⟨_, L1, _, x1, l1, u1, hd1, _, _⟩ := id d
  refine Rs.call R (Same.refl G) (Bse.refl.upd (fun b hb => upd_ne hb) (Soft.dK hd1) (.inr ea)) ⟨fun b o e => ?_, R.sub.nt⟩ (fun b e _ => e) (fun b eb => ?_)
  · have ne : b ≠ a := fun z => by
      rw [z, d.free] at e
      cases e
    rw [upd_ne ne]
    exact R.sub b o e
  · rw [ea] at eb
    cases eb
    exact drw_write d h k
theorem vget_drw {σ : L2.St} {H G : Hp} {s : S} {i : Nat} (R : p.Rs σ H G s) (h : vget s.env i = some .drw) : ∃ a, σ[i]? = some (some (.ref a)) ∧ p.dr = some a := by
  obtain ⟨v, e, r⟩ := vget_rb R h
  cases r with
  | drw h _ => exact ⟨_, e, h⟩
/-- draw["left"] -/
def wDgL (i : Nat) : W := ⟨fun s P => vget s.env i = some .drw ∧ ∀ l : Int, P (.int l) s, fun s P P' h q => ⟨q.1, fun l => h _ _ (q.2 l)⟩⟩
/-- draw["at"], draw["used"] -/
def wDgA (i : Nat) : W := ⟨fun s P => vget s.env i = some .drw ∧ ∀ l : Int, 0 ≤ l → l ≤ s.n → P (.int l) s, fun s P P' h q => ⟨q.1, fun l h1 h2 => h _ _ (q.2 l h1 h2)⟩⟩
/-- draw["cells"] -/
def wDgC (i : Nat) : W := ⟨fun s P => vget s.env i = some .drw ∧ ∀ ns : List Int, 0 < ns.length → ns.length ≤ 64 → P (.lst (ns.map D.int)) s, fun s P P' h q => ⟨q.1, fun l h1 h2 => h _ _ (q.2 l h1 h2)⟩⟩
theorem dgL_of {k : Nat} (hr : Room k X.A) (i : Nat) {j : Nat} {p1 : Pos} (ho : PE X o (tVar i)) : PE X (.Subscript o (.Constant (.str "left") j p1) pos) (lift p (wDgL i)) :=
  PE.imp (pe_dget (hu_of hr) ho pe_str (fun _ _ => rfl)) fun σ H Q ⟨G, s, R, h, k⟩ => by
    obtain ⟨a, ev, ea⟩ := vget_drw R h
    obtain ⟨f, L, ns, x, l, u, e1, e2, _⟩ := R.drw a ea
    exact ⟨_, ev, a, _, rfl, by rw [← drw_left (L := L) (a := x) (l := l) (u := u)]; exact DGet.k (k := Sum.inr "left") e1, k l _ H G (Same.refl G) R (.int l)⟩
theorem dgA_of {k : Nat} (hr : Room k X.A) (i : Nat) {j : Nat} {p1 : Pos} (ho : PE X o (tVar i)) : PE X (.Subscript o (.Constant (.str "at") j p1) pos) (lift p (wDgA i)) :=
  PE.imp (pe_dget (hu_of hr) ho pe_str (fun _ _ => rfl)) fun σ H Q ⟨G, s, R, h, k⟩ => by
    obtain ⟨a, ev, ea⟩ := vget_drw R h
    obtain ⟨f, L, ns, x, l, u, e1, e2, ok⟩ := R.drw a ea
    exact ⟨_, ev, a, _, rfl, by rw [← drw_at (L := L) (a := x) (l := l) (u := u)]; exact DGet.k (k := Sum.inr "at") e1, k x ok.a0 ok.an _ H G (Same.refl G) R (.int x)⟩
theorem dgU_of {k : Nat} (hr : Room k X.A) (i : Nat) {j : Nat} {p1 : Pos} (ho : PE X o (tVar i)) : PE X (.Subscript o (.Constant (.str "used") j p1) pos) (lift p (wDgA i)) :=
  PE.imp (pe_dget (hu_of hr) ho pe_str (fun _ _ => rfl)) fun σ H Q ⟨G, s, R, h, k⟩ => by
    obtain ⟨a, ev, ea⟩ := vget_drw R h
    obtain ⟨f, L, ns, x, l, u, e1, e2, ok⟩ := R.drw a ea
    exact ⟨_, ev, a, _, rfl, by rw [← drw_used (L := L) (a := x) (l := l) (u := u)]; exact DGet.k (k := Sum.inr "used") e1, k u ok.u0 ok.un _ H G (Same.refl G) R (.int u)⟩
theorem dgC_of {k : Nat} (hr : Room k X.A) (i : Nat) {j : Nat} {p1 : Pos} (ho : PE X o (tVar i)) : PE X (.Subscript o (.Constant (.str "cells") j p1) pos) (lift p (wDgC i)) :=
  PE.imp (pe_dget (hu_of hr) ho pe_str (fun _ _ => rfl)) fun σ H Q ⟨G, s, R, h, k⟩ => by
    obtain ⟨a, ev, ea⟩ := vget_drw R h
    obtain ⟨f, L, ns, x, l, u, e1, e2, ok⟩ := R.drw a ea
    refine ⟨_, ev, a, _, rfl, by rw [← drw_cells (L := L) (a := x) (l := l) (u := u)]; exact DGet.k (k := Sum.inr "cells") e1, k ns ok.ne ok.le _ H G (Same.refl G) R (.lst e2 ?_)⟩
    exact RpA.ints ns
/-- draw["left"] = e -/
def wDpL (i : Nat) (w : W) : WS := ⟨fun E s => w.f s fun d s1 => vget s1.env i = some .drw ∧ ∃ (y : Int) (m : Nat), d = .int y ∧ s1.n ≤ m ∧ E.nx { s1 with n := m }, fun E E' s h q => w.mono _ _ _ (fun d s1 ⟨a, y, m, b, c, q⟩ => ⟨a, y, m, b, c, h.nx _ q⟩) q⟩
/-- draw["at"] = e, draw["used"] = e -/
def wDpA (i : Nat) (w : W) : WS := ⟨fun E s => w.f s fun d s1 => vget s1.env i = some .drw ∧ ∃ (y : Int), d = .int y ∧ 0 ≤ y ∧ y ≤ s1.n + 1 ∧ E.nx { s1 with n := s1.n + 1 }, fun E E' s h q => w.mono _ _ _ (fun d s1 ⟨a, y, b, c, e, q⟩ => ⟨a, y, b, c, e, h.nx _ q⟩) q⟩
theorem small4 {L : Addr} {a l u : Int} : (drwK L a l u).length < sizeLine := by show 4 < sizeLine; decide
theorem sdpL {k : Nat} (hr : Room k X.A) (i : Nat) {j : Nat} {p1 p2 : Pos} (ho : PE X o (tVar i)) (he : PE X e (lift p w)) (hs : swapsWith e (some (.Subscript o (.Constant (.str "left") j p1) p2)) pos.line X.env = pure false := by rfl) : PS X (.Assign [.Subscript o (.Constant (.str "left") j p1) p2] e pos) (liftS p (wDpL i w)) :=
  PS.imp (ps_dput (hu_of hr) ho pe_str he hs) fun D σ H ⟨G, s, E, R, k, q⟩ => ⟨G, s, R, w.mono _ _ _ (fun d s1 ⟨h, y, m, ed, hm, k1⟩ v H1 G1 e1 R1 r1 => by
    subst ed
    cases r1
    obtain ⟨a, ev, ea⟩ := vget_drw R1 h
    obtain ⟨f, L, ns, x, l, u, z1, z2, ok⟩ := R1.drw a ea
    refine ⟨_, ev, a, _, rfl, DPut.k (k := Sum.inr "left") z1 small4, ?_⟩
    rw [put_left]
    exact q.nx σ _ G1 _ e1 (R1.dwrite ea z2 ⟨ok.ne, ok.le, ok.a0, by have := ok.an; omega, ok.u0, by have := ok.un; omega⟩) k1) k⟩
theorem sdpA {k : Nat} (hr : Room k X.A) (i : Nat) {j : Nat} {p1 p2 : Pos} (ho : PE X o (tVar i)) (he : PE X e (lift p w)) (hs : swapsWith e (some (.Subscript o (.Constant (.str "at") j p1) p2)) pos.line X.env = pure false := by rfl) : PS X (.Assign [.Subscript o (.Constant (.str "at") j p1) p2] e pos) (liftS p (wDpA i w)) :=
  PS.imp (ps_dput (hu_of hr) ho pe_str he hs) fun D σ H ⟨G, s, E, R, k, q⟩ => ⟨G, s, R, w.mono _ _ _ (fun d s1 ⟨h, y, ed, h0, h1, k1⟩ v H1 G1 e1 R1 r1 => by
    subst ed
    cases r1
    obtain ⟨a, ev, ea⟩ := vget_drw R1 h
    obtain ⟨f, L, ns, x, l, u, z1, z2, ok⟩ := R1.drw a ea
    refine ⟨_, ev, a, _, rfl, DPut.k (k := Sum.inr "at") z1 small4, ?_⟩
    rw [put_at]
    exact q.nx σ _ G1 _ e1 (R1.dwrite ea z2 ⟨ok.ne, ok.le, h0, by omega, ok.u0, by have := ok.un; omega⟩) k1) k⟩
theorem sdpU {k : Nat} (hr : Room k X.A) (i : Nat) {j : Nat} {p1 p2 : Pos} (ho : PE X o (tVar i)) (he : PE X e (lift p w)) (hs : swapsWith e (some (.Subscript o (.Constant (.str "used") j p1) p2)) pos.line X.env = pure false := by rfl) : PS X (.Assign [.Subscript o (.Constant (.str "used") j p1) p2] e pos) (liftS p (wDpA i w)) :=
  PS.imp (ps_dput (hu_of hr) ho pe_str he hs) fun D σ H ⟨G, s, E, R, k, q⟩ => ⟨G, s, R, w.mono _ _ _ (fun d s1 ⟨h, y, ed, h0, h1, k1⟩ v H1 G1 e1 R1 r1 => by
    subst ed
    cases r1
    obtain ⟨a, ev, ea⟩ := vget_drw R1 h
    obtain ⟨f, L, ns, x, l, u, z1, z2, ok⟩ := R1.drw a ea
    refine ⟨_, ev, a, _, rfl, DPut.k (k := Sum.inr "used") z1 small4, ?_⟩
    rw [put_used]
    exact q.nx σ _ G1 _ e1 (R1.dwrite ea z2 ⟨ok.ne, ok.le, ok.a0, by have := ok.an; omega, h0, by omega⟩) k1) k⟩
end
end DI
/-! The law is called where no object is being shown; defs, constants, empty dicts by data. -/
namespace DI
open PySem PySem.Spec PyProof.Rows L2
variable [Nm]
section
variable {P : Program} {w : World} {K : PySem.W.Frag} {mg mb : Str → Option Value} {k : Nat} {fa a : Addr} {fd : FuncData} {x : Str} {sp : Sp} {s₁ : Shared} {vs : List Value} {ns : List Int}
end

section
variable {P : Program} {w : World} {K : PySem.W.Frag} {mg mb : Str → Option Value} {k : Nat} {fa a : Addr} {fd : FuncData} {x : Str} {sp : Sp} {s₁ : Shared} {vs : List Value} {ns : List Int}
end
/-! ### a def by its name -/
/-- a def of the top, by its promise on data -/
structure Dn (P : Program) (w : World) (K : PySem.W.Frag) (mg : Str → Option Value) (base : Heap) (k : Nat) (x : Str) (ps : List Str) (F : FT) : Prop where
  ex : ∃ (f : Addr) (fd : FuncData), mg x = some (.ref f) ∧ PySem.W.keepIn K (.ref f) = true ∧ Binds K fd ps [] ∧
    (∀ (s : Shared) (us : List Value), us.length = ps.length → BindsTo s fd ⟨[], ps.zip us⟩ (ps.zip us)) ∧ ∀ dr, FnG P w K mg base k f fd ps (SpD K dr (List.replicate ps.length false) F)
/-- a constant of the top -/
def Gc (K : PySem.W.Frag) (mg : Str → Option Value) (x : Str) (d : D) : Prop := ∃ (v : V) (u : Value), mg x = some u ∧ RelV v u ∧ ∀ dr G, Rp K dr G v d
section
variable {X : Cx} {p : Pl} {e : Expr} {es : List Expr} {t : WA} {pos pf : Pos} {x : Str} {ps : List Str} {F : FT} {k : Nat}
theorem pd_const {d : D} (h : Gc X.K X.mg x d) (hg : Gl X x := by rfl) (hK : p.K = X.K := by rfl) (hd : (x == ("__debug__" : Str)) = false := by decide) : PE X (.Name x pos) (lift p (wC d)) := by
  obtain ⟨v, u, h1, h2, h3⟩ := h
  exact pd_glob hg h1 h2 (fun G => by
    have z := h3 p.dr G
    rw [← hK] at z
    exact z) hd
theorem pd_cl (D : Dn X.prog X.w X.K X.mg X.base k x ps F) {j : Nat} (hr : Room j X.A) (hj : k ≤ j) (hga : X.A.guards = some []) (ha : PA X (e :: es) (liftM p (List.replicate ps.length false) t)) (hK : p.K = X.K := by rfl) (hg : Gl X x := by rfl)
    (hdb : (x == ("__debug__" : Str)) = false := by decide) (he : starEach (e :: es) X.env = (false, eval e X.env) :: starEach es X.env := by rfl) (hpl : (backTo pos (starEach es X.env)).any (·.1) = false := by rfl) :
    PE X (.Call (.Name x pf) (e :: es) [] pos) (lift p (wCall F t)) := by
  obtain ⟨f, fd, h1, h2, h3, h4, h5⟩ := D.ex
  exact pd_callG (h5 p.dr) (hr.mono hj) hga h1 h2 h3 ha hK rfl hg hdb he hpl
theorem pd_clK (D : Dn X.prog X.w X.K X.mg X.base k x ps F) {j : Nat} {kws : List Keyword} (hr : Room j X.A) (hj : k ≤ j) (hga : X.A.guards = some []) (ha : PKd X p kws ps.length t) (hK : p.K = X.K := by rfl) (hg : Gl X x := by rfl)
    (hdb : (x == ("__debug__" : Str)) = false := by decide) (hall : (backToKw pos (keywordEach kws X.env)).all (·.1.isSome) = true := by rfl) (hks : (backToKw pos (keywordEach kws X.env)).filterMap (·.1) = ps := by rfl)
    (hpl : ((backTo pos (starEach [] X.env)).any (·.1) || (backToKw pos (keywordEach kws X.env)).any (·.1.isNone)) = false := by rfl) :
    PE X (.Call (.Name x pf) [] kws pos) (lift p (wCall F t)) := by
  obtain ⟨f, fd, h1, h2, h3, h4, h5⟩ := D.ex
  exact pd_callK (h5 p.dr) (hr.mono hj) hga h1 h2 h4 ha hK rfl hg hdb hall hks hpl
/-- {}, where a slot holds the draws -/
def wDic (i : Nat) : W := ⟨fun s P => vget s.env i = some .drw ∧ P .dic0 s, fun s P P' h q => ⟨q.1, h _ _ q.2⟩⟩
theorem drw_one {σ : L2.St} {H G : Hp} {s : S} {i : Nat} (R : p.Rs σ H G s) (h : vget s.env i = some .drw) : One p.K G := by
  obtain ⟨v, e, r⟩ := vget_rb R h
  have r' : p.Rp G v .drw := r
  cases r' with
  | drw _ o => exact o
theorem pd_dict0 (i : Nat) : PE X (.Dict [] [] pos) (lift p (wDic i)) := PE.imp pe_dnewK fun σ H Q ⟨G, s, R, k⟩ q hq => k.2 _ _ _ (Same.upd (R.sub.none hq)) (R.alloc hq) (.dic0 upd_same ((drw_one R k.1).mono (Same.upd (R.sub.none hq))))
end
end DI
/-! What each part asks, as equations. -/
namespace DI
open PySem PySem.Spec PyProof.Rows L2
variable [Nm]
section
variable {w wa wb wc : W} {t u : WT} {a b v : WS} {ta : WA} {i j l : Nat} {d : D} {E : ED} {s : S} {n : Nat} {env : List Sl}
  {P : D → S → Prop} {PT : Bool → S → Prop} {PA : List D → S → Prop} {PO : Option Int → S → Prop} {c c' : D → D → Prop} {g g' : D → D → Option D}
theorem f_wC : (wC d).f s P = P d s := rfl
theorem f_wVar : (wVar i).f ⟨env, n⟩ P = (match env[i]? with
  | some (.val d) => P d ⟨env, n⟩
  | some (.own ds) => P (.lst ds) ⟨env.set i (.val (.lst ds)), n⟩
  | some (.dic ks ds) => P (.dct ks ds) ⟨env.set i (.val (.dct ks ds)), n⟩
  | _ => False) := rfl
theorem f_wBin : (wBin c g wa wb).f s P = wa.f s fun d1 s1 => wb.f s1 fun d2 s2 => c d1 d2 ∧ get (g d1 d2) fun d => P d s2 := rfl
theorem f_wBinV : (wBinV c g i wb).f ⟨env, n⟩ P = get (vget env i) fun _ => wb.f ⟨env, n⟩ fun d2 s2 => get (vget s2.env i) fun d1 => c d1 d2 ∧ get (g d1 d2) fun d => P d s2 := rfl
theorem f_wBinR : (wBinR c g wa i).f s P = wa.f s fun d1 s1 => get (vget s1.env i) fun d2 => c d1 d2 ∧ get (g d1 d2) fun d => P d s1 := rfl
def blD : D → Option Bool
  | .bl b => some b
  | _ => none
def intD : D → Option Int
  | .int b => some b
  | _ => none
theorem f_wT : (wT w).f s PT = w.f s fun d s1 => get (blD d) fun b => PT b s1 := rfl
theorem f_wChain : (wChain c c' g g' wa wb wc).f s P = wa.f s fun d1 s1 => wb.f s1 fun d2 s2 => c d1 d2 ∧ get (g d1 d2) fun z => get (blD z) fun k => if k = true then wc.f s2 fun d3 s3 => c' d2 d3 ∧ get (g' d2 d3) fun y => P y s3 else P (.bl false) s2 := rfl
end
section
theorem f_wTru {w : W} {s P} : (wTru w).f s P = (w.f s fun d s1 => cTru d ∧ get (truD d) fun b => P b s1) := rfl
theorem f_wTruV {i : Nat} {s P} : (wTruV i).f s P = (get (vget s.env i) fun d => cTru d ∧ get (truD d) fun b => P b s) := rfl
theorem f_tAnd {t u : WT} {s P} : (tAndD t u).f s P = (t.f s fun b s1 => if b = true then u.f s1 P else P false s1) := rfl
theorem f_tOr {t u : WT} {s P} : (tOrD t u).f s P = (t.f s fun b s1 => if b = true then P true s1 else u.f s1 P) := rfl
theorem f_tNot {t : WT} {s P} : (tNotD t).f s P = (t.f s fun b s1 => P (!b) s1) := rfl
theorem f_andV {wa wb : W} {s P} : (wAndV wa wb).f s P = (wa.f s fun d s1 => get (blD d) fun b => if b = true then wb.f s1 P else P (.bl false) s1) := rfl
theorem f_orV {wa wb : W} {s P} : (wOrV wa wb).f s P = (wa.f s fun d s1 => get (blD d) fun b => if b = true then P (.bl true) s1 else wb.f s1 P) := rfl
theorem f_notV {wa : W} {s P} : (wNotV wa).f s P = (wa.f s fun d s1 => get (blD d) fun b => P (.bl (!b)) s1) := rfl
theorem f_if {t : WT} {wa wb : W} {s P} : (wIf t wa wb).f s P = (t.f s fun b s1 => if b = true then wa.f s1 P else wb.f s1 P) := rfl
theorem f_noPart {s P} : wNoPart.f s P = (P none s) := rfl
theorem f_part {w : W} {s P} : (wPart w).f s P = (w.f s fun d s1 => get (intD d) fun i => P (some i) s1) := rfl
theorem f_sl {wa : W} {lo hi : WO} {s P} : (wSl wa lo hi).f s P = (wa.f s fun d s1 => lo.f s1 fun l s2 => hi.f s2 fun h s3 => cSl d ∧ get (gSl d l h) fun z => P z s3) := rfl
theorem f_slV {i : Nat} {lo hi : WO} {s P} : (wSlV i lo hi).f s P = (get (vget s.env i) fun _ => lo.f s fun l s2 => hi.f s2 fun h s3 => get (vget s3.env i) fun d => cSl d ∧ get (gSl d l h) fun z => P z s3) := rfl
theorem f_nil {s P} : waNil.f s P = (P [] s) := rfl
theorem f_cons {w : W} {t : WA} {s P} : (waCons w t).f s P = (w.f s fun d s1 => t.f s1 fun ds s2 => P (d :: ds) s2) := rfl
theorem f_bor {i : Nat} {t : WA} {s P} : (waBor i t).f s P = (get (vget s.env i) fun _ => t.f s fun ds s2 => get (vget s2.env i) fun d => P (d :: ds) s2) := rfl
theorem f_tup {t : WA} {s P} : (wTup t).f s P = (t.f s fun ds s1 => ds.length ≤ sizeLine ∧ P (.tup ds) s1) := rfl
theorem f_lst {t : WA} {s P} : (wLst t).f s P = (t.f s fun ds s1 => ds.length ≤ sizeLine ∧ P (.lst ds) s1) := rfl
theorem f_fn {c : List D → Prop} {g : List D → Option D} {t : WA} {s P} : (wFn c g t).f s P = (t.f s fun ds s1 => c ds ∧ get (g ds) fun d => P d s1) := rfl
theorem f_isi {T : String} {w : W} {s P} : (wIsi T w).f s P = (w.f s fun d s1 => get (gIsi T d) fun z => P z s1) := rfl
theorem f_mt {c : Str → D → Prop} {g : Str → D → Option D} {wa wb : W} {s P} : (wMt c g wa wb).f s P = (wa.f s fun d1 s1 => get (strD d1) fun z => wb.f s1 fun d2 s2 => c z d2 ∧ get (g z d2) fun d => P d s2) := rfl
theorem f_call {F : FT} {t : WA} {s P} : (wCall F t).f s P = (t.f s fun ds s1 => F.f ds s1.n fun d m => P d { s1 with n := m }) := rfl
theorem f_next {E s} : wNext.f E s = (E.nx s) := rfl
theorem f_seq {u v : WS} {E s} : (wSeq u v).f E s = (u.f { E with nx := v.f E } s) := rfl
theorem f_break {E s} : wBreak.f E s = (E.bk s) := rfl
theorem f_cont {E s} : wCont.f E s = (E.ct s) := rfl
theorem f_drop {w : W} {E s} : (wDrop w).f E s = (w.f s fun _ s1 => E.nx s1) := rfl
theorem f_ret {w : W} {E s} : (wRet w).f E s = (w.f s fun d s1 => E.rt d s1) := rfl
theorem f_retN {E s} : wRetN.f E s = (E.rt .non s) := rfl
theorem f_ifS {t : WT} {u v : WS} {E s} : (wIfS t u v).f E s = (t.f s fun b s1 => if b = true then u.f E s1 else v.f E s1) := rfl
theorem f_set {i : Nat} {w : W} {E s} : (wSet i w).f E s = (w.f s fun d s1 => i < s1.env.length ∧ E.nx { s1 with env := s1.env.set i (.val d) }) := rfl
theorem f_ofL {w : WA} {s P} : (wOfL w).f s P = (w.f s fun ds s1 => P (.lst ds) s1) := rfl
theorem f_sz {t : WA} {s P} : (wsz t).f s P = (t.f s fun ds s1 => ds.length ≤ sizeLine ∧ P ds s1) := rfl
theorem f_own {i : Nat} {t : WA} {E s} : (wOwn i t).f E s = (t.f s fun ds s1 => i < s1.env.length ∧ E.nx { s1 with env := s1.env.set i (.own ds) }) := rfl
theorem f_par {i j : Nat} {t : WA} {E s} : (wPar i j t).f E s = (t.f s fun ds s1 => ∃ d1 d2, ds = [d1, d2] ∧ i < s1.env.length ∧ j < s1.env.length ∧ E.nx { s1 with env := (s1.env.set i (.val d1)).set j (.val d2) }) := rfl
theorem f_par3 {i j l : Nat} {t : WA} {E s} : (wPar3 i j l t).f E s = (t.f s fun ds s1 => ∃ d1 d2 d3, ds = [d1, d2, d3] ∧ i < s1.env.length ∧ j < s1.env.length ∧ l < s1.env.length ∧ E.nx { s1 with env := ((s1.env.set i (.val d1)).set j (.val d2)).set l (.val d3) }) := rfl
theorem f_asgT {g : D → List Sl → Option (List Sl)} {w : W} {E s} : (wAsgT g w).f E s = (w.f s fun d s1 => get (g d s1.env) fun env' => E.nx { s1 with env := env' }) := rfl
theorem f_iL {w : W} {s P} : (wiL w).f s P = (w.f s fun d s1 => get (lstD d) fun ds => P ds s1) := rfl
theorem f_iT {w : W} {s P} : (wiT w).f s P = (w.f s fun d s1 => get (tupD d) fun ds => P ds s1) := rfl
theorem f_iS {w : W} {s P} : (wiS w).f s P = (w.f s fun d s1 => get (strD d) fun z => P (chrs z) s1) := rfl
theorem f_iR1 {t : WA} {s P} : (wiR1 t).f s P = (t.f s fun ds s1 => ∃ j, ds = [.int j] ∧ -(2 ^ 62) ≤ j ∧ j < 2 ^ 62 ∧ P (rngD 0 j.toNat) s1) := rfl
theorem f_for {wi : WI} {g : D → List Sl → Option (List Sl)} {tb : WS} {E s} : (wForS wi g tb).f E s = (wi.f s fun ds s1 => forW g tb E ds s1) := rfl
theorem f_lc {wi : WI} {ge : D → List Sl → Option (List Sl)} {vs : List Nat} {tt : WT} {te : W} {s P} : (wLc wi ge vs tt te).f s P = (wi.f s fun ds s1 => lcGo ge vs tt te s1.env ds [] s1.n fun acc n => P acc { s1 with n := n }) := rfl
theorem f_yes {s P} : wtYes.f s P = (P true s) := rfl
theorem f_dgL {i : Nat} {s P} : (wDgL i).f s P = (vget s.env i = some .drw ∧ ∀ l : Int, P (.int l) s) := rfl
theorem f_dgA {i : Nat} {s P} : (wDgA i).f s P = (vget s.env i = some .drw ∧ ∀ l : Int, 0 ≤ l → l ≤ s.n → P (.int l) s) := rfl
theorem f_dgC {i : Nat} {s P} : (wDgC i).f s P = (vget s.env i = some .drw ∧ ∀ ns : List Int, 0 < ns.length → ns.length ≤ 64 → P (.lst (ns.map D.int)) s) := rfl
theorem f_dpL {i : Nat} {w : W} {E s} : (wDpL i w).f E s = (w.f s fun d s1 => vget s1.env i = some .drw ∧ ∃ (y : Int) (m : Nat), d = .int y ∧ s1.n ≤ m ∧ E.nx { s1 with n := m }) := rfl
theorem f_dpA {i : Nat} {w : W} {E s} : (wDpA i w).f E s = (w.f s fun d s1 => vget s1.env i = some .drw ∧ ∃ (y : Int), d = .int y ∧ 0 ≤ y ∧ y ≤ s1.n + 1 ∧ E.nx { s1 with n := s1.n + 1 }) := rfl
theorem f_app {i : Nat} {w : W} {E s} : (wApp i w).f E s = (get (ownE s.env i) fun _ => w.f s fun d s1 => get (ownE s1.env i) fun ds => ds.length < sizeLine ∧ E.nx { s1 with env := s1.env.set i (.own (ds ++ [d])) }) := rfl
theorem f_pop {i : Nat} {s P} : (wPop i).f s P = (get (ownE s.env i) fun ds => get ds[ds.length - 1]? fun d => P d { s with env := s.env.set i (.own ds.dropLast) }) := rfl
end
theorem get_if {α : Type} {c : Prop} [Decidable c] {x y : Option α} {P : α → Prop} : get (if c then x else y) P = if c then get x P else get y P := by split <;> rfl
theorem env0 {n : Nat} {ms : List Bool} {d : D} {ds : List D} : initE n (false :: ms) (d :: ds) = .val d :: initE (n - 1) ms ds := by
  show initSl false d :: _ = _
  cases d <;> rfl
theorem env1 {n : Nat} : initE n [] [] = List.replicate n .emp := rfl
theorem bl_bl {b : Bool} : blD (.bl b) = some b := rfl
theorem int_int {b : Int} : intD (.int b) = some b := rfl
theorem str_str {b : Str} : strD (.str b) = some b := rfl
theorem gNm_lt {i : Nat} {d : D} {env : List Sl} (h : i < env.length) : gNm i d env = some (env.set i (.val d)) := if_pos h
end DI
/-! while; reversed(range(n)). -/
namespace DI
open PySem PySem.Spec PyProof.Rows L2
variable [Nm]
section
variable {X : Cx} {p : Pl} {c e tg : Expr} {body : List Stmt} {pos : Pos}
/-- n - 1, .., 0 -/
def dwnD (n : Nat) : List D := (List.range n).map fun (i : Nat) => D.int ((n : Int) - 1 - (i : Int))
def wiDown (w : W) : WI := ⟨fun s P => w.f s fun d s1 => ∃ j : Int, d = .int j ∧ 0 ≤ j ∧ j < 2 ^ 62 ∧ P (dwnD j.toNat) s1, fun s P P' h q => w.mono _ _ _ (fun d s1 ⟨j, a, b, c, q⟩ => ⟨j, a, b, c, h _ _ q⟩) q⟩
end
end DI
namespace EX
open PySem PySem.W PySem.Calls PyProof.Rows PySem.HandSPX
section
variable {prog : Program} {w : World} {A : Around} {R : Result → Shared → Prop} {h : Heap} {g : Array GenState} {d : Drawn} {t : Nat} {os : OsState} {nm q : Str} {C N : Addr} {bs bm bmB : List Value}
  {hdct : Bool} {sn : List Str} {sub : List Value} {ab : Bool} {col : Option Bool} {dd : Option Addr} {k0 k1 k2 k3 k5 : Option Value} {B newId initId : String}
theorem new_ownK (F : ExcBaseFacts B newId initId bmB) (hT : ∀ X : String, bm.contains (Value.type X) = bmB.contains (Value.type X)) {rest : List Value} {kw : List (Str × Value)}
    (hC : h.get? C = some (excClassObj nm q C N bs bm hdct sn sub ab col dd k0 k1 k2 k3 k5 newId))
    (hq : R (.ok (.ret (.ref (h.objs.size + 1)))) { heap := (h.push (kdv_tup rest)).push (excO C h.objs.size), gens := g, drawn := d, toks := t, os := os }) (hrest : rest.length ≤ sizeLine) :
    codeAny (model prog w) A (Code.builtin newId ⟨.ref C :: rest, kw⟩) R { heap := h, gens := g, drawn := d, toks := t, os := os } := by
  have hends := F.ends
  have hcB : (Value.ref C :: bm).contains (Value.type B) = true := by
    rw [List.contains_cons, hT B, F.hasB, Bool.or_true]
  have hcA : (Value.ref C :: bm).contains (Value.type "AttributeError") = false := by
    rw [List.contains_cons, hT, F.noAttr]
    rfl
  have hcN : (Value.ref C :: bm).contains (Value.type "NameError") = false := by
    rw [List.contains_cons, hT, F.noName]
    rfl
  refine PySem.codeAny_builtinAt F.entry ?_
  refine PySem.wpAt_bind ?_
  refine PySem.wpAt_bind ?_
  refine PySem.wpAt_stack fun p below => ?_
  refine PySem.wpAt_of_wpAny ?_
  refine PySem.wpAny_ite_true (by simpa using hends) ?_
  refine PySem.wpAny_pure ?_
  refine PySem.wpAt_of_wpAny ?_
  rw [show (newId.dropRight 8) = B from F.owner]
  refine PySem.wpAny_bind ?_
  refine PySem.wpAny_bind ?_
  refine PySem.wpAny_loadPart_at hC ?_
  refine PySem.wpAny_pure ?_
  refine PySem.wpAny_ite_false rfl ?_
  refine PySem.wpAny_bind ?_
  refine wpAny_isSubtype_exc hC ?_
  rw [hcB]
  refine PySem.wpAny_ite_false rfl ?_
  refine PySem.wpAny_bind ?_
  refine wpAny_madeHere_exc F.canon hC ?_
  refine PySem.wpAny_bind ?_
  refine PySem.wpAny_bind ?_
  refine wpAny_isSubtype_exc hC ?_
  rw [hcA]
  refine PySem.wpAny_ite_false rfl ?_
  refine PySem.wpAny_bind ?_
  refine wpAny_isSubtype_exc hC ?_
  rw [hcN]
  refine PySem.wpAny_ite_false rfl ?_
  refine PySem.wpAny_pure ?_
  refine PySem.wpAny_bind ?_
  refine PySem.wpAny_ite_false (by simpa using hrest) ?_
  refine PySem.wpAny_bind ?_
  refine PySem.wpAny_alloc' ?_
  refine PySem.wpAny_pure ?_
  refine PySem.wpAny_bind ?_
  unfold PySem.newObj
  dsimp only
  refine PySem.wpAny_ite_false (by rfl) ?_
  refine PySem.wpAny_bind ?_
  refine PySem.wpAny_alloc' ?_
  refine PySem.wpAny_bind ?_
  refine PySem.wpAny_bind ?_
  refine PySem.wpAny_load' (by have hC' := Heap.get?_push_of_some (excO C h.objs.size) (Heap.get?_push_of_some (kdv_tup rest) hC); exact hC') ?_
  refine PySem.wpAny_pure ?_
  refine PySem.wpAny_ite_false rfl ?_
  refine PySem.wpAny_pure ?_
  refine PySem.wpAny_pure ?_
  have e := Heap.size_push h (kdv_tup rest)
  show R (.ok (.ret (.ref _))) _
  rw [show (h.push (kdv_tup rest)).objs.size = h.objs.size + 1 from e]
  exact hq
end
theorem any_args {id B : String} {a : List Value} {kw : List (Str × Value)} {r : Manifest.Receiver} {ps : List Manifest.Param} : Bind.checkArgs id { machinery := Manifest.Machinery.any, full := B, short := B, receiver := r, params := ps } ⟨a, kw⟩ = Bind.checkArgs id { machinery := Manifest.Machinery.any, full := B, short := B, receiver := r, params := ps } ⟨a, []⟩ := by
  unfold Bind.checkArgs Bind.check
  rfl
theorem any_call {B newId initId : String} {bm : List Value} (F : ExcBaseFacts B newId initId bm) {c : Value} {rest : List Value} {kw : List (Str × Value)} : checkBuiltinCall newId ⟨c :: rest, kw⟩ = checkBuiltinCall newId ⟨c :: rest, []⟩ := by
  unfold checkBuiltinCall
  simp only [F.newRow, F.newKind, F.newSplit]
  rw [show Bind.checkArgs newId _ ⟨c :: rest, kw⟩ = _ from any_args]
end EX
namespace EX
open PySem PySem.W PySem.Calls PyProof.Rows PySem.HandSPX
theorem tc_hand : (Manifest.signature? "type.__call__").map (fun s => s.machinery) = some Manifest.Machinery.hand := by decide +kernel
theorem tc_kind : builtinKind "type.__call__" = some Manifest.AttrKind.slot := by decide +kernel
theorem tc_split : splitId "type.__call__" = some ("type", "__call__") := by decide +kernel
theorem tc_call {c : Value} {rest : List Value} {kw : List (Str × Value)} : checkBuiltinCall "type.__call__" ⟨c :: rest, kw⟩ = checkBuiltinCall "type.__call__" ⟨c :: rest, []⟩ := by
  have e := tc_hand
  cases q : Manifest.signature? "type.__call__" with
  | none => rw [q] at e; cases e
  | some s =>
    rw [q] at e
    obtain ⟨m, F, S, r, ps⟩ := s
    have e' : m = Manifest.Machinery.hand := by simpa using e
    subst e'
    unfold checkBuiltinCall
    simp only [q, tc_kind, tc_split]
    unfold Bind.checkArgs Bind.check
    rfl
section
variable {prog : Program} {w : World} {A : Around} {h : Heap} {g : Array GenState} {d : Drawn} {t : Nat} {os : OsState} {nm q : Str} {C N : Addr} {bs bm bmB : List Value}
  {hdct : Bool} {sn : List Str} {sub : List Value} {ab : Bool} {col : Option Bool} {dd : Option Addr} {k0 k1 k2 k3 k5 : Option Value} {B newId initId : String}
theorem type_call_ownK {E : Value → Shared → Prop} {Q : PySem.Fin → Shared → Prop} (F : ExcBaseFacts B newId initId bmB) (hT : ∀ X : String, bm.contains (Value.type X) = bmB.contains (Value.type X)) {rest : List Value} {kw : List (Str × Value)} {fI : Addr}
    (hC : h.get? C = some (excClassObj nm q C N bs bm hdct sn sub ab col dd k0 k1 k2 k3 k5 newId))
    (hi : Looks (model prog w) h (typeLookup (.ref C) (Str.ofString "__init__")) (some (.ref fI)))
    (hb : ∀ self : Value, Looks (model prog w) h (bindSpecial (.ref fI) self) (.ref fI, [self])) (hrest : rest.length ≤ sizeLine)
    (hq : codeAny (model prog w) A (Code.call (.ref fI) ⟨.ref (h.objs.size + 1) :: rest, kw⟩) (fun r s' => match r with
      | .ok (.ret v) => v = .none ∧ Q (.done (.ret (.ref (h.objs.size + 1)))) s'
      | .ok _ => False
      | .error e => E e s') { heap := (h.push (kdv_tup rest)).push (excO C h.objs.size), gens := g, drawn := d, toks := t, os := os }) :
    wpAny (model prog w) A (Builtin.«type.__call__» ⟨.ref C :: rest, kw⟩) Q E { heap := h, gens := g, drawn := d, toks := t, os := os } := by
  unfold Builtin.«type.__call__»
  dsimp only
  refine PySem.wpAny_ite_false (by rfl) ?_
  refine PySem.wpAny_bind ?_
  refine PySem.wpAny_bind ?_
  refine PySem.wpAny_bind ?_
  refine PySem.wpAny_load' hC ?_
  refine PySem.wpAny_pure ?_
  refine PySem.wpAny_pure ?_
  refine PySem.wpAny_ite_false (by rfl) ?_
  refine PySem.wpAny_bind ?_
  refine wpAny_madeBy_exc hC ?_
  refine PySem.wpAny_bind ?_
  refine PySem.wpAny_pure ?_
  refine PySem.wpAny_bind ?_
  refine PySem.wpAny_holding ?_
  refine PySem.wpAny_call ?_
  refine codeAny_call_builtin_code (Code.quiet_builtin _ F.quiet) ?_
  rw [any_call F]
  refine check_new_own F hT hC ?_
  refine new_ownK F hT hC ?_ hrest
  have k : ∀ b o, h.get? b = some o → ((h.push (kdv_tup rest)).push (excO C h.objs.size)).get? b = some o := fun b o e => Heap.get?_push_of_some _ (Heap.get?_push_of_some _ e)
  have hC₁ := k _ _ hC
  have hget : ((h.push (kdv_tup rest)).push (excO C h.objs.size)).get? (h.objs.size + 1) = some (excO C h.objs.size) := by heap_get
  have hcC : (Value.ref C :: bm).contains (Value.ref C) = true := by simp
  have i1 := hi.keeps k
  have b1 := (hb (.ref (h.objs.size + 1))).keeps k
  refine PySem.wpAny_bind ?_
  refine PySem.wpAny_bind ?_
  refine PySem.wpAny_bind ?_
  refine PySem.wpAny_loadPart_at hget ?_
  refine PySem.wpAny_pure ?_
  refine wpAny_isSubtype_exc hC₁ ?_
  rw [hcC]
  refine PySem.wpAny_ite_false (by rfl) ?_
  refine PySem.wpAny_bind ?_
  refine PySem.wpAny_holding ?_
  refine PySem.wpAny_bind ?_
  refine PySem.wpAny_bind ?_
  refine PySem.wpAny_bind ?_
  refine PySem.wpAny_loadPart_at hget ?_
  refine PySem.wpAny_pure ?_
  refine i1.at ?_
  refine PySem.wpAny_holding ?_
  refine PySem.wpAny_bind ?_
  refine b1.at ?_
  refine PySem.wpAny_bind ?_
  refine PySem.wpAny_call (codeAny_mono hq fun r s' z => ?_)
  cases r with
  | error e => exact z
  | ok f =>
    cases f with
    | next => exact z
    | brk => exact z
    | cont => exact z
    | ret v =>
      obtain ⟨e, z⟩ := z
      subst e
      exact PySem.wpAny_pure (PySem.wpAny_pure z)
theorem call_ownK {R : Result → Shared → Prop} (F : ExcBaseFacts B newId initId bmB) (hT : ∀ X : String, bm.contains (Value.type X) = bmB.contains (Value.type X)) {rest : List Value} {kw : List (Str × Value)} {fI : Addr}
    (hC : h.get? C = some (excClassObj nm q C N bs bm hdct sn sub ab col dd k0 k1 k2 k3 k5 newId))
    (hi : Looks (model prog w) h (typeLookup (.ref C) (Str.ofString "__init__")) (some (.ref fI)))
    (hb : ∀ self : Value, Looks (model prog w) h (bindSpecial (.ref fI) self) (.ref fI, [self])) (hrest : rest.length ≤ sizeLine)
    (hq : codeAny (model prog w) (A.under (.builtin "type.__call__" ⟨.ref C :: rest, kw⟩)) (Code.call (.ref fI) ⟨.ref (h.objs.size + 1) :: rest, kw⟩) (InitBack (h.objs.size + 1) R)
      { heap := (h.push (kdv_tup rest)).push (excO C h.objs.size), gens := g, drawn := d, toks := t, os := os }) :
    codeAny (model prog w) A (.call (.ref C) ⟨rest, kw⟩) R { heap := h, gens := g, drawn := d, toks := t, os := os } := by
  have f1 := tc_lookup
  have f2 := tc_bind (.ref C)
  have hTy : Shared.TypeIs { heap := h, gens := g, drawn := d, toks := t, os := os } (.ref C) "type" := ⟨_, hC, rfl⟩
  refine codeAny_of_tree ?_
  refine PySem.wpAny_bind ?_
  refine PySem.wpAny_load' hC ?_
  refine PySem.wpAny_bind ?_
  refine wpAny_specialOf hTy f1 ?_
  refine PySem.wpAny_bind ?_
  refine PySem.wpAny_of_eq f2 ?_
  refine PySem.wpAny_bind ?_
  refine PySem.wpAny_pure ?_
  refine PySem.wpAny_ite_true (by rfl) ?_
  refine PySem.wpAny_pure ?_
  refine ⟨rfl, ?_⟩
  refine codeAny_call_builtin_at (Code.quiet_builtin _ (by decide +kernel)) entry_typeCall ?_
  show wpAny _ _ (checkBuiltinCall "type.__call__" ⟨.ref C :: rest, kw⟩) _ _ _
  rw [tc_call]
  refine wpAny_check_type_call_sub hC ?_
  refine type_call_ownK F hT hC hi hb hrest ?_
  refine codeAny_mono hq fun r s' z => ?_
  cases r with
  | error e => exact z
  | ok f =>
    cases f with
    | next => exact z
    | brk => exact z
    | cont => exact z
    | ret v => exact z
end
end EX
namespace EX
open PySem PySem.W PySem.Calls PyProof.Rows PySem.HandSPX
section
variable {prog : Program} {w : World} {A : Around} {R : Result → Shared → Prop} {hp : Heap} {g : Array GenState} {d : Drawn} {t : Nat} {os : OsState} {K : Frag} {name : Str} {tk : Tok} {v : Value} {x C dx : Addr} {fv : Array Value} {cd : ClassData} {m0 : Str → Option Value} {nl : List Str}
end
end EX
namespace EX
open PySem PySem.W PySem.Calls PyProof.Rows PySem.HandSPX
theorem one_size {n : Nat} (h : n ≤ 1000) : n ≤ sizeLine := by
  rw [sizeLine_eq]
  omega
theorem ldC {M : Model} {A : Around} {E : Value → Shared → Prop} {s : Shared} {name : Str} {scope : Scope} {L a : Addr} {cd : Value} {m : Str → Option Value} {x : Str} {pos : Pos} {v : Value} {Q : Value → Shared → Prop} (hn : s.heap.Ns L m) (hv : m x = some v) (h : Q v s)
    (hk : scope.kind = .function := by rfl) (hl : (envOfC name scope L a cd).kindOf x = some .local := by rfl) (hd : (x == ("__debug__" : Str)) = false := by decide) :
    wpAny M A (eval (.Name x pos) (envOfC name scope L a cd)) Q E s := wpAny_Name (wpAny_loadName_local hk hl hn hv h) hd
/-- what __init__ leaves of a fresh exception at x -/
structure InitEnd (h h' : Heap) (x C t1 : Addr) (fs : List Str) (us : List Value) : Prop where
  keep : ∀ b o, b ≠ x → h.get? b = some o → h'.get? b = some o
  obj : ∃ od, h'.get? x = some { cls := .ref C, dict := od, data := .fields #[.ref t1, .none, .none, .none, .bool false, .none] } ∧
    (fs = [] → od = none) ∧ (fs ≠ [] → ∃ dx, od = some dx ∧ h.objs.size ≤ dx ∧ dx ≠ x ∧ h'.Ns1 dx fun y => List.lookup y (fs.zip us))
/-- the class's way of stores -/
structure ExY (K : Frag) (C : Addr) (fs : List Str) : Prop where
  cls : ∃ cd, clsIn K C = some cd ∧ refsVE cd.mro = true ∧ cd.hasDict = true
  sa : findIn K (.ref C) "__setattr__" = some (some (.builtin "object.__setattr__"))
  noF : ∀ f ∈ fs, findIn K (.ref C) f = some none
/-- __init__ at fI: by position, or by names from the last one to the first -/
def Ini (K : Frag) (C fI : Addr) (fs : List Str) : Prop := ∀ (prog : Program) (w : World) (A : Around) (R : Result → Shared → Prop) (s : Shared) (x t0 : Addr) (args : Args) (us : List Value),
  K.In s.heap → s.heap.NoLimit → s.heap.get? x = some (excO C t0) → K.lookup x = none → A.depth < recursionLimit → us.length = fs.length →
  (args = ⟨.ref x :: us, []⟩ ∨ args = ⟨[.ref x], fs.reverse.zip us.reverse⟩) →
  (∀ (h' : Heap) (tk : Nat), InitEnd s.heap h' x C t0 fs us → R (.ok (.ret .none)) { s with heap := h', toks := tk }) →
  codeAny (model prog w) A (.call (.ref fI) args) R s
def iA_index (p0 p1 : Pos) : Arguments := { posonlyargs := [], args := [{ arg := "self", annotation := none, pos := p0 }, { arg := "index", annotation := none, pos := p1 }], vararg := none, kwonlyargs := [], kw_defaults := [], kwarg := none, defaults := [] }
def iB_index (q00 q01 q02 q03 : Pos) : List Stmt := [.Assign [.Attribute (.Name "self" q00) "index" q01] (.Name "index" q02) q03]
def iS_index : Scope := { kind := .function, names := [(PySem.Str.ofString "self", .local), (PySem.Str.ofString "index", .local)], isGenerator := false, isCoroutine := false, more := [] }
structure Fn_index (K : Frag) (qn : Str) (fI : Addr) : Prop where
  fn : ∃ (oc : Value) (od : Option Addr) (kV doc pm : Value) (an : Option Addr) (cdv ct : Value) (osl : Array (Option Value)) (p0 p1 q00 q01 q02 q03 : Pos),
    K.lookup fI = some ⟨oc, od, .func (fnOf "__init__" qn (iA_index p0 p1) (iB_index q00 q01 q02 q03) iS_index .none kV doc pm an cdv ct), osl⟩ ∧ codeIn K cdv qn = true
def iA_kind (p0 p1 : Pos) : Arguments := { posonlyargs := [], args := [{ arg := "self", annotation := none, pos := p0 }, { arg := "kind", annotation := none, pos := p1 }], vararg := none, kwonlyargs := [], kw_defaults := [], kwarg := none, defaults := [] }
def iB_kind (q00 q01 q02 q03 : Pos) : List Stmt := [.Assign [.Attribute (.Name "self" q00) "kind" q01] (.Name "kind" q02) q03]
def iS_kind : Scope := { kind := .function, names := [(PySem.Str.ofString "self", .local), (PySem.Str.ofString "kind", .local)], isGenerator := false, isCoroutine := false, more := [] }
structure Fn_kind (K : Frag) (qn : Str) (fI : Addr) : Prop where
  fn : ∃ (oc : Value) (od : Option Addr) (kV doc pm : Value) (an : Option Addr) (cdv ct : Value) (osl : Array (Option Value)) (p0 p1 q00 q01 q02 q03 : Pos),
    K.lookup fI = some ⟨oc, od, .func (fnOf "__init__" qn (iA_kind p0 p1) (iB_kind q00 q01 q02 q03) iS_kind .none kV doc pm an cdv ct), osl⟩ ∧ codeIn K cdv qn = true
def iA_word (p0 p1 : Pos) : Arguments := { posonlyargs := [], args := [{ arg := "self", annotation := none, pos := p0 }, { arg := "word", annotation := none, pos := p1 }], vararg := none, kwonlyargs := [], kw_defaults := [], kwarg := none, defaults := [] }
def iB_word (q00 q01 q02 q03 : Pos) : List Stmt := [.Assign [.Attribute (.Name "self" q00) "word" q01] (.Name "word" q02) q03]
def iS_word : Scope := { kind := .function, names := [(PySem.Str.ofString "self", .local), (PySem.Str.ofString "word", .local)], isGenerator := false, isCoroutine := false, more := [] }
structure Fn_word (K : Frag) (qn : Str) (fI : Addr) : Prop where
  fn : ∃ (oc : Value) (od : Option Addr) (kV doc pm : Value) (an : Option Addr) (cdv ct : Value) (osl : Array (Option Value)) (p0 p1 q00 q01 q02 q03 : Pos),
    K.lookup fI = some ⟨oc, od, .func (fnOf "__init__" qn (iA_word p0 p1) (iB_word q00 q01 q02 q03) iS_word .none kV doc pm an cdv ct), osl⟩ ∧ codeIn K cdv qn = true
def iA_link (p0 p1 : Pos) : Arguments := { posonlyargs := [], args := [{ arg := "self", annotation := none, pos := p0 }, { arg := "link", annotation := none, pos := p1 }], vararg := none, kwonlyargs := [], kw_defaults := [], kwarg := none, defaults := [] }
def iB_link (q00 q01 q02 q03 : Pos) : List Stmt := [.Assign [.Attribute (.Name "self" q00) "link" q01] (.Name "link" q02) q03]
def iS_link : Scope := { kind := .function, names := [(PySem.Str.ofString "self", .local), (PySem.Str.ofString "link", .local)], isGenerator := false, isCoroutine := false, more := [] }
structure Fn_link (K : Frag) (qn : Str) (fI : Addr) : Prop where
  fn : ∃ (oc : Value) (od : Option Addr) (kV doc pm : Value) (an : Option Addr) (cdv ct : Value) (osl : Array (Option Value)) (p0 p1 q00 q01 q02 q03 : Pos),
    K.lookup fI = some ⟨oc, od, .func (fnOf "__init__" qn (iA_link p0 p1) (iB_link q00 q01 q02 q03) iS_link .none kV doc pm an cdv ct), osl⟩ ∧ codeIn K cdv qn = true
def iA_name (p0 p1 : Pos) : Arguments := { posonlyargs := [], args := [{ arg := "self", annotation := none, pos := p0 }, { arg := "name", annotation := none, pos := p1 }], vararg := none, kwonlyargs := [], kw_defaults := [], kwarg := none, defaults := [] }
def iB_name (q00 q01 q02 q03 : Pos) : List Stmt := [.Assign [.Attribute (.Name "self" q00) "name" q01] (.Name "name" q02) q03]
def iS_name : Scope := { kind := .function, names := [(PySem.Str.ofString "self", .local), (PySem.Str.ofString "name", .local)], isGenerator := false, isCoroutine := false, more := [] }
structure Fn_name (K : Frag) (qn : Str) (fI : Addr) : Prop where
  fn : ∃ (oc : Value) (od : Option Addr) (kV doc pm : Value) (an : Option Addr) (cdv ct : Value) (osl : Array (Option Value)) (p0 p1 q00 q01 q02 q03 : Pos),
    K.lookup fI = some ⟨oc, od, .func (fnOf "__init__" qn (iA_name p0 p1) (iB_name q00 q01 q02 q03) iS_name .none kV doc pm an cdv ct), osl⟩ ∧ codeIn K cdv qn = true
def iA_number (p0 p1 : Pos) : Arguments := { posonlyargs := [], args := [{ arg := "self", annotation := none, pos := p0 }, { arg := "number", annotation := none, pos := p1 }], vararg := none, kwonlyargs := [], kw_defaults := [], kwarg := none, defaults := [] }
def iB_number (q00 q01 q02 q03 : Pos) : List Stmt := [.Assign [.Attribute (.Name "self" q00) "number" q01] (.Name "number" q02) q03]
def iS_number : Scope := { kind := .function, names := [(PySem.Str.ofString "self", .local), (PySem.Str.ofString "number", .local)], isGenerator := false, isCoroutine := false, more := [] }
structure Fn_number (K : Frag) (qn : Str) (fI : Addr) : Prop where
  fn : ∃ (oc : Value) (od : Option Addr) (kV doc pm : Value) (an : Option Addr) (cdv ct : Value) (osl : Array (Option Value)) (p0 p1 q00 q01 q02 q03 : Pos),
    K.lookup fI = some ⟨oc, od, .func (fnOf "__init__" qn (iA_number p0 p1) (iB_number q00 q01 q02 q03) iS_number .none kV doc pm an cdv ct), osl⟩ ∧ codeIn K cdv qn = true
def iA_depth (p0 p1 : Pos) : Arguments := { posonlyargs := [], args := [{ arg := "self", annotation := none, pos := p0 }, { arg := "depth", annotation := none, pos := p1 }], vararg := none, kwonlyargs := [], kw_defaults := [], kwarg := none, defaults := [] }
def iB_depth (q00 q01 q02 q03 : Pos) : List Stmt := [.Assign [.Attribute (.Name "self" q00) "depth" q01] (.Name "depth" q02) q03]
def iS_depth : Scope := { kind := .function, names := [(PySem.Str.ofString "self", .local), (PySem.Str.ofString "depth", .local)], isGenerator := false, isCoroutine := false, more := [] }
structure Fn_depth (K : Frag) (qn : Str) (fI : Addr) : Prop where
  fn : ∃ (oc : Value) (od : Option Addr) (kV doc pm : Value) (an : Option Addr) (cdv ct : Value) (osl : Array (Option Value)) (p0 p1 q00 q01 q02 q03 : Pos),
    K.lookup fI = some ⟨oc, od, .func (fnOf "__init__" qn (iA_depth p0 p1) (iB_depth q00 q01 q02 q03) iS_depth .none kV doc pm an cdv ct), osl⟩ ∧ codeIn K cdv qn = true
def iA_row_column (p0 p1 p2 : Pos) : Arguments := { posonlyargs := [], args := [{ arg := "self", annotation := none, pos := p0 }, { arg := "row", annotation := none, pos := p1 }, { arg := "column", annotation := none, pos := p2 }], vararg := none, kwonlyargs := [], kw_defaults := [], kwarg := none, defaults := [] }
def iB_row_column (q00 q01 q02 q03 q10 q11 q12 q13 : Pos) : List Stmt := [.Assign [.Attribute (.Name "self" q00) "row" q01] (.Name "row" q02) q03, .Assign [.Attribute (.Name "self" q10) "column" q11] (.Name "column" q12) q13]
def iS_row_column : Scope := { kind := .function, names := [(PySem.Str.ofString "self", .local), (PySem.Str.ofString "row", .local), (PySem.Str.ofString "column", .local)], isGenerator := false, isCoroutine := false, more := [] }
structure Fn_row_column (K : Frag) (qn : Str) (fI : Addr) : Prop where
  fn : ∃ (oc : Value) (od : Option Addr) (kV doc pm : Value) (an : Option Addr) (cdv ct : Value) (osl : Array (Option Value)) (p0 p1 p2 q00 q01 q02 q03 q10 q11 q12 q13 : Pos),
    K.lookup fI = some ⟨oc, od, .func (fnOf "__init__" qn (iA_row_column p0 p1 p2) (iB_row_column q00 q01 q02 q03 q10 q11 q12 q13) iS_row_column .none kV doc pm an cdv ct), osl⟩ ∧ codeIn K cdv qn = true
def iA_part_number (p0 p1 p2 : Pos) : Arguments := { posonlyargs := [], args := [{ arg := "self", annotation := none, pos := p0 }, { arg := "part", annotation := none, pos := p1 }, { arg := "number", annotation := none, pos := p2 }], vararg := none, kwonlyargs := [], kw_defaults := [], kwarg := none, defaults := [] }
def iB_part_number (q00 q01 q02 q03 q10 q11 q12 q13 : Pos) : List Stmt := [.Assign [.Attribute (.Name "self" q00) "part" q01] (.Name "part" q02) q03, .Assign [.Attribute (.Name "self" q10) "number" q11] (.Name "number" q12) q13]
def iS_part_number : Scope := { kind := .function, names := [(PySem.Str.ofString "self", .local), (PySem.Str.ofString "part", .local), (PySem.Str.ofString "number", .local)], isGenerator := false, isCoroutine := false, more := [] }
structure Fn_part_number (K : Frag) (qn : Str) (fI : Addr) : Prop where
  fn : ∃ (oc : Value) (od : Option Addr) (kV doc pm : Value) (an : Option Addr) (cdv ct : Value) (osl : Array (Option Value)) (p0 p1 p2 q00 q01 q02 q03 q10 q11 q12 q13 : Pos),
    K.lookup fI = some ⟨oc, od, .func (fnOf "__init__" qn (iA_part_number p0 p1 p2) (iB_part_number q00 q01 q02 q03 q10 q11 q12 q13) iS_part_number .none kV doc pm an cdv ct), osl⟩ ∧ codeIn K cdv qn = true
def iA_place (p0 p1 : Pos) : Arguments := { posonlyargs := [], args := [{ arg := "self", annotation := none, pos := p0 }, { arg := "place", annotation := none, pos := p1 }], vararg := none, kwonlyargs := [], kw_defaults := [], kwarg := none, defaults := [] }
def iB_place (q00 q01 q02 q03 : Pos) : List Stmt := [.Assign [.Attribute (.Name "self" q00) "place" q01] (.Name "place" q02) q03]
def iS_place : Scope := { kind := .function, names := [(PySem.Str.ofString "self", .local), (PySem.Str.ofString "place", .local)], isGenerator := false, isCoroutine := false, more := [] }
structure Fn_place (K : Frag) (qn : Str) (fI : Addr) : Prop where
  fn : ∃ (oc : Value) (od : Option Addr) (kV doc pm : Value) (an : Option Addr) (cdv ct : Value) (osl : Array (Option Value)) (p0 p1 q00 q01 q02 q03 : Pos),
    K.lookup fI = some ⟨oc, od, .func (fnOf "__init__" qn (iA_place p0 p1) (iB_place q00 q01 q02 q03) iS_place .none kV doc pm an cdv ct), osl⟩ ∧ codeIn K cdv qn = true
def iA_gap (p0 p1 : Pos) : Arguments := { posonlyargs := [], args := [{ arg := "self", annotation := none, pos := p0 }, { arg := "gap", annotation := none, pos := p1 }], vararg := none, kwonlyargs := [], kw_defaults := [], kwarg := none, defaults := [] }
def iB_gap (q00 q01 q02 q03 : Pos) : List Stmt := [.Assign [.Attribute (.Name "self" q00) "gap" q01] (.Name "gap" q02) q03]
def iS_gap : Scope := { kind := .function, names := [(PySem.Str.ofString "self", .local), (PySem.Str.ofString "gap", .local)], isGenerator := false, isCoroutine := false, more := [] }
structure Fn_gap (K : Frag) (qn : Str) (fI : Addr) : Prop where
  fn : ∃ (oc : Value) (od : Option Addr) (kV doc pm : Value) (an : Option Addr) (cdv ct : Value) (osl : Array (Option Value)) (p0 p1 q00 q01 q02 q03 : Pos),
    K.lookup fI = some ⟨oc, od, .func (fnOf "__init__" qn (iA_gap p0 p1) (iB_gap q00 q01 q02 q03) iS_gap .none kV doc pm an cdv ct), osl⟩ ∧ codeIn K cdv qn = true
def iA_side_number (p0 p1 p2 : Pos) : Arguments := { posonlyargs := [], args := [{ arg := "self", annotation := none, pos := p0 }, { arg := "side", annotation := none, pos := p1 }, { arg := "number", annotation := none, pos := p2 }], vararg := none, kwonlyargs := [], kw_defaults := [], kwarg := none, defaults := [] }
def iB_side_number (q00 q01 q02 q03 q10 q11 q12 q13 : Pos) : List Stmt := [.Assign [.Attribute (.Name "self" q00) "side" q01] (.Name "side" q02) q03, .Assign [.Attribute (.Name "self" q10) "number" q11] (.Name "number" q12) q13]
def iS_side_number : Scope := { kind := .function, names := [(PySem.Str.ofString "self", .local), (PySem.Str.ofString "side", .local), (PySem.Str.ofString "number", .local)], isGenerator := false, isCoroutine := false, more := [] }
structure Fn_side_number (K : Frag) (qn : Str) (fI : Addr) : Prop where
  fn : ∃ (oc : Value) (od : Option Addr) (kV doc pm : Value) (an : Option Addr) (cdv ct : Value) (osl : Array (Option Value)) (p0 p1 p2 q00 q01 q02 q03 q10 q11 q12 q13 : Pos),
    K.lookup fI = some ⟨oc, od, .func (fnOf "__init__" qn (iA_side_number p0 p1 p2) (iB_side_number q00 q01 q02 q03 q10 q11 q12 q13) iS_side_number .none kV doc pm an cdv ct), osl⟩ ∧ codeIn K cdv qn = true
def iA_first_second_place (p0 p1 p2 p3 : Pos) : Arguments := { posonlyargs := [], args := [{ arg := "self", annotation := none, pos := p0 }, { arg := "first", annotation := none, pos := p1 }, { arg := "second", annotation := none, pos := p2 }, { arg := "place", annotation := none, pos := p3 }], vararg := none, kwonlyargs := [], kw_defaults := [], kwarg := none, defaults := [] }
def iB_first_second_place (q00 q01 q02 q03 q10 q11 q12 q13 q20 q21 q22 q23 : Pos) : List Stmt := [.Assign [.Attribute (.Name "self" q00) "first" q01] (.Name "first" q02) q03, .Assign [.Attribute (.Name "self" q10) "second" q11] (.Name "second" q12) q13, .Assign [.Attribute (.Name "self" q20) "place" q21] (.Name "place" q22) q23]
def iS_first_second_place : Scope := { kind := .function, names := [(PySem.Str.ofString "self", .local), (PySem.Str.ofString "first", .local), (PySem.Str.ofString "second", .local), (PySem.Str.ofString "place", .local)], isGenerator := false, isCoroutine := false, more := [] }
structure Fn_first_second_place (K : Frag) (qn : Str) (fI : Addr) : Prop where
  fn : ∃ (oc : Value) (od : Option Addr) (kV doc pm : Value) (an : Option Addr) (cdv ct : Value) (osl : Array (Option Value)) (p0 p1 p2 p3 q00 q01 q02 q03 q10 q11 q12 q13 q20 q21 q22 q23 : Pos),
    K.lookup fI = some ⟨oc, od, .func (fnOf "__init__" qn (iA_first_second_place p0 p1 p2 p3) (iB_first_second_place q00 q01 q02 q03 q10 q11 q12 q13 q20 q21 q22 q23) iS_first_second_place .none kV doc pm an cdv ct), osl⟩ ∧ codeIn K cdv qn = true
def iA_key (p0 p1 : Pos) : Arguments := { posonlyargs := [], args := [{ arg := "self", annotation := none, pos := p0 }, { arg := "key", annotation := none, pos := p1 }], vararg := none, kwonlyargs := [], kw_defaults := [], kwarg := none, defaults := [] }
def iB_key (q00 q01 q02 q03 : Pos) : List Stmt := [.Assign [.Attribute (.Name "self" q00) "key" q01] (.Name "key" q02) q03]
def iS_key : Scope := { kind := .function, names := [(PySem.Str.ofString "self", .local), (PySem.Str.ofString "key", .local)], isGenerator := false, isCoroutine := false, more := [] }
structure Fn_key (K : Frag) (qn : Str) (fI : Addr) : Prop where
  fn : ∃ (oc : Value) (od : Option Addr) (kV doc pm : Value) (an : Option Addr) (cdv ct : Value) (osl : Array (Option Value)) (p0 p1 q00 q01 q02 q03 : Pos),
    K.lookup fI = some ⟨oc, od, .func (fnOf "__init__" qn (iA_key p0 p1) (iB_key q00 q01 q02 q03) iS_key .none kV doc pm an cdv ct), osl⟩ ∧ codeIn K cdv qn = true
def iA_none (p0 : Pos) : Arguments := { posonlyargs := [], args := [{ arg := "self", annotation := none, pos := p0 }], vararg := none, kwonlyargs := [], kw_defaults := [], kwarg := none, defaults := [] }
def iB_none (q00 : Pos) : List Stmt := [.Pass q00]
def iS_none : Scope := { kind := .function, names := [(PySem.Str.ofString "self", .local)], isGenerator := false, isCoroutine := false, more := [] }
structure Fn_none (K : Frag) (qn : Str) (fI : Addr) : Prop where
  fn : ∃ (oc : Value) (od : Option Addr) (kV doc pm : Value) (an : Option Addr) (cdv ct : Value) (osl : Array (Option Value)) (p0 q00 : Pos),
    K.lookup fI = some ⟨oc, od, .func (fnOf "__init__" qn (iA_none p0) (iB_none q00) iS_none .none kV doc pm an cdv ct), osl⟩ ∧ codeIn K cdv qn = true
def iA_part (p0 p1 : Pos) : Arguments := { posonlyargs := [], args := [{ arg := "self", annotation := none, pos := p0 }, { arg := "part", annotation := none, pos := p1 }], vararg := none, kwonlyargs := [], kw_defaults := [], kwarg := none, defaults := [] }
def iB_part (q00 q01 q02 q03 : Pos) : List Stmt := [.Assign [.Attribute (.Name "self" q00) "part" q01] (.Name "part" q02) q03]
def iS_part : Scope := { kind := .function, names := [(PySem.Str.ofString "self", .local), (PySem.Str.ofString "part", .local)], isGenerator := false, isCoroutine := false, more := [] }
structure Fn_part (K : Frag) (qn : Str) (fI : Addr) : Prop where
  fn : ∃ (oc : Value) (od : Option Addr) (kV doc pm : Value) (an : Option Addr) (cdv ct : Value) (osl : Array (Option Value)) (p0 p1 q00 q01 q02 q03 : Pos),
    K.lookup fI = some ⟨oc, od, .func (fnOf "__init__" qn (iA_part p0 p1) (iB_part q00 q01 q02 q03) iS_part .none kV doc pm an cdv ct), osl⟩ ∧ codeIn K cdv qn = true
def iA_word_path (p0 p1 p2 : Pos) : Arguments := { posonlyargs := [], args := [{ arg := "self", annotation := none, pos := p0 }, { arg := "word", annotation := none, pos := p1 }, { arg := "path", annotation := none, pos := p2 }], vararg := none, kwonlyargs := [], kw_defaults := [], kwarg := none, defaults := [] }
def iB_word_path (q00 q01 q02 q03 q10 q11 q12 q13 : Pos) : List Stmt := [.Assign [.Attribute (.Name "self" q00) "word" q01] (.Name "word" q02) q03, .Assign [.Attribute (.Name "self" q10) "path" q11] (.Name "path" q12) q13]
def iS_word_path : Scope := { kind := .function, names := [(PySem.Str.ofString "self", .local), (PySem.Str.ofString "word", .local), (PySem.Str.ofString "path", .local)], isGenerator := false, isCoroutine := false, more := [] }
structure Fn_word_path (K : Frag) (qn : Str) (fI : Addr) : Prop where
  fn : ∃ (oc : Value) (od : Option Addr) (kV doc pm : Value) (an : Option Addr) (cdv ct : Value) (osl : Array (Option Value)) (p0 p1 p2 q00 q01 q02 q03 q10 q11 q12 q13 : Pos),
    K.lookup fI = some ⟨oc, od, .func (fnOf "__init__" qn (iA_word_path p0 p1 p2) (iB_word_path q00 q01 q02 q03 q10 q11 q12 q13) iS_word_path .none kV doc pm an cdv ct), osl⟩ ∧ codeIn K cdv qn = true
def iA_word_offset (p0 p1 p2 : Pos) : Arguments := { posonlyargs := [], args := [{ arg := "self", annotation := none, pos := p0 }, { arg := "word", annotation := none, pos := p1 }, { arg := "offset", annotation := none, pos := p2 }], vararg := none, kwonlyargs := [], kw_defaults := [], kwarg := none, defaults := [] }
def iB_word_offset (q00 q01 q02 q03 q10 q11 q12 q13 : Pos) : List Stmt := [.Assign [.Attribute (.Name "self" q00) "word" q01] (.Name "word" q02) q03, .Assign [.Attribute (.Name "self" q10) "offset" q11] (.Name "offset" q12) q13]
def iS_word_offset : Scope := { kind := .function, names := [(PySem.Str.ofString "self", .local), (PySem.Str.ofString "word", .local), (PySem.Str.ofString "offset", .local)], isGenerator := false, isCoroutine := false, more := [] }
structure Fn_word_offset (K : Frag) (qn : Str) (fI : Addr) : Prop where
  fn : ∃ (oc : Value) (od : Option Addr) (kV doc pm : Value) (an : Option Addr) (cdv ct : Value) (osl : Array (Option Value)) (p0 p1 p2 q00 q01 q02 q03 q10 q11 q12 q13 : Pos),
    K.lookup fI = some ⟨oc, od, .func (fnOf "__init__" qn (iA_word_offset p0 p1 p2) (iB_word_offset q00 q01 q02 q03 q10 q11 q12 q13) iS_word_offset .none kV doc pm an cdv ct), osl⟩ ∧ codeIn K cdv qn = true
end EX
namespace EX
open PySem PySem.W PySem.Calls PyProof.Rows PySem.HandSPX
structure ExI (K : Frag) (C fI : Addr) (fs : List Str) : Prop where
  iC : findIn K (.ref C) "__init__" = some (some (.ref fI))
  tC : typeIn K (.ref fI) = some (.type "function")
  ini : Ini K C fI fs
theorem ExK.y {K : Frag} {B C : Addr} {nm : Str} {fs : List Str} (T : ExK K B nm C fs) : ExY K C fs := by
  obtain ⟨q, N, bs, sn, sub, ab, col, dd, k0, k1, k2, k3, k5, hC⟩ := T.cls
  refine ⟨⟨{ name := nm, bases := bs, mro := .ref C :: .ref B :: veTail, ns := N, qualname := q, hasDict := true, slotNames := sn, subclasses := sub, abstract := ab, collection := col, hasDel := false }, ?_, rfl, rfl⟩, T.sa, T.noF⟩
  unfold clsIn
  rw [hC] <;> rfl
/-- a made error -/
structure OwnMade (h h' : Heap) (e C : Addr) (fs : List Str) (us : List Value) : Prop where
  keep : ∀ b o, h.get? b = some o → h'.get? b = some o
  new : h.objs.size ≤ e
  obj : ∃ od t1, h'.get? e = some { cls := .ref C, dict := od, data := .fields #[.ref t1, .none, .none, .none, .bool false, .none] } ∧
    (fs = [] → od = none) ∧ (fs ≠ [] → ∃ d, od = some d ∧ e < d ∧ h'.Ns1 d fun y => List.lookup y (fs.zip us))
section
variable {prog : Program} {w : World} {A : Around} {R : Result → Shared → Prop} {s : Shared} {K : Frag} {B C fI : Addr} {nm : Str} {fs : List Str}
theorem made (T : ExK K B nm C fs) (I : ExI K C fI fs) {us : List Value} {a : Args} (hl : us.length = fs.length) (ha : a = ⟨us, []⟩ ∨ a = ⟨[], fs.reverse.zip us.reverse⟩) (X : K.In s.heap) (hlim : s.heap.NoLimit) (hroom : A.depth + 1 < recursionLimit) (hz : us.length ≤ 1000)
    (hq : ∀ h' tk e, OwnMade s.heap h' e C fs us → R (.ok (.ret (.ref e))) { s with heap := h', toks := tk }) :
    codeAny (model prog w) A (.call (.ref C) a) R s := by
  obtain ⟨q, N, bs, sn, sub, ab, col, dd, k0, k1, k2, k3, k5, hC⟩ := T.cls
  have hbm : refsVE (.ref B :: veTail) = true := rfl
  obtain ⟨hp, g, dr, tk, os⟩ := s
  have main : ∀ (rest : List Value) (kw : List (Str × Value)), a = ⟨rest, kw⟩ → rest.length ≤ 1000 → (∀ x : Addr, (⟨.ref x :: rest, kw⟩ : Args) = ⟨.ref x :: us, []⟩ ∨ (⟨.ref x :: rest, kw⟩ : Args) = ⟨[.ref x], fs.reverse.zip us.reverse⟩) → codeAny (model prog w) A (.call (.ref C) a) R ⟨hp, g, dr, tk, os⟩ := by
    rintro rest kw rfl hzr hx
    have k : ∀ b o, hp.get? b = some o → ((hp.push (kdv_tup rest)).push (excO C hp.objs.size)).get? b = some o := fun b o e => Heap.get?_push_of_some _ (Heap.get?_push_of_some _ e)
    have hget : ((hp.push (kdv_tup rest)).push (excO C hp.objs.size)).get? (hp.objs.size + 1) = some (excO C hp.objs.size) := by heap_get
    have hnx : K.lookup (hp.objs.size + 1) = none := by
      cases e : K.lookup (hp.objs.size + 1) with
      | none => rfl
      | some o =>
        have z : hp.get? (hp.objs.size + 1) = some o := X _ _ e
        exact absurd (Nat.lt_of_succ_lt (Heap.lt_size z)) (Nat.lt_irrefl _)
    refine call_ownK F.excBase_ValueError (fun X => refsVE_contains X _ hbm) (X _ _ hC) (W.looks_findIn X I.iC) (fun self => bind_fn X self I.tC) (one_size hzr) ?_
    refine I.ini prog w _ _ ⟨(hp.push (kdv_tup rest)).push (excO C hp.objs.size), g, dr, tk, os⟩ (hp.objs.size + 1) hp.objs.size _ us (X.keeps k) (hlim.keeps k) hget hnx ?_ hl (hx _) fun h' tk' M => ?_
    · show A.depth + 1 < recursionLimit
      exact hroom
    · have old : ∀ b o, hp.get? b = some o → h'.get? b = some o := fun b o e => M.keep b o (Nat.ne_of_lt (Nat.lt_succ_of_lt (Heap.lt_size e))) (k b o e)
      obtain ⟨od, ho, hn, hd⟩ := M.obj
      refine ⟨rfl, hq h' tk' (hp.objs.size + 1) ⟨old, Nat.le_succ _, od, _, ho, hn, fun ne => ?_⟩⟩
      obtain ⟨dx, e1, e2, e3, e4⟩ := hd ne
      have e2' : ((hp.push (kdv_tup rest)).push (excO C hp.objs.size)).objs.size ≤ dx := e2
      rw [Heap.size_push, Heap.size_push] at e2'
      exact ⟨dx, e1, e2', e4⟩
  rcases ha with rfl | rfl
  · exact main us [] rfl hz fun x => .inl rfl
  · exact main [] _ rfl (by decide) fun x => .inr rfl
end
theorem cut (h : Heap) (n : Nat) : ∃ G : Heap, (∀ b, b < n → G.get? b = h.get? b) ∧ G.objs.size ≤ n ∧ (∀ b o, G.get? b = some o → h.get? b = some o) := by
  have e : ∀ b, b < n → (h.objs.extract 0 n)[b]? = h.objs[b]? := fun b hb => by
    rw [Array.getElem?_extract]
    by_cases hs : b < h.objs.size
    · rw [if_pos (by omega), Nat.zero_add]
    · rw [if_neg (by omega)]
      exact (Array.getElem?_eq_none (by omega)).symm
  have s : (h.objs.extract 0 n).size ≤ n := by
    rw [Array.size_extract]
    omega
  have m : ∀ b, b < n → (⟨h.objs.extract 0 n, h.life⟩ : Heap).get? b = h.get? b := fun b hb => by
    unfold Heap.get?
    rw [e b hb]
  refine ⟨⟨h.objs.extract 0 n, h.life⟩, m, s, fun b o q => ?_⟩
  have hb : b < n := Nat.lt_of_lt_of_le (Heap.lt_size q) s
  rw [← m b hb]
  exact q
end EX
namespace L2
open PySem PySem.Spec PyProof.Rows EX
section
variable {X : Cx} {B C fI : Addr} {nm : Str} {fs : List Str} {pins : List (Addr × Obj)} {σ : St} {H1 : Hp} {s1 : Shared} {Q : VK}
end
end L2
namespace EX
open PySem PySem.W PySem.HandSPX
section
variable {K : Frag} {B C : Addr} {nm : Str} {fs : List Str}
theorem ExK.clsIn (T : ExK K B nm C fs) : ∃ cd, W.clsIn K C = some cd ∧ cd.mro = .ref C :: .ref B :: [.type "ValueError", .type "Exception", .type "BaseException", .type "object"] ∧ cd.hasDict = true := by
  obtain ⟨q, N, bs, sn, sub, ab, col, dd, k0, k1, k2, k3, k5, hC⟩ := T.cls
  refine ⟨{ name := nm, bases := bs, mro := .ref C :: .ref B :: veTail, ns := N, qualname := q, hasDict := true, slotNames := sn, subclasses := sub, abstract := ab, collection := col, hasDel := false }, ?_, rfl, rfl⟩
  unfold W.clsIn
  rw [hC] <;> rfl
theorem ExK.mro (T : ExK K B nm C fs) (t : Value) : mroIn K C t = some ((.ref C :: .ref B :: [.type "ValueError", .type "Exception", .type "BaseException", .type "object"] : List Value).contains t) := by
  obtain ⟨cd, h1, h2, _⟩ := T.clsIn
  unfold mroIn
  rw [h1]
  show (if cd.mro.isEmpty = true then none else some (cd.mro.contains t)) = _
  rw [h2]
  rfl
theorem ExK.sub (T : ExK K B nm C fs) (t : Value) : subIn K (.ref C) t = some ((.ref C :: .ref B :: [.type "ValueError", .type "Exception", .type "BaseException", .type "object"] : List Value).contains t) := T.mro t
theorem ExK.hd (T : ExK K B nm C fs) : hasDictIn K C = true := by
  obtain ⟨cd, h1, _, h3⟩ := T.clsIn
  unfold hasDictIn
  rw [h1]
  exact h3
theorem ExK.same {B' C' : Addr} {nm' : Str} {fs' : List Str} (T : ExK K B nm C fs) (T' : ExK K B' nm' C' fs') : decide (C = C') = (nm == nm') := by
  by_cases h : nm = nm'
  · subst h
    have e := T.ns.symm.trans T'.ns
    cases e
    simp
  · have ne : C ≠ C' := fun e => by
      subst e
      obtain ⟨_, _, _, _, _, _, _, _, _, _, _, _, _, h1⟩ := T.cls
      obtain ⟨_, _, _, _, _, _, _, _, _, _, _, _, _, h2⟩ := T'.cls
      have z := h1.symm.trans h2
      unfold excClassObj at z
      injection z with z
      injection z with z1 z2 z3 z4
      injection z3 with z3
      injection z3 with z3
      exact h z3
    simp [ne, h]
end
end EX
namespace L2
open PySem PySem.Spec PyProof.Rows EX
section
variable {X : Cx}
end
end L2
namespace DI
open PySem PySem.Spec PyProof.Rows L2 EX
variable [Nm]
/-- an error's class of the top -/
structure Cl (K : PySem.W.Frag) (mg : Str → Option Value) (nm : Str) (fs : List Str) : Prop where
  ex : ∃ B C fI, ExK K B nm C fs ∧ ExI K C fI fs ∧ mg nm = some (.ref C)
section
variable {X : Cx} {p : Pl} {nm : Str} {fs : List Str} {t : WA} {e : Expr} {es : List Expr} {pf pos : Pos} {ms : List Bool} {k : Nat}
/-! a field -/
end
end DI
namespace DI
open PySem PySem.Spec PyProof.Rows L2 EX
variable [Nm]
/-- the class that all are under -/
structure Bk (K : PySem.W.Frag) (mg : Str → Option Value) : Prop where
  ex : ∃ B, PySem.W.nsIn K mainGlobals "BookError" = some (some (.ref B)) ∧ (∃ cd, PySem.W.clsIn K B = some cd ∧ cd.name = "BookError") ∧ PySem.W.typeIn K (.ref B) = some (.type "type") ∧ mg "BookError" = some (.ref B)
section
variable {X : Cx} {p : Pl} {nm : Str} {fs : List Str} {t : WA} {e : Expr} {es : List Expr} {pf pt pos : Pos} {ms : List Bool} {k : Nat} {w : W}
def wG (g : D → Option D) (w : W) : W := ⟨fun s P => w.f s fun d s1 => get (g d) fun z => P z s1, fun s P P' h q => w.mono _ _ _ (fun d s1 q => get_mono (fun z => h z s1) q) q⟩
end
end DI
namespace DI
open PySem PySem.Spec PyProof.Rows L2 EX
variable [Nm]
section
variable {X : Cx} {p : Pl} {a b e : Expr} {es : List Expr} {pf pt pos : Pos} {w wa wb : W}
def gRep : D → D → Option D
  | .lst ds, .int k => some (.lst (List.replicate k.toNat ds).flatten)
  | _, _ => none
def cRep : D → D → Prop
  | .lst ds, .int k => -(2 ^ 63) ≤ k ∧ k < 2 ^ 63 ∧ ds.length * k.toNat ≤ sizeLine
  | _, _ => False
theorem rep_rp {K : PySem.W.Frag} {dr : Option Addr} {G : Hp} {xs : List V} {ds : List D} (h : DI.RpA K dr G xs ds) : ∀ n, DI.RpA K dr G (List.replicate n xs).flatten (List.replicate n ds).flatten
  | 0 => .nil
  | n + 1 => by
    rw [List.replicate_succ, List.replicate_succ, List.flatten_cons, List.flatten_cons]
    exact h.append (rep_rp h n)
def enumD (ds : List D) : List D := ds.zipIdx.map fun x => .tup [.int (x.2 : Int), x.1]
theorem enumD_get {ds : List D} {i : Nat} {d : D} (h : (enumD ds)[i]? = some d) : ∃ y, ds[i]? = some y ∧ d = .tup [.int (i : Int), y] := by
  unfold enumD at h
  rw [List.getElem?_map, List.getElem?_zipIdx] at h
  cases q : ds[i]? with
  | none => rw [q] at h; cases h
  | some y =>
    rw [q] at h
    cases h
    exact ⟨y, rfl, by simp⟩
def wiE (w : W) : WI := ⟨fun s P => w.f s fun d s1 => get (lstD d) fun ds => P (enumD ds) s1, fun s P P' h q => w.mono _ _ _ (fun d s1 q => get_mono (fun ds q => h _ _ q) q) q⟩
end
end DI
namespace DI
open PySem PySem.Spec PyProof.Rows L2 EX
variable [Nm]
mutual
def plainX : D → Bool
  | .drw => false
  | .dct _ _ => false
  | .exc _ _ _ => false
  | .lst xs => plainXA xs
  | .tup xs => plainXA xs
  | _ => true
def plainXA : List D → Bool
  | [] => true
  | x :: xs => plainX x && plainXA xs
end
section
variable {X : Cx} {pins : List (Addr × Obj)} {σ : L2.St} {H G : Hp} {s : Shared} {dr : Option Addr}
theorem one_ne (I : L2.Inv X pins σ H s) (hs : Sub G H) (o : One X.K G) {a : Addr} {xs : List V} (h : H a = some (.lst xs)) : a ≠ sysModules := fun e => by
  subst e
  obtain ⟨o, hc, h1 | h1⟩ := o
  · rw [hs _ _ h1] at h
    cases h
  · have z : ObjOk X.prog X.w H s.heap sysModules (.lst xs) := I.hok _ _ h
    obtain ⟨_, its, n, _, g⟩ := z
    have y := I.kIn _ _ h1
    rw [y] at g
    cases g
    exact hc _ _ rfl
theorem paired_nil {α β : Type} {r : α → β → Prop} {ys : List β} (h : Paired r [] ys) : ys = [] := by
  cases h
  rfl
theorem pairs_nil {P : Program} {w : World} {es : List DictEntry} (h : Pairs (mixKind P w) es []) : es = [] := by
  cases h
  rfl
mutual
theorem rd_of (I : L2.Inv X pins σ H s) (hs : Sub G H) : ∀ {v : V} {d : D} {u : Value}, DI.Rp X.K dr G v d → plainX d = true → L2.RelV v u → ∃ as, Reads s.heap u (toPy d) as ∧ (One X.K G → sysModules ∉ as)
  | _, _, _, .non, _, r => by cases r; simp only [toPy]; exact ⟨[], .none, fun _ => List.not_mem_nil⟩
  | _, _, _, .bl b, _, r => by cases r; simp only [toPy]; exact ⟨[], .bool b, fun _ => List.not_mem_nil⟩
  | _, _, _, .int i, _, r => by obtain ⟨t, rfl⟩ := r; simp only [toPy]; exact ⟨[], .int i t, fun _ => List.not_mem_nil⟩
  | _, _, _, .str x, _, r => by obtain ⟨t, rfl⟩ := r; simp only [toPy]; exact ⟨[], .str x t, fun _ => List.not_mem_nil⟩
  | _, _, _, .lst h ha, q, r => by
    cases r
    simp only [toPy]
    have h' := hs _ _ h
    have z : ObjOk X.prog X.w H s.heap _ (.lst _) := I.hok _ _ h'
    obtain ⟨_, its, n, rv, g⟩ := z
    obtain ⟨as, h1, h2⟩ := rdA_of I hs ha (by simpa only [plainX] using q) rv
    exact ⟨_ :: as, .list g rfl rfl (by simpa using h1), fun o => by
      intro m
      cases List.mem_cons.mp m with
      | inl m => exact one_ne I hs o h' m.symm
      | inr m => exact h2 o m⟩
  | _, _, _, .tup h ha, q, r => by
    cases r
    simp only [toPy]
    obtain ⟨its, rv, ⟨o, g, hc, n, hd⟩, _⟩ := I.tuple (Same.tup hs h)
    obtain ⟨as, h1, h2⟩ := rdA_of I hs ha (by simpa only [plainX] using q) rv
    exact ⟨as, .tuple g hc hd (by simpa using h1), h2⟩
  | _, _, _, .drw _ _, q, _ => by simp [plainX] at q
  | _, _, _, .dic0 h o, _, r => by
    cases r
    simp only [toPy]
    have z := I.hok _ _ (hs _ _ h)
    obtain ⟨_, ns, vs, kv, o', es, ep, g, ex, hd, _, pr, _⟩ := L2.dk_of I.hok (hs _ _ h)
    have e1 := paired_nil kv
    subst e1
    have e2 := pairs_nil pr
    refine ⟨_ :: ([] ++ []), .dict g ex.1 hd (by rw [e2]; exact .nil) (by rw [e2]; exact .nil), fun _ => ?_⟩
    intro m
    have m' := List.mem_singleton.mp m
    rw [← m'] at ns
    simp at ns
  | _, _, _, .dct _ _ _, q, _ => by simp [plainX] at q
  | _, _, _, .exc _ _ _ _ _ _ _ _, q, _ => by simp [plainX] at q
theorem rdA_of (I : L2.Inv X pins σ H s) (hs : Sub G H) : ∀ {vs : List V} {ds : List D} {us : List Value}, DI.RpA X.K dr G vs ds → plainXA ds = true → Vals vs us → ∃ as, ReadsAll s.heap us (toPyA ds) as ∧ (One X.K G → sysModules ∉ as)
  | _, _, _, .nil, _, .nil => by simp only [toPyA]; exact ⟨[], .nil, fun _ => List.not_mem_nil⟩
  | _, _, _, .cons r t, q, .cons ru tu => by
    simp only [plainXA, Bool.and_eq_true] at q
    simp only [toPyA]
    obtain ⟨as, h1, h2⟩ := rd_of I hs r q.1 ru
    obtain ⟨bs, h3, h4⟩ := rdA_of I hs t q.2 tu
    exact ⟨as ++ bs, .cons h1 h3, fun o m => (List.mem_append.mp m).elim (h2 o) (h4 o)⟩
end
mutual
theorem one_of {K : PySem.W.Frag} : ∀ {v : V} {d : D}, DI.Rp K dr G v d → plainX d = true → (toPy d).hasDict = true → One K G
  | _, _, .non, _, h => by simp [toPy, PyData.hasDict] at h
  | _, _, .bl b, _, h => by simp [toPy, PyData.hasDict] at h
  | _, _, .int i, _, h => by simp [toPy, PyData.hasDict] at h
  | _, _, .str x, _, h => by simp [toPy, PyData.hasDict] at h
  | _, _, .lst _ ha, q, h => oneA_of ha (by simpa only [plainX] using q) (by simpa only [toPy, PyData.hasDict] using h)
  | _, _, .tup _ ha, q, h => oneA_of ha (by simpa only [plainX] using q) (by simpa only [toPy, PyData.hasDict] using h)
  | _, _, .drw _ _, q, _ => by simp [plainX] at q
  | _, _, .dic0 _ o, _, _ => o
  | _, _, .dct _ _ _, q, _ => by simp [plainX] at q
  | _, _, .exc _ _ _ _ _ _ _ _, q, _ => by simp [plainX] at q
theorem oneA_of {K : PySem.W.Frag} : ∀ {vs : List V} {ds : List D}, DI.RpA K dr G vs ds → plainXA ds = true → PyData.hasDictAll (toPyA ds) = true → One K G
  | _, _, .nil, _, h => by simp [toPyA, PyData.hasDictAll] at h
  | _, _, .cons r t, q, h => by
    simp only [plainXA, Bool.and_eq_true] at q
    simp only [toPyA, PyData.hasDictAll, Bool.or_eq_true] at h
    exact h.elim (one_of r q.1) (oneA_of t q.2)
end
end
section
variable {X : Cx} {p : Pl}
end
end DI
namespace DI
open PySem PySem.Spec PyProof.Rows L2
variable [Nm]
section
variable {P : Program} {w : World} {K : PySem.W.Frag} {mg mb : Str → Option Value} {k : Nat} {fa a : Addr} {fd : FuncData} {x : Str} {sp : Sp} {s₁ : Shared} {vs : List Value} {ns : List Int}
theorem lawG1_core {H : Hp} (KX : K.In s₁.heap) (hns : s₁.heap.Ns mainGlobals mg) (hb : s₁.heap.Ns builtinsNs mb) (hbb : ∀ y : Str, y ≠ Str.ofString "__name__" → mb y = bootBuiltins y) (hlim : s₁.heap.NoLimit) (hg : s₁.gens = #[])
    (hr : Room k callerA) (F : ∀ base : Heap, K.In base → base.Ns mainGlobals mg → FnG P w K mg base k fa fd [x] sp)
    (hbind : ∀ (s : Shared) (u : Value), BindsTo s fd ⟨[u], []⟩ [(x, u)]) (hO : ∀ b, H b = none ∨ ∃ ob u, H b = some (.frz ob u) ∧ s₁.heap.get? b = some ob) (hok : HOk P w H s₁.heap)
    (hA : ∀ b, H b ≠ none → b = sysModules ∨ ∃ o its n, s₁.heap.get? b = some o ∧ o.data = .seq its n) (hK : ∀ b, H b ≠ none → K.lookup b = none)
    (hsp : sp [.ref a] H (fun v _ => v = .bl true) E0) :
    codeAny (model P w) callerA (.call (.ref fa) ⟨[.ref a], []⟩) (fun r s' => r = .ok (.ret (.bool true)) ∧ OldK s₁.heap s'.heap ∧ s'.os = s₁.os ∧ AllBare s'.gens) s₁ := by
  have free : ∀ {b : Addr} {o : Obj}, b ≠ sysModules → s₁.heap.get? b = some o → (∀ its n, o.data ≠ .seq its n) → H b = none := fun {b o} hb1 e d => by
    cases q : H b with
    | none => rfl
    | some u =>
      rcases hA b (by rw [q]; exact fun z => nomatch z) with z | ⟨o', its, n, e', d'⟩
      · exact absurd z hb1
      · rw [e] at e'
        cases e'
        exact absurd d' (d _ _)
  have names : ∀ {b : Addr} {m : Str → Option Value}, b ≠ sysModules → s₁.heap.Ns b m → (hidT s₁.heap H).Ns b m := fun {b m} hb1 ⟨o, es, ep, e, d, r⟩ =>
    ⟨o, es, ep, hidT_get e (free hb1 e fun its n z => by rw [d] at z; cases z), d, r⟩
  have inK : K.In (hidT s₁.heap H) := fun b o e => hidT_get (KX b o e) (by
    cases q : H b with
    | none => rfl
    | some u =>
      have ne : H b ≠ none := by rw [q]; exact fun z => nomatch z
      have z := hK b ne
      have e' : K.lookup b = some o := e
      rw [z] at e'
      cases e')
  have M : L2.Mod K mg (hidT s₁.heap H) := ⟨inK, names (by decide) hns, ⟨mb, names (by decide) hb, hbb⟩, by
    obtain ⟨mc, h1, h2⟩ := hlim
    exact ⟨mc, names (by decide) h1, h2⟩⟩
  have env : Env0 P w K mg (hidT s₁.heap H) callerA [] s₁ H := ⟨rfl, M, fun b o e => of_hidT e, Nat.le_of_eq (hidT_size s₁.heap H), trivial, fun b h => absurd h List.not_mem_nil, hok, AllBare.of_eq hg⟩
  refine codeAny_mono ((F _ inK (names (by decide) hns)).go callerA [] s₁ H ⟨[.ref a], []⟩ [.ref a] [.ref a] _ E0 hr rfl env (hbind s₁ _) (.cons rfl .nil) hsp) fun r s' h => ?_
  cases r with
  | error e => exact (show False from h).elim
  | ok fl =>
    cases fl with
    | next => exact (show False from h).elim
    | brk => exact (show False from h).elim
    | cont => exact (show False from h).elim
    | ret u =>
      obtain ⟨v, H', os, bare, un, hok', rv, q⟩ := h
      subst q
      cases rv
      refine ⟨rfl, OldK.of_keep fun b o e => ?_, os, bare⟩
      rcases hO b with z | ⟨ob, u, z, ge⟩
      · exact un.keep b o e z (fun z => absurd z List.not_mem_nil) List.not_mem_nil
      · have z2 := un.frzs b ob _ z
        have y : ObjOk P w H' s'.heap b (.frz ob u) := hok' b _ z2
        rw [ge] at e
        cases e
        exact y.1
theorem lawG1 (KX : K.In s₁.heap) (hns : s₁.heap.Ns mainGlobals mg) (hb : s₁.heap.Ns builtinsNs mb) (hbb : ∀ y : Str, y ≠ Str.ofString "__name__" → mb y = bootBuiltins y) (hlim : s₁.heap.NoLimit) (hsys : ∃ mm, s₁.heap.Ns sysModules mm) (hg : s₁.gens = #[])
    (ha : s₁.heap.get? a = some { cls := Value.type "list", data := Data.seq vs.toArray }) (hi : IntsAre vs ns) (hl : ns.length ≤ sizeLine) (hr : Room k callerA) (F : ∀ base : Heap, K.In base → base.Ns mainGlobals mg → FnG P w K mg base k fa fd [x] sp)
    (hbind : ∀ (s : Shared) (u : Value), BindsTo s fd ⟨[u], []⟩ [(x, u)]) (hsp : ∀ H, (∀ b, b ≠ sysModules → ∀ o, H b = some o → ∃ ob u, o = .frz ob u) → (∀ b o, H b = some o → ∃ ob u, o = .frz ob u) → SqL K H a (ns.map V.int) → One K H → sp [.ref a] H (fun v _ => v = .bl true) E0) :
    codeAny (model P w) callerA (.call (.ref fa) ⟨[.ref a], []⟩) (fun r s' => r = .ok (.ret (.bool true)) ∧ OldK s₁.heap s'.heap ∧ s'.os = s₁.os ∧ AllBare s'.gens) s₁ := by
  have rv := vals_ints hi
  have hz : vs.length ≤ sizeLine := by rw [← rv.length, List.length_map]; exact hl
  obtain ⟨mm, o1, es, ep, g1, d1, _⟩ := hsys
  have nd : ∀ its n, o1.data ≠ .seq its n := fun its n z => by rw [d1] at z; cases z
  have na : a ≠ sysModules := fun e => by
    subst e
    rw [g1] at ha
    cases ha
    cases d1
  let ya : HO := .frz { cls := Value.type "list", data := Data.seq vs.toArray } (.lst (ns.map V.int))
  let y1 : HO := .frz o1 (.ext fun _ => True)
  let H : Hp := fun b => if b = a then (match K.lookup a with | none => some ya | some _ => none) else if b = sysModules then (match K.lookup sysModules with | none => some y1 | some _ => none) else none
  have Ha : H a = (match K.lookup a with | none => some ya | some _ => none) := if_pos rfl
  have H1 : H sysModules = (match K.lookup sysModules with | none => some y1 | some _ => none) := by
    show (if sysModules = a then _ else _) = _
    rw [if_neg na.symm, if_pos rfl]
  have HN : ∀ b, b ≠ a → b ≠ sysModules → H b = none := fun b h1 h2 => by
    show (if b = a then _ else _) = _
    rw [if_neg h1, if_neg h2]
  have cs : ∀ b o, H b = some o → (b = a ∧ K.lookup a = none ∧ o = ya) ∨ (b = sysModules ∧ K.lookup sysModules = none ∧ o = y1) := fun b o e => by
    by_cases h1 : b = a
    · subst h1
      rw [Ha] at e
      cases q : K.lookup b with
      | none =>
        rw [q] at e
        cases e
        exact .inl ⟨rfl, rfl, rfl⟩
      | some z =>
        rw [q] at e
        cases e
    · by_cases h2 : b = sysModules
      · subst h2
        rw [H1] at e
        cases q : K.lookup sysModules with
        | none =>
          rw [q] at e
          cases e
          exact .inr ⟨rfl, rfl, rfl⟩
        | some z =>
          rw [q] at e
          cases e
      · rw [HN b h1 h2] at e
        cases e
  refine lawG1_core (H := H) KX hns hb hbb hlim hg hr F hbind (fun b => ?_) (fun b o z => ?_) (fun b z => ?_) (fun b z => ?_) (hsp H (fun b _ o e => ?_) (fun b o e => ?_) ?_ ?_)
  · cases q : H b with
    | none => exact .inl rfl
    | some o =>
      rcases cs b o q with ⟨rfl, _, rfl⟩ | ⟨rfl, _, rfl⟩
      · exact .inr ⟨_, _, rfl, ha⟩
      · exact .inr ⟨_, _, rfl, g1⟩
  · rcases cs b o z with ⟨rfl, _, rfl⟩ | ⟨rfl, _, rfl⟩
    · exact ⟨ha, by rw [List.length_map]; exact hl, vs, 0, rv, ha⟩
    · exact ⟨g1, trivial, ⟨_, g1⟩, fun _ _ _ _ => trivial⟩
  · cases q : H b with
    | none => exact absurd q z
    | some o =>
      rcases cs b o q with ⟨rfl, _, rfl⟩ | ⟨rfl, _, rfl⟩
      · exact .inr ⟨_, _, _, ha, rfl⟩
      · exact .inl rfl
  · cases q : H b with
    | none => exact absurd q z
    | some o =>
      rcases cs b o q with ⟨rfl, h, rfl⟩ | ⟨rfl, h, rfl⟩
      · exact h
      · exact h
  · rcases cs b o e with ⟨rfl, h, rfl⟩ | ⟨rfl, h, rfl⟩
    · exact ⟨_, _, rfl⟩
    · exact ⟨_, _, rfl⟩
  · rcases cs b o e with ⟨rfl, h, rfl⟩ | ⟨rfl, h, rfl⟩
    · exact ⟨_, _, rfl⟩
    · exact ⟨_, _, rfl⟩
  · cases q : K.lookup a with
    | none => exact .inl (.inr ⟨{ cls := Value.type "list", data := Data.seq vs.toArray }, by rw [Ha, q]⟩)
    | some o =>
      have eo := (KX a o q).symm.trans ha
      cases eo
      exact .inr ⟨_, vs.toArray, _, q, rfl, rfl, rfl, by simpa using hz, by simpa using rv⟩
  · cases q : K.lookup sysModules with
    | none => exact ⟨o1, nd, .inl (by rw [H1, q])⟩
    | some o =>
      have eo := (KX sysModules o q).symm.trans g1
      cases eo
      exact ⟨_, nd, .inr q⟩
theorem walkG1 {l : PySem.W.OpenLaw} {n k : Nat} {q : Program} {loose : List Str} {XP : (Str → Option Value) → Heap → Prop} {YP : World → Heap → Prop} {d : DefRec} {K : Params → PySem.W.Frag} {sp : World → Sp} {x : Str} (hn : l.most = some n) (hn2 : n ≤ sizeLine) (hdf : d.params.defaults = []) (hq : PyProof.Rows.importsNone q = true) (hr : Room k callerA)
    (hY : ∀ (w : World) (h : Heap), YP w h → (K w.params).In h)
    (F : ∀ (w : World) (mg : Str → Option Value) (fa : Addr) (h : Heap), (K w.params).In h → h.Ns mainGlobals mg → mg d.name = some (.ref fa) →
      ∃ fd : FuncData, (∀ (s : Shared) (u : Value), BindsTo s fd ⟨[u], []⟩ [(x, u)]) ∧ ∀ base : Heap, (K w.params).In base → base.Ns mainGlobals mg → FnG l.prog w (K w.params) mg base k fa fd [x] (sp w))
    (hsp : ∀ (w : World) (H : Hp) (a : Addr) (ns : List Int), ns.length ≤ n → (∀ b o, H b = some o → ∃ ob u, o = .frz ob u) → SqL (K w.params) H a (ns.map V.int) → One (K w.params) H → sp w [.ref a] H (fun v _ => v = .bl true) E0) :
    PySem.W.WalkO q loose XP YP l.row.toRowW d [] (fun f vs => PySem.call f vs) :=
  Att.attach_call hn hdf fun w s₀ s₁ mg mb fa o pm cd doc a vs ns G Y ho hd hcd hmg hobj hints hlen hg => by
    obtain ⟨fd, h1, h2⟩ := F w mg fa s₁.heap (hY w s₁.heap Y) G.T.g hmg
    have sr := G.T.seer hq
    exact lawG1 (hY w s₁.heap Y) G.T.g G.T.b G.T.builtins G.T.nolimit (by obtain ⟨mm, h, _⟩ := sr.mods; exact ⟨mm, h⟩) hg hobj hints (Nat.le_trans hlen hn2) hr h2 h1 fun H _ hO hS ho => hsp w H a ns hlen hO hS ho
end
end DI
namespace EX
open PySem PySem.W PySem.Calls PyProof.Rows
section
variable {prog : Program} {w : World} {A : Around} {s : Shared} {it t : Addr} {i : Nat} {items : Array Value} {x : Value}
theorem tupIter_at {h h' : Heap} (hit : h.IsTupleIter it t i) (k : ∀ o, h.get? it = some o → h'.get? it = some o) : h'.IsTupleIter it t i := by
  obtain ⟨o, ho, hc, hd⟩ := hit
  exact ⟨o, k o ho, hc, hd⟩
theorem tup_at {h h' : Heap} (ht : h.IsTuple t items) (k : ∀ o, h.get? t = some o → h'.get? t = some o) : h'.IsTuple t items := by
  obtain ⟨o, ho, hc, hd⟩ := ht
  exact ⟨o, k o ho, hc, hd⟩
theorem nextOf_tuple_item {E : Value → Shared → Prop} {Q : Value → Shared → Prop} (hit : s.heap.IsTupleIter it t i) (ht : s.heap.IsTuple t items) (hx : items[i]? = some x)
    (hQ : ∀ h' : Heap, h'.IsTupleIter it t (i + 1) → Heap.SameBut it s.heap h' → Q x { heap := h', gens := s.gens, drawn := s.drawn, toks := s.toks, os := s.os }) :
    wpAny (model prog w) A (Builtin.SmallTypes.nextOf (.ref it)) Q E s := by
  obtain ⟨o, ho, hc, hd⟩ := id hit
  obtain ⟨ol, hol, _, nl, hdl⟩ := ht
  refine PySem.wpAny_bind ?_
  refine wpAny_callSpecial?_slot (Heap.IsTupleIter.typeIs hit) F.slot_tuple_iterator_next (wpAny_call_entry F.slot_tuple_iterator_next (Heap.IsTupleIter.typeIs hit) F.entry_tuple_iterator_next ?_ (F.args_tuple_iterator_next_1 (.ref it)))
  refine PySem.wpAny_bind ?_
  refine PySem.wpAny_pure ?_
  refine PySem.wpAny_bind (wpAny_field ho hd rfl ?_)
  refine PySem.wpAny_ite_false (by rfl) ?_
  refine PySem.wpAny_bind (wpAny_field ho hd rfl ?_)
  refine PySem.wpAny_bind (wpAny_seqItems hol hdl ?_)
  have hx' : items[((i : Nat) : Int).toNat]? = some x := hx
  dsimp only
  rw [hx']
  refine PySem.wpAny_bind (wpAny_setField ho hd (by simp) ?_)
  refine PySem.wpAny_pure ⟨x, rfl, PySem.wpAny_pure (hQ _ ⟨_, Heap.get?_update_self _ ho (Obj.isFreed_of_fields (Obj.data_mapFields hd _)), (Obj.cls_mapFields o _).trans hc, ?_⟩ (Heap.SameBut.update s.heap it _))⟩
  rw [Obj.data_mapFields hd]
  simp
  rfl
theorem nextOf_tuple_end {E : Value → Shared → Prop} {Q : Value → Shared → Prop} (hh : A.handled = none) (hit : s.heap.IsTupleIter it t i) (ht : s.heap.IsTuple t items) (hx : items[i]? = none)
    (hE : ∀ (h' : Heap) (e : Addr), Heap.ExtBut it s.heap h' → (∃ o, h'.get? e = some o ∧ o.cls = .type "StopIteration") → E (.ref e) { heap := h', gens := s.gens, drawn := s.drawn, toks := s.toks, os := s.os }) :
    wpAny (model prog w) A (Builtin.SmallTypes.nextOf (.ref it)) Q E s := by
  obtain ⟨o, ho, hc, hd⟩ := id hit
  obtain ⟨ol, hol, _, nl, hdl⟩ := ht
  refine PySem.wpAny_bind ?_
  refine wpAny_callSpecial?_slot (Heap.IsTupleIter.typeIs hit) F.slot_tuple_iterator_next (wpAny_call_entry F.slot_tuple_iterator_next (Heap.IsTupleIter.typeIs hit) F.entry_tuple_iterator_next ?_ (F.args_tuple_iterator_next_1 (.ref it)))
  refine PySem.wpAny_bind ?_
  refine PySem.wpAny_pure ?_
  refine PySem.wpAny_bind (wpAny_field ho hd rfl ?_)
  refine PySem.wpAny_ite_false (by rfl) ?_
  refine PySem.wpAny_bind (wpAny_field ho hd rfl ?_)
  refine PySem.wpAny_bind (wpAny_seqItems hol hdl ?_)
  have hx' : items[((i : Nat) : Int).toNat]? = none := hx
  dsimp only
  rw [hx']
  refine PySem.wpAny_bind (PySem.wpAny_rule ?_)
  refine PySem.wpAny_bind (wpAny_setField ho hd (by simp) ?_)
  unfold Builtin.SmallTypes.stopIteration
  refine PySem.wpAny_bind ?_
  unfold PySem.newExc
  refine PySem.wpAny_bind ?_
  refine wpAny_newObj_type ?_
  refine PySem.wpAny_bind (wpAny_of_eq rfl ?_)
  refine wpAny_newObj_type ?_
  unfold PySem.raiseNew
  refine PySem.wpAny_bind (PySem.wpAny_handled ?_)
  have hh' : A.in1.handled = none := hh
  rw [hh']
  dsimp only
  refine PySem.wpAny_throw ?_
  refine hE _ _ ?_ ⟨_, Heap.get?_push_size _ rfl, rfl⟩
  · have z := (Heap.SameBut.update s.heap it (Obj.mapFields fun x => x.setIfInBounds 0 Value.none)).extBut
    exact (z.push _).push _
theorem draws_tuple (hh : A.handled = none) (it t : Addr) (ne : t ≠ it) (items : Array Value) : Draws prog w A it [it, t] items.size (fun i v => items[i]? = some v) fun i h => h.IsTupleIter it t i ∧ h.IsTuple t items where
  live := fun i h st => by
    obtain ⟨⟨o, ho, _⟩, _⟩ := st
    exact ⟨o, ho⟩
  frame := fun i h h' st k => ⟨tupIter_at st.1 (k it (by simp)), tup_at st.2 (k t (by simp))⟩
  item := fun i s Q E hi st hQ => nextOf_tuple_item st.1 st.2 (getElem?_pos items i hi) fun h' hit' hs' => hQ items[i] h' s.toks (getElem?_pos items i hi) ⟨hit', st.2.extBut hs'.extBut ne⟩ hs'
  done := fun s Q E st hE => nextOf_tuple_end hh st.1 st.2 (by simp) hE
theorem draws_end (hh : A.handled = none) (it t : Addr) (items : Array Value) (n : Nat) (hn : items[n]? = none) : Draws prog w A it [it, t] n (fun _ _ => True) fun i h => h.IsTupleIter it t i ∧ h.IsTuple t items ∧ i = n where
  live := fun i h st => by
    obtain ⟨⟨o, ho, _⟩, _⟩ := st
    exact ⟨o, ho⟩
  frame := fun i h h' st k => ⟨tupIter_at st.1 (k it (by simp)), tup_at st.2.1 (k t (by simp)), st.2.2⟩
  item := fun i s Q E hi st hQ => absurd st.2.2 (Nat.ne_of_lt hi)
  done := fun s Q E st hE => nextOf_tuple_end hh st.1 st.2.1 hn hE
theorem meets_enumT (t : Addr) (items : Array Value) : Meets (Builtin.«enumerate.__new__» { pos := [.type "enumerate", .ref t] }) fun A R s =>
    s.heap.IsTuple t items ∧ R (.ok (.ret (.ref (s.heap.push { cls := .type "tuple_iterator", data := .fields #[.ref t, .int 0 0] }).objs.size)))
      { heap := (s.heap.push { cls := .type "tuple_iterator", data := .fields #[.ref t, .int 0 0] }).push { cls := .type "enumerate", data := .fields #[.none, .bool false, .ref s.heap.objs.size, rawInt 0, .none, .none] }, gens := s.gens, drawn := s.drawn, toks := s.toks, os := s.os } :=
  Meets.of_wp fun prog w A R s h => by
    obtain ⟨hp, g, d, tk, os⟩ := s
    obtain ⟨ht, h⟩ := h
    have hsub := sub_enumerate
    refine PySem.wpAny_bind ?_
    refine PySem.wpAny_bind ?_
    refine PySem.wpAny_pure ?_
    refine PySem.wpAny_ite_false (by rfl) ?_
    refine PySem.wpAny_bind ?_
    refine wpAny_of_eq hsub ?_
    refine PySem.wpAny_ite_false (by rfl) ?_
    refine PySem.wpAny_pure ?_
    refine PySem.wpAny_ite_true (by rfl) ?_
    refine PySem.wpAny_bind ?_
    refine PySem.wpAny_bind ?_
    refine wpAny_stack_any fun st => ?_
    refine PySem.wpAny_pure ?_
    have last : ∀ R' : PySem.Fin → Shared → Prop, R' (.done (.ret (.ref (hp.push { cls := .type "tuple_iterator", data := .fields #[.ref t, .int 0 0] }).objs.size))) { heap := (hp.push { cls := .type "tuple_iterator", data := .fields #[.ref t, .int 0 0] }).push { cls := .type "enumerate", data := .fields #[.none, .bool false, .ref hp.objs.size, rawInt 0, .none, .none] }, gens := g, drawn := d, toks := tk, os := os } →
        wpAny (model prog w) A.in1 (do
          let __do_lift ← pyIter (.ref t)
          let __do_lift ← Builtin.SmallTypes.newRecord (.type "enumerate") (Builtin.SmallTypes.ownedTupleFields ++ [__do_lift, rawInt 0, .none, .none])
          ret __do_lift) R' (fun e s' => R (.error e) s') { heap := hp, gens := g, drawn := d, toks := tk, os := os } := fun R' hR => by
      refine PySem.wpAny_bind (wpAny_pyIter_tuple ht ?_)
      refine PySem.wpAny_bind ?_
      unfold Builtin.SmallTypes.newRecord
      dsimp only
      refine wpAny_newObj_type (hd := by unfold sizeOk; first | (show (6 : Nat) ≤ _; rw [sizeLine_eq]; decide) | (simp [Builtin.SmallTypes.ownedTupleFields, sizeLine_eq])) ?_
      exact PySem.wpAny_pure hR
    split
    · rename_i c tail kw snd tl heq
      cases (c == Value.type "enumerate") with
      | true => exact last _ ⟨_, rfl, h⟩
      | false => exact last _ ⟨_, rfl, h⟩
    · exact last _ ⟨_, rfl, h⟩
theorem call_enumT {E : Value → Shared → Prop} {Q : Value → Shared → Prop} (ht : s.heap.IsTuple t items)
    (h : ∀ h' : Heap, IsEnum h' (s.heap.objs.size + 1) s.heap.objs.size 0 .none → h'.IsTupleIter s.heap.objs.size t 0 → h'.objs.size = s.heap.objs.size + 2 → (∀ b o, s.heap.get? b = some o → h'.get? b = some o) → Q (.ref (s.heap.objs.size + 1)) { heap := h', gens := s.gens, drawn := s.drawn, toks := s.toks, os := s.os }) :
    wpAny (model prog w) A (call (.type "enumerate") [.ref t]) Q E s := by
  refine callType_new F.called_enumerate (by decide) (F.typeCall_enumerate_1 (.ref t)) (F.newCall_enumerate_1 (.ref t)) (fun obj => F.args_object_init_2 obj (.ref t)) F.entry_enumerate_new (meets_enumT t items) ⟨ht, ?_⟩
  have hz := Heap.size_push s.heap { cls := .type "tuple_iterator", data := .fields #[.ref t, .int 0 0] }
  have he := Heap.get?_push_size (s.heap.push { cls := .type "tuple_iterator", data := .fields #[.ref t, .int 0 0] }) (o := { cls := .type "enumerate", data := .fields #[.none, .bool false, .ref s.heap.objs.size, rawInt 0, .none, .none] }) rfl
  show (Shared.TypeIs _ (.ref _) "enumerate" ∧ Q (.ref _) _)
  rw [hz] at he ⊢
  exact ⟨⟨_, he, rfl⟩, h _ he ⟨_, Heap.get?_push_of_some _ (Heap.get?_push_size s.heap rfl), rfl, rfl⟩ (by rw [Heap.size_push, hz]) fun b o x => Heap.get?_push_of_some _ (Heap.get?_push_of_some _ x)⟩
end
end EX
namespace L2
open PySem PySem.Spec PyProof.Rows EX
/-- enumerate over a tuple -/
def IteT (K : PySem.W.Frag) (a : Addr) : It where
  go := fun i H => ∃ xs x, SqT K H a xs ∧ xs[i]? = some x
  yld := fun i H v H' => ∃ T x, v = .ref T ∧ H T = none ∧ H' = upd H T (.tup [.int (i : Int), x]) ∧ ∀ xs, SqT K H a xs → xs[i]? = some x
  stop := fun i H => ∃ xs, SqT K H a xs ∧ xs.length ≤ i
theorem turn_enumT {P : Program} {w : World} {K : PySem.W.Frag} {elts : List Expr} {kk : Nat} {tpos : Pos} (a e it : Addr) : Turn P w K (.Tuple elts kk tpos) (IteT K a) [e, it] e fun i h => (∃ old, IsEnum h e it (i : Int) old) ∧ h.IsTupleIter it a i ∧ e ≠ it where
  mem := by simp
  obj := fun i h st b hb => by
    obtain ⟨⟨old, he⟩, ⟨o, ho, hc, hd⟩, _⟩ := st
    have hb' : b = e ∨ b = it := by simpa using hb
    rcases hb' with rfl | rfl
    · exact ⟨_, he, fun v q => nomatch q⟩
    · exact ⟨o, ho, fun v q => by rw [hd] at q; cases q⟩
  keep := fun i h h' st k => by
    obtain ⟨⟨old, he⟩, hit, ne⟩ := st
    exact ⟨⟨old, k e (by simp) _ he⟩, tupIter_at hit (k it (by simp)), ne⟩
  item := fun X hP hw hK hc i pins s σ H E I hf st hg => by
    subst hP hw hK
    obtain ⟨⟨old, he⟩, hit, hne⟩ := st
    obtain ⟨xs, x, hq, hx⟩ := hg
    obtain ⟨its, rv, p, hz⟩ := I.tuple hq
    obtain ⟨u, hu, ru⟩ := Vals.get rv hx
    have hel := Heap.lt_size he
    have hil : it < s.heap.objs.size := by
      obtain ⟨w, q, _⟩ := hit
      exact Heap.lt_size q
    have hu' : its.toArray[i]? = some u := by simpa using hu
    have hlt : i < its.toArray.size := (Array.getElem?_eq_some_iff.mp hu').1
    have nt : a ≠ it := fun z => by
      subst z
      obtain ⟨o1, g1, c1, _⟩ := p
      obtain ⟨o2, g2, c2, _⟩ := hit
      rw [g1] at g2
      cases g2
      rw [c1] at c2
      injection c2 with c2
      exact absurd c2 (by decide)
    have nae : e ≠ a := fun z => by
      subst z
      obtain ⟨o1, g1, c1, _⟩ := p
      rw [he] at g1
      cases g1
      have c3 : Value.type "enumerate" = Value.type "tuple" := c1
      injection c3 with c3
      exact absurd c3 (by decide)
    refine wpAny_pyNext_enum_itemD (draws_tuple (by exact I.ok.hd hc) it a nt its.toArray) he ⟨hit, p⟩ hlt hne (by simp [hne, nae]) fun x' h' tk hP ho hst hT hsz hk => ?_
    have ex : x' = u := by
      have z := hP.symm.trans hu'
      cases z
      rfl
    subst ex
    refine ⟨.ref s.heap.objs.size, rfl, wpAny_letOwnedTupleGo_enum ho fun h'' he' sb => ?_⟩
    have hT2 := (sb.2 s.heap.objs.size (Nat.ne_of_gt hel)).trans hT
    have new : ObjOk X.prog X.w (upd H s.heap.objs.size (.tup [.int (i : Int), x])) h'' s.heap.objs.size (.tup [.int (i : Int), x]) := ⟨(by show 2 ≤ sizeLine; decide), [.int (i : Int) tk, x'], .cons ⟨tk, rfl⟩ (.cons ru .nil), _, hT2, rfl, 0, rfl⟩
    have I1 := I.turnedNew (t' := tk + 1) (h' := h'') (ch := [e, it]) (fun b ob hb q => by
      have h1 : b ≠ e := fun z => hb (by simp [z])
      have h2 : b ≠ it := fun z => hb (by simp [z])
      exact (sb.2 b h1).trans (hk b ob h1 h2 q)) hf (Nat.le_refl _) new
    refine ⟨.ref s.heap.objs.size, upd H s.heap.objs.size (.tup [.int (i : Int), x]), I1, rfl, ⟨s.heap.objs.size, x, rfl, I.hok.fresh (Nat.le_refl _), rfl, fun ys hy => by rw [I.tuple_inj hy hq]; exact hx⟩, ⟨⟨x', ?_⟩, tupIter_at hst.1 fun o q => (sb.2 it (Ne.symm hne)).trans q, hne⟩, fun b hb => ?_⟩
    · have e1 : ((i + 1 : Nat) : Int) = (i : Int) + 1 := by omega
      rw [e1]
      exact he'
    · have hb' : b < s.heap.objs.size := by
        have z : b = e ∨ b = it := by simpa using hb
        rcases z with rfl | rfl
        · exact hel
        · exact hil
      rw [upd_ne (Nat.ne_of_lt hb')]
      exact (hf b hb).1
  done := fun X hP hw hK hc i pins s σ H E I hf st hg => by
    subst hP hw hK
    obtain ⟨⟨old, he⟩, hit, hne⟩ := st
    obtain ⟨xs, hq, hx⟩ := hg
    obtain ⟨its, rv, p, hz⟩ := I.tuple hq
    obtain ⟨f0, f1, f2, f3, f4, f5⟩ := hf it (by simp)
    have hl := rv.length
    have nt : a ≠ it := fun z => by
      subst z
      obtain ⟨o1, g1, c1, _⟩ := p
      obtain ⟨o2, g2, c2, _⟩ := hit
      rw [g1] at g2
      cases g2
      rw [c1] at c2
      injection c2 with c2
      exact absurd c2 (by decide)
    have hn : its.toArray[i]? = none := by
      have z : its.length ≤ i := by rw [← hl]; exact hx
      simpa using z
    exact wpAny_pyNext_enum_endD (draws_end (by exact I.ok.hd hc) it a its.toArray i hn) he ⟨hit, p, rfl⟩ fun h' eb => ⟨rfl, I.turned (fun b o hb q => eb b o hb q) f0 f1 f3 f4 f5⟩
  self := fun A i s Q E st h => by
    obtain ⟨⟨old, he⟩, _⟩ := st
    exact wpAny_pyIter_enum he h
def iEnumT (K : PySem.W.Frag) (ta : TA) : TI := fun σ H R => ta σ H fun vs H1 => ∃ a xs, vs = [.ref a] ∧ SqT K H1 a xs ∧ R (IteT K a) H1
theorem pi_enumT {X : Cx} {e : Expr} {ta : TA} {p pos tpos : Pos} {elts : List Expr} {kk : Nat} (hg : Gl X "enumerate") (hm : X.mg "enumerate" = none) (ha : PA X [e] ta) (hs : starEach [e] X.env = [(false, eval e X.env)] := by rfl) :
    PI X (.Tuple elts kk tpos) (.Call (.Name "enumerate" p) [e] [] pos) (iEnumT X.K ta) := by
  refine ⟨fun pins s σ H R I h => PyProof.Rows.Call_ (ld_blt I hg hm PyProof.Rows.boot_enumerate (PyProof.Rows.callWith_type1 (thn (ha.run pos pins s σ H _ I h) fun us s1 x => ?_) hs rfl) (by decide) (by decide)) rfl⟩
  obtain ⟨vs, H1, I1, r1, a, xs, rfl, hq, q⟩ := x
  obtain ⟨u, rfl, rv⟩ := vals1 r1
  obtain rfl : u = Value.ref a := rv
  obtain ⟨its, rv, p', hz⟩ := I1.tuple hq
  refine call_enumT p' fun h' he hit hsz hk => wpAny_pyIter_enum he ?_
  have I2 := I1.kept (t' := s1.toks) hk
  refine ⟨s1.heap.objs.size + 1, [s1.heap.objs.size + 1, s1.heap.objs.size], _, IteT X.K a, H1, rfl, I2, turn_enumT a (s1.heap.objs.size + 1) s1.heap.objs.size, ⟨⟨.none, he⟩, hit, Nat.succ_ne_self _⟩, fun b hb => ?_, q⟩
  have e' : b = s1.heap.objs.size + 1 ∨ b = s1.heap.objs.size := by simpa using hb
  have hle : s1.heap.objs.size ≤ b := by
    rcases e' with z | z
    · rw [z]
      exact Nat.le_succ _
    · rw [z]
      exact Nat.le_refl _
  exact I1.fpOk hle (I1.hok.fresh hle)
end L2
namespace DI
open PySem PySem.Spec PyProof.Rows L2 EX
variable [Nm]
section
variable {X : Cx} {p : Pl} {e : Expr} {pf pt pos : Pos} {w : W}
theorem src_enumT {q : Addr} {xs : List V} {ds : List D} {G : Hp} (hK : p.K = X.K) (h : SqT p.K G q xs) (k : p.RpA G xs ds) : Src p (IteT X.K q) (enumD ds) G := fun i H' G' e hs => by
  have h' : SqT X.K H' q xs := hK ▸ Same.tup hs (Same.tup e h)
  refine ⟨fun d hd => ?_, fun hi => ⟨xs, h', by rw [k.length]; simpa [enumD] using hi⟩⟩
  obtain ⟨y, hy, rfl⟩ := enumD_get hd
  obtain ⟨x, hx, rx⟩ := k.get hy
  refine ⟨⟨xs, x, h', hx⟩, fun v H'' ⟨T, x', e1, e2, e3, e4⟩ => .inr ⟨T, _, e2, e3, e1, ?_⟩⟩
  have e5 := e4 xs h'
  rw [hx] at e5
  cases e5
  subst e1
  have sm : Same G' (L2.upd G' T (.tup [.int (i : Int), x])) := Same.upd (hs.none e2)
  exact .tup (.inl (.inl upd_same)) (.cons (.int _) (.cons ((rx.mono e).mono sm) .nil))
def wiET (w : W) : WI := ⟨fun s P => w.f s fun d s1 => get (tupD d) fun ds => P (enumD ds) s1, fun s P P' h q => w.mono _ _ _ (fun d s1 q => get_mono (fun ds q => h _ _ q) q) q⟩
theorem id_enumT {elts : List Expr} {kk : Nat} {tpos : Pos} (h : PE X e (lift p w)) (hm : X.mg "enumerate" = none) (hK : p.K = X.K := by rfl) (hg : Gl X "enumerate" := by rfl) (hs : starEach [e] X.env = [(false, eval e X.env)] := by rfl) :
    PI X (.Tuple elts kk tpos) (.Call (.Name "enumerate" pf) [e] [] pos) (liftI p (wiET w)) :=
  PI.imp (pi_enumT hg hm (pa_cons h pa_nil (by rw [hs]; rfl)) hs) fun σ H Rr ⟨G, s, R, k⟩ => ⟨G, s, R, w.mono _ _ _ (fun d s1 k1 x H1 G1 e1 R1 r1 => by
    obtain ⟨ds, ed, k2⟩ := get_of k1
    cases d <;> cases ed
    cases r1 with
    | tup h k => exact ⟨_, _, rfl, hK ▸ Same.tup R1.sub h, k2 _ H1 G1 e1 R1 (src_enumT hK h k)⟩) k⟩
end
end DI
namespace DI
open PySem PySem.Spec PyProof.Rows L2 EX
variable [Nm]
section
variable {X : Cx} {p : Pl} {a b e e2 : Expr} {es : List Expr} {pf pt pos : Pos} {w wa wb : W}
/-! zip of two lists -/
def zipD (ds es : List D) : List D := List.zipWith (fun d e => .tup [d, e]) ds es
def wiZ (wa wb : W) : WI := ⟨fun s P => wa.f s fun d1 s1 => wb.f s1 fun d2 s2 => get (lstD d1) fun ds => get (lstD d2) fun es => P (zipD ds es) s2,
  fun s P P' h q => wa.mono _ _ _ (fun d1 s1 q => wb.mono _ _ _ (fun d2 s2 q => get_mono (fun ds q => get_mono (fun es q => h _ _ q) q) q) q) q⟩
/-! list(x) for a list of its own -/
def wCopy (w : W) : WA := ⟨fun s P => w.f s fun d s1 => get (lstD d) fun ds => P ds s1, fun s P P' h q => w.mono _ _ _ (fun d s1 q => get_mono (fun ds q => h _ _ q) q) q⟩
/-! x[k] = e, x a list of its own -/
def wPut (i : Nat) (wi wv : W) : WS := ⟨fun E s => wv.f s fun d s1 => get (ownE s1.env i) fun _ => wi.f s1 fun k s2 => get (intD0 k) fun k => get (ownE s2.env i) fun ds => get (ixN ds.length k) fun j => E.nx { s2 with env := s2.env.set i (.own (ds.set j d)) },
  fun E E' s h q => wv.mono _ _ _ (fun d s1 q => get_mono (fun _ q => wi.mono _ _ _ (fun k s2 q => get_mono (fun k q => get_mono (fun ds q => get_mono (fun j q => h.nx _ q) q) q) q) q) q) q⟩
where intD0 : D → Option Int
  | .int i => some i
  | _ => none
end
end DI
namespace L2
open PySem PySem.Spec PyProof.Rows EX
/-- how many unlike numbers there are -/
def unlike (ns : List Int) : Nat := (ns.foldl PyProof.Rows.step_dedup []).length
end L2
namespace DI
open PySem PySem.Spec PyProof.Rows L2 EX
variable [Nm]
section
variable {X : Cx} {p : Pl} {e : Expr} {pf p2 q pos : Pos} {w : W}
def intsD : List D → Option (List Int)
  | [] => some []
  | .int i :: ds => (intsD ds).map (i :: ·)
  | _ => none
def gUnl : D → Option D
  | .lst ds => (intsD ds).map fun ns => .int (unlike ns)
  | _ => none
def cUnl : D → Prop
  | .lst ds => ds.length < 64
  | _ => False
def wUnl (w : W) : W := ⟨fun s P => w.f s fun d s1 => cUnl d ∧ get (gUnl d) fun z => P z s1, fun s P P' h q => w.mono _ _ _ (fun d s1 q => ⟨q.1, get_mono (fun z => h z s1) q.2⟩) q⟩
end
end DI
/-! x = [.. for ..], where the model stores the new list from within -/
namespace DI
open PySem L2
variable [Nm]
section
variable {X : Cx} {p : Pl}
end
end DI
/-! Every second item of a list; what is walked may be a list or a tuple; a comprehension's targets that are tuples. -/
namespace L2
open PySem PySem.Spec PyProof.Rows
def evn {α : Type} : List α → List α
  | [] => []
  | [a] => [a]
  | a :: _ :: t => a :: evn t
theorem Vals.evn : ∀ {xs : List V} {us : List Value}, Vals xs us → Vals (L2.evn xs) (L2.evn us)
  | _, _, .nil => .nil
  | _, _, .cons r .nil => .cons r .nil
  | _, _, .cons r (.cons _ t) => .cons r (Vals.evn t)
section
variable {X : Cx}
/-! ### a list or a tuple walked -/
def iSeq (K : PySem.W.Frag) (tl : TE) : TI := fun σ H R => tl σ H fun x H1 => ∃ a, x = .ref a ∧ (((∃ xs, SqL K H1 a xs) ∧ R (Itl K a) H1) ∨ ((∃ xs, SqT K H1 a xs) ∧ R (Itt K a) H1))
theorem pi_seq {tg l : Expr} {tl : TE} (hl : PE X l tl) : PI X tg l (iSeq X.K tl) := by
  refine ⟨fun pins s σ H R I h => ?_⟩
  refine thn (hl.run pins s σ H _ I h) fun v s1 ⟨x, H1, I1, r1, q1⟩ => ?_
  obtain ⟨a, e, q1⟩ := q1
  subst e
  cases r1
  rcases q1 with ⟨⟨xs, hq⟩, q⟩ | ⟨⟨xs, hq⟩, q⟩
  · obtain ⟨its, rv, p, hz⟩ := I1.list hq
    refine wpAny_pyIter_list p.isList ?_
    refine ⟨s1.heap.objs.size, [s1.heap.objs.size], _, _, H1, rfl, I1.kept (t' := s1.toks) fun b o e => Heap.get?_push_of_some _ e, turn_list a _, ⟨_, Heap.get?_push_size _ rfl, rfl, rfl⟩, fun b hb => ?_, q⟩
    have e : b = s1.heap.objs.size := by simpa using hb
    subst e
    exact I1.fpOk (Nat.le_refl _) (I1.hok.fresh (Nat.le_refl _))
  · obtain ⟨its, rv, p, hz⟩ := I1.tuple hq
    refine wpAny_pyIter_tuple (show s1.heap.IsTuple a its.toArray from p) ?_
    refine ⟨s1.heap.objs.size, [s1.heap.objs.size], _, _, H1, rfl, I1.kept (t' := s1.toks) fun b o e => Heap.get?_push_of_some _ e, turn_tuple a _, ⟨_, Heap.get?_push_size _ rfl, rfl, rfl⟩, fun b hb => ?_, q⟩
    have e : b = s1.heap.objs.size := by simpa using hb
    subst e
    exact I1.fpOk (Nat.le_refl _) (I1.hok.fresh (Nat.le_refl _))
end
end L2
namespace DI
open PySem PySem.Spec PyProof.Rows L2 EX
variable [Nm]
theorem RpA.evn {K : PySem.W.Frag} {dr : Option Addr} {G : Hp} : ∀ {vs : List V} {ds : List D}, RpA K dr G vs ds → RpA K dr G (L2.evn vs) (L2.evn ds)
  | _, _, .nil => .nil
  | _, _, .cons r .nil => .cons r .nil
  | _, _, .cons r (.cons _ t) => .cons r (RpA.evn t)
section
variable {X : Cx} {p : Pl} {e tg : Expr} {w : W}
def wStep (n : Nat) (w : W) : W := ⟨fun s P => w.f s fun d s1 => get (lstD d) fun ds => P (.lst (evn (ds.drop n))) s1, fun s P P' h q => w.mono _ _ _ (fun d s1 q => get_mono (fun ds q => h _ _ q) q) q⟩
theorem f_wStep {n : Nat} {s P} : (wStep n w).f s P = (w.f s fun d s1 => get (lstD d) fun ds => P (.lst (evn (ds.drop n))) s1) := rfl
/-! a list or a tuple walked -/
def seqD : D → Option (List D)
  | .lst ds => some ds
  | .tup ds => some ds
  | _ => none
def wiQ (w : W) : WI := ⟨fun s P => w.f s fun d s1 => get (seqD d) fun ds => P ds s1, fun s P P' h q => w.mono _ _ _ (fun d s1 q => get_mono (fun ds q => h _ _ q) q) q⟩
theorem f_wiQ {s P} : (wiQ w).f s P = (w.f s fun d s1 => get (seqD d) fun ds => P ds s1) := rfl
theorem id_seq (h : PE X e (lift p w)) (hK : p.K = X.K := by rfl) : PI X tg e (liftI p (wiQ w)) := PI.imp (pi_seq h) fun σ H Rr ⟨G, s, R, k⟩ => ⟨G, s, R, w.mono _ _ _ (fun d s1 k1 x H1 G1 e1 R1 r1 => by
  obtain ⟨ds, ed, k2⟩ := get_of k1
  cases d <;> cases ed
  · cases r1 with
    | lst h k => exact ⟨_, rfl, .inl ⟨⟨_, SqL.of (R1.sub _ _ h)⟩, k2 _ H1 G1 e1 R1 (src_list h k)⟩⟩
  · cases r1 with
    | tup h k => exact ⟨_, rfl, .inr ⟨⟨_, hK ▸ Same.tup R1.sub h⟩, k2 _ H1 G1 e1 R1 (src_tup hK h k)⟩⟩) k⟩
/-! targets of a comprehension -/
structure LcG (p : Pl) (g : TG) (ge : D → List Sl → Option (List Sl)) (vs : List Nat) : Prop where
  run : ∀ (σ0 : L2.St) (H0 G0 H G : Hp) (v : V) (d : D) (n : Nat) (env env' : List Sl), (⟨p.K, p.dr, H0, G0⟩ : Pl).Rs σ0 H G ⟨env, n⟩ → p.Rp G v d → ge d env = some env' →
    ∃ σ2, wipe σ2 vs = wipe σ0 vs ∧ (⟨p.K, p.dr, H0, G0⟩ : Pl).Rs σ2 H G ⟨env', n⟩ ∧ ∀ Q : L2.St → Hp → Prop, Q σ2 H → g v σ0 H Q
structure LcGs (p : Pl) (g : TGs) (ge : List D → List Sl → Option (List Sl)) (vs : List Nat) : Prop where
  run : ∀ (σ0 : L2.St) (H0 G0 H G : Hp) (v : List V) (d : List D) (n : Nat) (env env' : List Sl), (⟨p.K, p.dr, H0, G0⟩ : Pl).Rs σ0 H G ⟨env, n⟩ → p.RpA G v d → ge d env = some env' →
    ∃ σ2, wipe σ2 vs = wipe σ0 vs ∧ (⟨p.K, p.dr, H0, G0⟩ : Pl).Rs σ2 H G ⟨env', n⟩ ∧ ∀ Q : L2.St → Hp → Prop, Q σ2 H → g v σ0 H Q
theorem LcG.t {g : TG} {ge : D → List Sl → Option (List Sl)} {vs : List Nat} (L : LcG p g ge vs) : LcT p g ge vs := ⟨fun σ0 H0 G0 H G v d n env env' R r e => by
  obtain ⟨σ2, h1, h2, h3⟩ := L.run (wipe σ0 vs) H0 G0 H G v d n env env' R r e
  exact ⟨σ2, by rw [h1, wipe_twice], h2, h3⟩⟩
end
end DI
/-! Loops by an invariant, comprehensions by what each item gives. -/
namespace DI
open PySem PySem.Spec PyProof.Rows L2 EX
variable [Nm]
section
variable {g : D → List Sl → Option (List Sl)} {tb : WS} {E : ED}
theorem forW_ind (I : Nat → S → Prop) : ∀ (ds : List D) (k : Nat) (s : S), I k s →
    (∀ i d s, ds[i]? = some d → I (k + i) s → get (g d s.env) fun env' => tb.f { nx := I (k + i + 1), rt := E.rt, bk := E.nx, ct := I (k + i + 1) } { s with env := env' }) → (∀ s, I (k + ds.length) s → E.nx s) → forW g tb E ds s
  | [], k, s, h0, _, hE => hE s h0
  | d :: ds, k, s, h0, hs, hE => by
    have step := hs 0 d s rfl h0
    have next : ∀ s', I (k + 1) s' → forW g tb E ds s' := fun s' h => forW_ind I ds (k + 1) s' h (fun i d' s2 hd hI => by
      have z := hs (i + 1) d' s2 (by simpa using hd) (by rw [show k + (i + 1) = k + 1 + i from by omega]; exact hI)
      rw [show k + (i + 1) = k + 1 + i from by omega] at z
      exact z) (fun s2 h2 => hE s2 (by rw [show k + (d :: ds).length = k + 1 + ds.length from by simp only [List.length_cons]; omega]; exact h2))
    exact get_mono (fun env' q => tb.mono { nx := I (k + 0 + 1), rt := E.rt, bk := E.nx, ct := I (k + 0 + 1) } { nx := forW g tb E ds, rt := E.rt, bk := E.nx, ct := forW g tb E ds } _ (ED.Le.mk next (fun _ _ h => h) (fun _ h => h) next) q) step
/-- over typed items -/
theorem forW_ty {α : Type} {inj : α → D} (I : List α → S → Prop) : ∀ (xs : List α) (s : S), I xs s →
    (∀ x t s, (∃ pre, xs = pre ++ x :: t) → I (x :: t) s → get (g (inj x) s.env) fun env' => tb.f { nx := I t, rt := E.rt, bk := E.nx, ct := I t } { s with env := env' }) → (∀ s, I [] s → E.nx s) → forW g tb E (xs.map inj) s
  | [], s, h0, _, hE => hE s h0
  | x :: t, s, h0, hs, hE => by
    have step := hs x t s ⟨[], rfl⟩ h0
    have next : ∀ s', I t s' → forW g tb E (t.map inj) s' := fun s' h => forW_ty I t s' h (fun y u s2 hp hI => by
      obtain ⟨pre, e⟩ := hp
      exact hs y u s2 ⟨x :: pre, by rw [e]; rfl⟩ hI) hE
    exact get_mono (fun env' q => tb.mono { nx := I t, rt := E.rt, bk := E.nx, ct := I t } { nx := forW g tb E (t.map inj), rt := E.rt, bk := E.nx, ct := forW g tb E (t.map inj) } _ (ED.Le.mk next (fun _ _ h => h) (fun _ h => h) next) q) step
end
section
variable {ge : D → List Sl → Option (List Sl)} {vs : List Nat} {tt : WT} {te : W} {env : List Sl}
end
end DI
/-! Further equations; small lemmas. -/
namespace DI
open PySem PySem.Spec PyProof.Rows L2 EX
variable [Nm]
/-- the rest is left alone until the value is known: what stands in a type is not looked into -/
inductive Tg {α : Type} (P : α) : Type
  | mk
def gt {α : Type} (o : Option α) (P : α → Prop) (_ : Tg P) : Prop := get o P
def fl (F : FT) (ds : List D) (n : Nat) (Q : D → Nat → Prop) (_ : Tg Q) : Prop := F.f ds n Q
theorem get_lazy {α : Type} {o : Option α} {P : α → Prop} : get o P = gt o P .mk := rfl
theorem ft_lazy {F : FT} {ds : List D} {n : Nat} {Q : D → Nat → Prop} : F.f ds n Q = fl F ds n Q .mk := rfl
theorem gt_some {α : Type} {d : α} {P : α → Prop} {t : Tg P} : gt (some d) P t = P d := rfl
theorem gt_if {α : Type} {c : Prop} [Decidable c] {x y : Option α} {P : α → Prop} {t : Tg P} : gt (if c then x else y) P t = if c then get x P else get y P := by split <;> rfl
/-- what a name gives -/
def vtake (env : List Sl) (i : Nat) : Option (D × List Sl) := match env[i]? with
  | some (.val d) => some (d, env)
  | some (.own ds) => some (.lst ds, env.set i (.val (.lst ds)))
  | some (.dic ks ds) => some (.dct ks ds, env.set i (.val (.dct ks ds)))
  | _ => none
theorem g_wVar {i : Nat} {env : List Sl} {n : Nat} {P : D → S → Prop} : (wVar i).f ⟨env, n⟩ P = get (vtake env i) fun r => P r.1 ⟨r.2, n⟩ := by
  rw [f_wVar]
  unfold vtake
  cases env[i]? with
  | none => rfl
  | some x => cases x <;> rfl
theorem f_wG {g : D → Option D} {w : W} {s P} : (wG g w).f s P = (w.f s fun d s1 => get (g d) fun z => P z s1) := rfl
theorem f_wiE {w : W} {s P} : (wiE w).f s P = (w.f s fun d s1 => get (lstD d) fun ds => P (enumD ds) s1) := rfl
theorem f_wiET {w : W} {s P} : (wiET w).f s P = (w.f s fun d s1 => get (tupD d) fun ds => P (enumD ds) s1) := rfl
theorem f_wiZ {wa wb : W} {s P} : (wiZ wa wb).f s P = (wa.f s fun d1 s1 => wb.f s1 fun d2 s2 => get (lstD d1) fun ds => get (lstD d2) fun es => P (zipD ds es) s2) := rfl
theorem f_wCopy {w : W} {s P} : (wCopy w).f s P = (w.f s fun d s1 => get (lstD d) fun ds => P ds s1) := rfl
theorem f_wPut {i : Nat} {wi wv : W} {E s} : (wPut i wi wv).f E s = (wv.f s fun d s1 => get (ownE s1.env i) fun _ => wi.f s1 fun k s2 => get (wPut.intD0 k) fun k => get (ownE s2.env i) fun ds => get (ixN ds.length k) fun j => E.nx { s2 with env := s2.env.set i (.own (ds.set j d)) }) := rfl
theorem f_wUnl {w : W} {s P} : (wUnl w).f s P = (w.f s fun d s1 => cUnl d ∧ get (gUnl d) fun z => P z s1) := rfl
theorem f_wRev {w : W} {s P} : (wRev w).f s P = (w.f s fun d s1 => get (gRev d) fun z => P z s1) := rfl
theorem f_wRevV {i : Nat} {s P} : (wRevV i).f s P = (get (vget s.env i) fun d => get (gRev d) fun z => P z s) := rfl
theorem f_wDic {i : Nat} {s P} : (wDic i).f s P = (vget s.env i = some .drw ∧ P .dic0 s) := rfl
theorem f_wNever {E s} : wNever.f E s = False := rfl
theorem e_rev {ds : List D} : gRev (.lst ds) = some (.lst ds.reverse) := rfl
theorem f_down {w : W} {s P} : (wiDown w).f s P = (w.f s fun d s1 => ∃ j : Int, d = .int j ∧ 0 ≤ j ∧ j < 2 ^ 62 ∧ P (dwnD j.toNat) s1) := rfl
theorem f_iR2 {t : WA} {s P} : (wiR2 t).f s P = (t.f s fun ds s1 => ∃ i j, ds = [.int i, .int j] ∧ (-(2 ^ 62) ≤ i ∧ i < 2 ^ 62 ∧ -(2 ^ 62) ≤ j ∧ j < 2 ^ 62) ∧ P (rngD i (j - i).toNat) s1) := rfl
section
variable {i j : Int} {x y : Str} {ds es : List D} {a b : D} {u v : Bool}
theorem e_ltI : gLt (.int i) (.int j) = some (.bl (decide (i < j))) := rfl
theorem e_leI : gLe (.int i) (.int j) = some (.bl (decide (i ≤ j))) := rfl
theorem e_gtI : gGt (.int i) (.int j) = some (.bl (decide (i > j))) := rfl
theorem e_geI : gGe (.int i) (.int j) = some (.bl (decide (i ≥ j))) := rfl
theorem e_ltS : gLt (.str x) (.str y) = some (.bl (strLt x y)) := rfl
theorem e_leS : gLe (.str x) (.str y) = some (.bl (!strLt y x)) := rfl
theorem e_addI : gAdd (.int i) (.int j) = some (.int (i + j)) := rfl
theorem e_addS : gAdd (.str x) (.str y) = some (.str (x ++ y)) := rfl
theorem e_addT : gAdd (.tup ds) (.tup es) = some (.tup (ds ++ es)) := rfl
theorem e_addL : gAdd (.lst ds) (.lst es) = some (.lst (ds ++ es)) := rfl
theorem e_subI : gI (fun i j => D.int (i - j)) (.int i) (.int j) = some (.int (i - j)) := rfl
theorem e_modI : gI (fun i j => D.int (i % j)) (.int i) (.int j) = some (.int (i % j)) := rfl
theorem e_divI : gI (fun i j => D.int (i / j)) (.int i) (.int j) = some (.int (i / j)) := rfl
theorem e_mulI : gI (fun i j => D.int (i * j)) (.int i) (.int j) = some (.int (i * j)) := rfl
theorem e_eq : gEq a b = some (.bl (eqD a b)) := rfl
theorem e_ne : gNe a b = some (.bl (!eqD a b)) := rfl
theorem e_ixL : gIx (.lst ds) (.int i) = atI ds i := rfl
theorem e_ixT : gIx (.tup ds) (.int i) = atI ds i := rfl
theorem e_ixS : gIx (.str x) (.int i) = (atI x.cps.toList i).map fun c => .str ⟨#[c]⟩ := rfl
theorem e_lenL : gLen [.lst ds] = some (.int ds.length) := rfl
theorem e_lenT : gLen [.tup ds] = some (.int ds.length) := rfl
theorem e_lenS : gLen [.str x] = some (.int x.length) := rfl
theorem c_lenL : cLen [.lst ds] = True := rfl
theorem c_lenT : cLen [.tup ds] = True := rfl
theorem c_lenS : cLen [.str x] = (x.length ≤ sizeLine) := rfl
theorem c_ixL {k : D} : cIx (.lst ds) k = True := rfl
theorem c_ixT {k : D} : cIx (.tup ds) k = True := rfl
theorem c_ixS {k : D} : cIx (.str x) k = (x.length ≤ sizeLine) := rfl
theorem c_addI : cAdd (.int i) (.int j) = True := rfl
theorem c_addS : cAdd (.str x) (.str y) = (x.length + y.length ≤ sizeLine) := rfl
theorem c_addT : cAdd (.tup ds) (.tup es) = (ds.length + es.length ≤ sizeLine) := rfl
theorem c_addL : cAdd (.lst ds) (.lst es) = (ds.length + es.length ≤ sizeLine) := rfl
theorem c_modI : cMod (.int i) (.int j) = (0 < j) := rfl
theorem c_divI : cDiv (.int i) (.int j) = CDiv i j := rfl
theorem c_mulI : cMul (.int i) (.int j) = CMul i j := rfl
theorem c_slL : cSl (.lst ds) = True := rfl
theorem c_slT : cSl (.tup ds) = True := rfl
theorem c_slS : cSl (.str x) = (x.length ≤ sizeLine) := rfl
theorem e_slL {l h : Option Int} : gSl (.lst ds) l h = some (.lst (cutL ds l h)) := rfl
theorem e_slT {l h : Option Int} : gSl (.tup ds) l h = some (.tup (cutL ds l h)) := rfl
theorem e_slS {l h : Option Int} : gSl (.str x) l h = some (.str (cutS x l h)) := rfl
theorem e_tupL : gTuple [.lst ds] = some (.tup ds) := rfl
theorem e_tupT : gTuple [.tup ds] = some (.tup ds) := rfl
theorem e_int : gInt [.int i] = some (.int i) := rfl
theorem e_ord : gOrd [.str x] = some (.int (x.cps.getD 0 0 : Nat)) := rfl
theorem c_ord : cOrd [.str x] = (x.length = 1) := rfl
theorem e_strI : gStr [.int i] = some (.str (toString i)) := rfl
theorem c_strI : cStr [.int i] = (i.natAbs.log2 < 1920) := rfl
theorem e_inS : gIn (.str x) (.str y) = some (.bl (inStr x y)) := rfl
theorem e_ninS : gNin (.str x) (.str y) = some (.bl (!inStr x y)) := rfl
theorem e_all : gAll [.lst ds] = (blsOf ds).map fun bs => .bl (bs.all (fun b => b)) := rfl
theorem e_any : gAny [.lst ds] = (blsOf ds).map fun bs => .bl (bs.any (fun b => b)) := rfl
theorem c_eqI : cEq (.int i) (.int j) = True := eq_true (.inl rfl)
theorem c_eqS : cEq (.str x) (.str y) = True := eq_true (.inl rfl)
theorem c_eqB : cEq (.bl u) (.bl v) = True := eq_true (.inl rfl)
theorem e_isN : gIsN a .non = some (.bl (DI.isNon a)) := rfl
theorem e_notN : gNotN a .non = some (.bl (!DI.isNon a)) := rfl
theorem n_non : DI.isNon .non = true := rfl
theorem n_int : DI.isNon (.int i) = false := rfl
theorem n_str : DI.isNon (.str x) = false := rfl
theorem n_bl : DI.isNon (.bl u) = false := rfl
theorem n_lst : DI.isNon (.lst ds) = false := rfl
theorem n_tup : DI.isNon (.tup ds) = false := rfl
theorem n_dic0 : DI.isNon .dic0 = false := rfl
theorem n_dct {ks : List Key} : DI.isNon (.dct ks ds) = false := rfl
theorem c_inS : cIn (.str x) (.str y) = True := rfl
end
theorem kit_tuple {K : PySem.W.Frag} : KitT K "tuple" := kit_all K (by intro t ht; simp only [List.mem_cons, List.not_mem_nil, or_false] at ht; rcases ht with h | h | h | h | h | h | h <;> subst h <;> rfl)
theorem kit_str {K : PySem.W.Frag} : KitT K "str" := kit_all K (by intro t ht; simp only [List.mem_cons, List.not_mem_nil, or_false] at ht; rcases ht with h | h | h | h | h | h | h <;> subst h <;> rfl)
theorem lstD_lst {ds : List D} : lstD (.lst ds) = some ds := rfl
theorem tupD_tup {ds : List D} : tupD (.tup ds) = some ds := rfl
theorem seqD_lst {ds : List D} : seqD (.lst ds) = some ds := rfl
theorem seqD_tup {ds : List D} : seqD (.tup ds) = some ds := rfl
theorem line_of {n : Nat} (h : n ≤ 16000000) : n ≤ sizeLine := Nat.le_trans h (by decide)
theorem cm_mod {a b m : Int} (h0 : 0 < m) (h1 : m ≤ 2 ^ 64) : CMul (a % m) b := by
  have h2 := Int.emod_nonneg a (Int.ne_of_gt h0)
  have h3 := Int.emod_lt_of_pos a h0
  exact .inl ⟨by omega, by omega⟩
theorem atI_lt {α : Type} {xs : List α} {i : Int} (h0 : 0 ≤ i) (h1 : i < (xs.length : Int)) : ∃ a, atI xs i = some a ∧ a ∈ xs := by
  have h2 : i.toNat < xs.length := by omega
  refine ⟨xs[i.toNat], ?_, List.getElem_mem h2⟩
  unfold atI ixN
  have e : (if i < 0 then i + (xs.length : Int) else i) = i := if_neg (by omega)
  simp [h0, h1, h2]
  try omega
theorem atI_nat {α : Type} {xs : List α} {i : Nat} : atI xs (i : Int) = xs[i]? := by
  unfold atI ixN
  by_cases h : i < xs.length
  · have e : (if (i : Int) < 0 then (i : Int) + (xs.length : Int) else (i : Int)) = (i : Int) := if_neg (by omega)
    simp [h]
    try omega
  · have e : (if (i : Int) < 0 then (i : Int) + (xs.length : Int) else (i : Int)) = (i : Int) := if_neg (by omega)
    have e2 : xs[i]? = none := List.getElem?_eq_none (by omega)
    rw [e2]
    simp [h]
    try omega
theorem pick_of {xs : List D} {P : D → Prop} {r : Int} {Q : D → Prop} (h0 : 0 ≤ r) (h1 : r < (xs.length : Int)) (h : ∀ x ∈ xs, P x) (q : ∀ x, P x → Q x) : get (atI xs r) Q := by
  obtain ⟨a, e, m⟩ := atI_lt h0 h1
  rw [e]
  exact q a (h a m)
theorem rng_len (lo : Int) (n : Nat) : (rngD lo n).length = n := by
  unfold rngD
  simp
theorem beq_int (x y : Int) : (x == y) = decide (x = y) := by
  by_cases h : x = y
  · subst h
    simp
  · simp [h]
theorem eqD_int (x y : Int) : eqD (.int x) (.int y) = decide (x = y) := by
  unfold eqD
  simp only [toPy, PyData.eqv, beq_int]
theorem eqD_bl (x y : Bool) : eqD (.bl x) (.bl y) = decide (x = y) := by
  unfold eqD
  cases x <;> cases y <;> simp [toPy, PyData.eqv]
theorem eqD_str (x y : Str) : eqD (.str x) (.str y) = decide (x = y) := by
  unfold eqD
  simp only [toPy, PyData.eqv]
  by_cases h : x = y
  · subst h
    simp
  · simp [h]
end DI
/-! Dicts whose keys are ints and texts, by data. -/
namespace DI
open PySem PySem.Spec PyProof.Rows L2 EX
variable [Nm]
def keyD : D → Option Key
  | .int n => some (Sum.inl n)
  | .str z => some (Sum.inr z)
  | _ => none
def unK : Key → D
  | Sum.inl n => .int n
  | Sum.inr z => .str z
def hasK : List Key → Key → Bool
  | [], _ => false
  | k' :: ks, k => decide (k' = k) || hasK ks k
theorem hasK_mem {k : Key} : ∀ {ks : List Key}, hasK ks k = true ↔ k ∈ ks
  | [] => by simp [hasK]
  | k' :: ks => by
    simp only [hasK, Bool.or_eq_true, decide_eq_true_eq, hasK_mem (ks := ks), List.mem_cons]
    exact ⟨fun h => h.imp (fun e => e.symm) id, fun h => h.imp (fun e => e.symm) id⟩
theorem e_keyI {n : Int} : keyD (.int n) = some (Sum.inl n) := rfl
theorem e_keyS {z : Str} : keyD (.str z) = some (Sum.inr z) := rfl
/-- what stands at a key -/
def dGet : List Key → List D → Key → Option D
  | k' :: ks, d :: ds, k => if k' = k then some d else dGet ks ds k
  | _, _, _ => none
def dPutK (ks : List Key) (k : Key) : List Key := if hasK ks k = true then ks else ks ++ [k]
def dRep : List Key → List D → Key → D → List D
  | k' :: ks, d :: ds, k, e => (if k' = k then e else d) :: dRep ks ds k e
  | _, ds, _, _ => ds
def dPut (ks : List Key) (ds : List D) (k : Key) (d : D) : List D := if hasK ks k = true then dRep ks ds k d else ds ++ [d]
section
variable {K : PySem.W.Frag} {dr : Option Addr} {G H : Hp} {p : Pl}
theorem key_rb {d : D} {k : Key} {x : V} (h : keyD d = some k) (r : RpB p H G x d) : x = kV k := by
  cases d <;> cases h
  · exact rb_int r
  · exact rb_str r
theorem valV_some (k : Key) : ∀ kvs : List (Key × V), (valV kvs k).isSome = hasK (kvs.map (·.1)) k
  | [] => rfl
  | (k', v) :: kvs => by
    show _ = (decide (k' = k) || hasK (kvs.map (·.1)) k)
    by_cases e : k' = k
    · rw [valV_pos (p := (k', v)) e]
      simp [e]
    · rw [valV_neg (p := (k', v)) e, valV_some k kvs]
      simp [e]
theorem any_mem (k : Key) (kvs : List (Key × V)) : (kvs.any fun kv => decide (kv.1 = k)) = hasK (kvs.map (·.1)) k := by
  rw [valV_any, valV_some]
theorem putK_keys (k : Key) (v : V) (kvs : List (Key × V)) : (putK kvs k v).map (·.1) = dPutK (kvs.map (·.1)) k := by
  unfold putK dPutK
  rw [any_mem]
  by_cases h : hasK (kvs.map (·.1)) k = true
  · rw [if_pos h, if_pos h, List.map_map]
    apply List.map_congr_left
    intro q _
    show (if q.1 = k then (q.1, v) else q).1 = q.1
    split <;> rfl
  · rw [if_neg h, if_neg h, List.map_append]
    rfl
theorem rep_vals {k : Key} {v : V} {d : D} (r : Rp K dr G v d) : ∀ {kvs : List (Key × V)} {ds : List D}, RpA K dr G (kvs.map (·.2)) ds → RpA K dr G ((kvs.map fun kv => if kv.1 = k then (kv.1, v) else kv).map (·.2)) (dRep (kvs.map (·.1)) ds k d)
  | [], _, .nil => .nil
  | (k', u) :: kvs, _, .cons (d := d') (ds := ds) r' t => by
    show RpA K dr G ((if k' = k then (k', v) else (k', u)).2 :: _) ((if k' = k then d else d') :: _)
    by_cases e : k' = k
    · rw [if_pos e, if_pos e]
      exact .cons r (rep_vals r t)
    · rw [if_neg e, if_neg e]
      exact .cons r' (rep_vals r t)
theorem putK_vals {k : Key} {v : V} {d : D} (r : Rp K dr G v d) {kvs : List (Key × V)} {ds : List D} (h : RpA K dr G (kvs.map (·.2)) ds) : RpA K dr G ((putK kvs k v).map (·.2)) (dPut (kvs.map (·.1)) ds k d) := by
  unfold putK dPut
  rw [any_mem]
  by_cases e : hasK (kvs.map (·.1)) k = true
  · rw [if_pos e, if_pos e]
    exact rep_vals r h
  · rw [if_neg e, if_neg e, List.map_append]
    exact h.append (.cons r .nil)
/-! ### a dict given as data -/
def dctD : D → Option (List Key × List D)
  | .dct ks ds => some (ks, ds)
  | _ => none
theorem dctD_dct {ks : List Key} {ds : List D} : dctD (.dct ks ds) = some (ks, ds) := rfl
theorem dhas_of {kvs : List (Key × V)} {a : Addr} {y : V} {d2 : D} {kk : Key} (h : Rd H a (.dK kvs)) (r : RpB p H G y d2) (e : keyD d2 = some kk) : ∃ o, DGet H a y o ∧ o.isSome = hasK (kvs.map (·.1)) kk :=
  ⟨valV kvs kk, .inl ⟨kvs, kk, h, key_rb e r, rfl⟩, valV_some kk kvs⟩
end
section
variable {X : Cx} {p : Pl} {o i e k v : Expr} {pos pos' : Pos} {w wk wv wa wb : W} {j : Nat}
def rDIn : R2 := fun y x H Q => ∃ a o, x = .ref a ∧ DGet H a y o ∧ Q (.bl o.isSome) H
theorem op_din (hu : X.A.units + 1 < cLine) : OpR X (compareOp .In) rDIn := by
  intro pins s σ H x y v u Q I rx ry h
  obtain ⟨a, o, rfl, g, q⟩ := h
  cases ry
  exact d_in hu I g rx fun s3 I3 => ⟨.bl o.isSome, H, I3, rfl, q⟩
/-! ### a slot's own dict -/
def dicE (env : List Sl) (j : Nat) : Option (List Key × List D) := match env[j]? with
  | some (.dic ks ds) => some (ks, ds)
  | _ => none
theorem dicE_of {env : List Sl} {j : Nat} {ks : List Key} {ds : List D} (h : dicE env j = some (ks, ds)) : env[j]? = some (.dic ks ds) := by
  unfold dicE at h
  cases e : env[j]? with
  | none => rw [e] at h; cases h
  | some x =>
    rw [e] at h
    cases x <;> cases h
    rfl
/-- d[k] -/
def wDGetV (j : Nat) (wk : W) : W := ⟨fun s P => get (dicE s.env j) fun _ => wk.f s fun d2 s2 => get (dicE s2.env j) fun m => get ((keyD d2).bind (dGet m.1 m.2)) fun d => P d s2,
  fun s P P' h q => get_mono (fun _ q => wk.mono _ _ _ (fun d2 s2 q => get_mono (fun m q => get_mono (fun d q => h _ _ q) q) q) q) q⟩
theorem f_wDGetV {s P} : (wDGetV j wk).f s P = (get (dicE s.env j) fun _ => wk.f s fun d2 s2 => get (dicE s2.env j) fun m => get ((keyD d2).bind (dGet m.1 m.2)) fun d => P d s2) := rfl
/-- k in d, k not in d -/
def wDInV (b : Bool) (wk : W) (j : Nat) : W := ⟨fun s P => wk.f s fun d1 s1 => get (dicE s1.env j) fun m => get (keyD d1) fun k => P (.bl (if b then hasK m.1 k else !hasK m.1 k)) s1,
  fun s P P' h q => wk.mono _ _ _ (fun d1 s1 q => get_mono (fun m q => get_mono (fun k q => h _ _ q) q) q) q⟩
theorem f_wDInV {b : Bool} {s P} : (wDInV b wk j).f s P = (wk.f s fun d1 s1 => get (dicE s1.env j) fun m => get (keyD d1) fun k => P (.bl (if b then hasK m.1 k else !hasK m.1 k)) s1) := rfl
theorem dinV_lift (σ : L2.St) (H : Hp) (Q : VK) (h : lift p (wDInV true wk j) σ H Q) : tOp rDIn (lift p wk) (tVar j) σ H Q := by
  obtain ⟨G, s, R, q⟩ := h
  refine ⟨G, s, R, wk.mono _ _ _ (fun d1 s1 k1 x H1 G1 e1 R1 r1 => ?_) q⟩
  obtain ⟨m, em, k2⟩ := get_of k1
  obtain ⟨kk, ek, k3⟩ := get_of k2
  obtain ⟨a, kvs, ev, h1, h2, h3, h4, h5, ra⟩ := R1.slot j _ (dicE_of (ks := m.1) (ds := m.2) em)
  obtain ⟨o, g, eo⟩ := dhas_of (p := p) (G := G1) (.inl h1) (.of R1.sub r1) ek
  rw [h5] at eo
  exact ⟨_, ev, a, o, rfl, g, by rw [eo]; exact k3 _ H1 G1 e1 R1 (.bl _)⟩
theorem td_dinV {m : Nat} (hr : Room m X.A) (j : Nat) (ha : PE X k (lift p wk)) (hb : PE X o (tVar j)) (hm : behindInMarks .In o = false := by first | exact nomark _ | with_unfolding_all rfl) : PT X (.Compare k [.In] [o] pos) (liftT p (wT (wDInV true wk j))) :=
  PT.imp (pt_cmpR (op_din (by have := hr.un; omega)) ha hb hm) (test_lift dinV_lift)
/-- x = {} -/
def wDNew (j : Nat) : WS := ⟨fun E s => j < s.env.length ∧ E.nx { s with env := s.env.set j (.dic [] []) }, fun E E' s h q => ⟨q.1, h.nx _ q.2⟩⟩
theorem f_wDNew {E s} : (wDNew j).f E s = (j < s.env.length ∧ E.nx { s with env := s.env.set j (.dic [] []) }) := rfl
theorem sd_dnew (j : Nat) {x : Str} {dpos : Pos} (hN : X.N.Nodup) (hi : X.N[j]? = some x := by rfl) (hx : Loc X.env.scope x := by first | exact .inl rfl | exact .inr rfl) (hs : swapsWith (.Dict [] [] dpos) (some (.Name x pos')) pos.line X.env = pure false := by rfl)
    (hf : X.fn x = true ∨ X.env.scope.names.lookup x = some .local := by first | exact .inl rfl | exact .inr rfl) : PS X (.Assign [.Name x pos'] (.Dict [] [] dpos) pos) (liftS p (wDNew j)) :=
  PS.imp (ps_set hN hi hx pe_dnewK hs hf) fun D σ H ⟨G, s, E, R, q, c⟩ a ha => c.nx _ _ G _ (Same.refl G) (R.setDic (kvs := []) (by rw [← R.len]; exact q.1) ha rfl .nil) q.2
/-- d[k] = v -/
def wDPut (j : Nat) (wk wv : W) : WS := ⟨fun E s => wv.f s fun d s1 => get (dicE s1.env j) fun _ => wk.f s1 fun k s2 => get (dicE s2.env j) fun m => get (keyD k) fun k => m.1.length < sizeLine ∧ E.nx { s2 with env := s2.env.set j (.dic (dPutK m.1 k) (dPut m.1 m.2 k d)) },
  fun E E' s h q => wv.mono _ _ _ (fun d s1 q => get_mono (fun _ q => wk.mono _ _ _ (fun k s2 q => get_mono (fun m q => get_mono (fun k q => ⟨q.1, h.nx _ q.2⟩) q) q) q) q) q⟩
theorem f_wDPut {E s} : (wDPut j wk wv).f E s = (wv.f s fun d s1 => get (dicE s1.env j) fun _ => wk.f s1 fun k s2 => get (dicE s2.env j) fun m => get (keyD k) fun k => m.1.length < sizeLine ∧ E.nx { s2 with env := s2.env.set j (.dic (dPutK m.1 k) (dPut m.1 m.2 k d)) }) := rfl
theorem sd_dput {m : Nat} (hr : Room m X.A) (j : Nat) (ho : PE X o (tVar j)) (hi : PE X i (lift p wk)) (he : PE X e (lift p wv)) (hs : swapsWith e (some (.Subscript o i pos')) pos.line X.env = pure false := by rfl) :
    PS X (.Assign [.Subscript o i pos'] e pos) (liftS p (wDPut j wk wv)) :=
  PS.imp (ps_dput (by have := hr.un; omega) ho hi he hs) fun D σ H ⟨G, s, E, R, q, c⟩ => ⟨G, s, R, wv.mono _ _ _ (fun d s1 k1 v H1 G1 e1 R1 r1 => by
    obtain ⟨m0, e0, k2⟩ := get_of k1
    obtain ⟨a, kvs0, ev, h1, _⟩ := R1.slot j _ (dicE_of (ks := m0.1) (ds := m0.2) e0)
    refine ⟨_, ev, G1, s1, R1, wk.mono _ _ _ (fun kk s2 k3 y H2 G2 e2 R2 r2 => ?_) k2⟩
    obtain ⟨m1, em, k4⟩ := get_of k3
    obtain ⟨kz, ek, hz, k5⟩ := get_of k4
    obtain ⟨a', kvs, ev', g1, g2, g3, g4, g5, ra⟩ := R2.slot j _ (dicE_of (ks := m1.1) (ds := m1.2) em)
    rw [ev] at ev'
    cases ev'
    have ey := key_rb (p := p) (G := G2) (H := H2) ek (.of R2.sub r2)
    subst ey
    have hlen : kvs.length < sizeLine := by
      rw [← g5, List.length_map] at hz
      exact hz
    have pv := putK_vals (k := kz) (r1.mono e2) ra
    rw [g5] at pv
    exact ⟨a, _, rfl, .inl ⟨kvs, kz, g1, rfl, hlen, rfl⟩, c.nx σ _ G2 _ (e1.trans e2) (R2.writeD (dicE_of (ks := m1.1) (ds := m1.2) em) ev (by rw [putK_keys, g5]) pv) k5⟩) q⟩
/-! ### walks over a dict -/
def itemsD (ks : List Key) (ds : List D) : List D := List.zipWith (fun k d => .tup [unK k, d]) ks ds
def wiItems (w : W) : WI := ⟨fun s P => w.f s fun d s1 => get (dctD d) fun m => P (itemsD m.1 m.2) s1, fun s P P' h q => w.mono _ _ _ (fun d s1 q => get_mono (fun m q => h _ _ q) q) q⟩
def wiVals (w : W) : WI := ⟨fun s P => w.f s fun d s1 => get (dctD d) fun m => P m.2 s1, fun s P P' h q => w.mono _ _ _ (fun d s1 q => get_mono (fun m q => h _ _ q) q) q⟩
def wiKeys (w : W) : WI := ⟨fun s P => w.f s fun d s1 => get (dctD d) fun m => P (m.1.map unK) s1, fun s P P' h q => w.mono _ _ _ (fun d s1 q => get_mono (fun m q => h _ _ q) q) q⟩
theorem f_wiItems {s P} : (wiItems w).f s P = (w.f s fun d s1 => get (dctD d) fun m => P (itemsD m.1 m.2) s1) := rfl
theorem f_wiVals {s P} : (wiVals w).f s P = (w.f s fun d s1 => get (dctD d) fun m => P m.2 s1) := rfl
theorem f_wiKeys {s P} : (wiKeys w).f s P = (w.f s fun d s1 => get (dctD d) fun m => P (m.1.map unK) s1) := rfl
variable {tg : Expr} {apos cpos : Pos}
end
end DI
/-! extend by a list or a tuple, list(x) of a tuple, sorted ints, x += n, text.index, a list repeated for a name of its own. -/
namespace L2
open PySem PySem.Spec PyProof.Rows
section
variable {prog : Program} {w : World} {A : Around} {s : Shared} {R : Result → Shared → Prop}
end
end L2
namespace DI
open PySem PySem.Spec PyProof.Rows L2 EX
variable [Nm]
section
variable {X : Cx} {p : Pl} {a b e : Expr} {pf pos pos' : Pos} {w wa wb : W}
/-! x.extend(e), x a list of its own -/
def wExt (i : Nat) (w : W) : WS := ⟨fun E s => get (ownE s.env i) fun _ => w.f s fun d s1 => get (seqD d) fun es => get (ownE s1.env i) fun ds => ds.length + es.length ≤ sizeLine ∧ E.nx { s1 with env := s1.env.set i (.own (ds ++ es)) },
  fun E E' s h q => get_mono (fun _ q => w.mono _ _ _ (fun d s1 q => get_mono (fun es q => get_mono (fun ds q => ⟨q.1, h.nx _ q.2⟩) q) q) q) q⟩
theorem f_wExt {i : Nat} {E s} : (wExt i w).f E s = (get (ownE s.env i) fun _ => w.f s fun d s1 => get (seqD d) fun es => get (ownE s1.env i) fun ds => ds.length + es.length ≤ sizeLine ∧ E.nx { s1 with env := s1.env.set i (.own (ds ++ es)) }) := rfl
/-! list(x) of a list or a tuple, for a name of its own -/
def wCopyQ (w : W) : WA := ⟨fun s P => w.f s fun d s1 => get (seqD d) fun ds => P ds s1, fun s P P' h q => w.mono _ _ _ (fun d s1 q => get_mono (fun ds q => h _ _ q) q) q⟩
theorem f_wCopyQ {s P} : (wCopyQ w).f s P = (w.f s fun d s1 => get (seqD d) fun ds => P ds s1) := rfl
/-! [x] * n, for a name of its own -/
def wRepL (wa wb : W) : WA := ⟨fun s P => wa.f s fun d1 s1 => wb.f s1 fun d2 s2 => cRep d1 d2 ∧ get (gRep d1 d2) fun d => get (lstD d) fun ds => P ds s2,
  fun s P P' h q => wa.mono _ _ _ (fun d1 s1 q => wb.mono _ _ _ (fun d2 s2 q => ⟨q.1, get_mono (fun d q => get_mono (fun ds q => h _ _ q) q) q.2⟩) q) q⟩
theorem f_wRepL {s P} : (wRepL wa wb).f s P = (wa.f s fun d1 s1 => wb.f s1 fun d2 s2 => cRep d1 d2 ∧ get (gRep d1 d2) fun d => get (lstD d) fun ds => P ds s2) := rfl
/-! x += e, ints -/
def wAugI (i : Nat) (w : W) : WS := ⟨fun E s => get (vget s.env i) fun d1 => w.f s fun d2 s1 => get (intD d1) fun x => get (intD d2) fun y => i < s1.env.length ∧ E.nx { s1 with env := s1.env.set i (.val (.int (x + y))) },
  fun E E' s h q => get_mono (fun d1 q => w.mono _ _ _ (fun d2 s1 q => get_mono (fun x q => get_mono (fun y q => ⟨q.1, h.nx _ q.2⟩) q) q) q) q⟩
theorem f_wAugI {i : Nat} {E s} : (wAugI i w).f E s = (get (vget s.env i) fun d1 => w.f s fun d2 s1 => get (intD d1) fun x => get (intD d2) fun y => i < s1.env.length ∧ E.nx { s1 with env := s1.env.set i (.val (.int (x + y))) }) := rfl
/-! sorted(ints) -/
def wSorted (w : W) : W := ⟨fun s P => w.f s fun d s1 => get (lstD d) fun ds => get (intsD ds) fun ns => ∀ ns' : List Int, ns'.Perm ns → ns'.Pairwise (· ≤ ·) → P (.lst (ns'.map D.int)) s1,
  fun s P P' h q => w.mono _ _ _ (fun d s1 q => get_mono (fun ds q => get_mono (fun ns q ns' a b => h _ _ (q ns' a b)) q) q) q⟩
theorem f_wSorted {s P} : (wSorted w).f s P = (w.f s fun d s1 => get (lstD d) fun ds => get (intsD ds) fun ns => ∀ ns' : List Int, ns'.Perm ns → ns'.Pairwise (· ≤ ·) → P (.lst (ns'.map D.int)) s1) := rfl
/-! text.index(text), found -/
end
end DI
/-! Dict comprehensions. -/
namespace DI
open PySem PySem.Spec PyProof.Rows L2 EX
variable [Nm]
section
variable {X : Cx} {p : Pl}
/-- {k: v for target in ds if ..} -/
def dcGo (ge : D → List Sl → Option (List Sl)) (vs : List Nat) (tt : WT) (tk tv : W) (env : List Sl) : List D → List Key → List D → Nat → (List Key → List D → Nat → Prop) → Prop
  | [], ks, es, n, P => P ks es n
  | d :: ds, ks, es, n, P => get (ge d (innE vs env)) fun env' => tt.f ⟨env', n⟩ fun b s1 => if b = true then tk.f s1 fun y s2 => tv.f s2 fun z s3 => get (keyD y) fun k => ks.length < sizeLine ∧ dcGo ge vs tt tk tv env ds (dPutK ks k) (dPut ks es k z) s3.n P else dcGo ge vs tt tk tv env ds ks es s1.n P
theorem dcGo_mono {ge : D → List Sl → Option (List Sl)} {vs : List Nat} {tt : WT} {tk tv : W} {env : List Sl} {P P' : List Key → List D → Nat → Prop} (h : ∀ a b n, P a b n → P' a b n) : ∀ (ds : List D) (ks : List Key) (es : List D) (n : Nat), dcGo ge vs tt tk tv env ds ks es n P → dcGo ge vs tt tk tv env ds ks es n P'
  | [], ks, es, n, q => h _ _ _ q
  | d :: ds, ks, es, n, q => get_mono (fun env' q => tt.mono _ _ _ (fun b s1 q => by
    cases b with
    | true => exact tk.mono _ _ _ (fun y s2 q => tv.mono _ _ _ (fun z s3 q => get_mono (fun k q => ⟨q.1, dcGo_mono h ds _ _ _ q.2⟩) q) q) q
    | false => exact dcGo_mono h ds _ _ _ q) q) q
def wDc (wi : WI) (ge : D → List Sl → Option (List Sl)) (vs : List Nat) (tt : WT) (tk tv : W) : W := ⟨fun s P => wi.f s fun ds s1 => dcGo ge vs tt tk tv s1.env ds [] [] s1.n fun ks es n => P (.dct ks es) { s1 with n := n },
  fun s P P' h q => wi.mono _ _ _ (fun ds s1 q => dcGo_mono (fun a b n q => h _ _ q) _ _ _ _ q) q⟩
theorem f_wDc {wi : WI} {ge : D → List Sl → Option (List Sl)} {vs : List Nat} {tt : WT} {tk tv : W} {s P} : (wDc wi ge vs tt tk tv).f s P = (wi.f s fun ds s1 => dcGo ge vs tt tk tv s1.env ds [] [] s1.n fun ks es n => P (.dct ks es) { s1 with n := n }) := rfl
end
end DI
/-! A law's begin and end. -/
namespace DI
open PySem PySem.Spec PyProof.Rows L2
variable [Nm]
theorem merge_drw (q : Addr) : mergeK [] [((Sum.inr "cells" : Key), V.ref q), (Sum.inr "at", .int 0), (Sum.inr "left", .int 0), (Sum.inr "used", .int 0)] = drwK q 0 0 0 := by
  obtain ⟨h1, h2, h3, h4, h5, h6⟩ := kAt
  simp [mergeK, putK, drwK, h1, h2, h3, h4, h5, h6]
/-! ### the draws are begun -/
def spBegin (K : PySem.W.Frag) : Sp := fun vs H Q _ => ∃ (a : Addr) (ns : List Int), vs = [.ref a] ∧ SqL K H a (ns.map V.int) ∧ ns.length ≤ 63 ∧
  ∀ (p L : Addr) (H' : Hp), H p = none → H L = none → L ≠ p → (∀ b o, H b = some o → H' b = some o) → H' p = some (.dK (drwK L 0 0 0)) → H' L = some (.lst ((ns ++ [0]).map V.int)) → Q (.ref p) H'

def spLaw (K : PySem.W.Frag) : Sp := fun vs H Q _ => ∃ (a : Addr) (ns : List Int), vs = [.ref a] ∧ SqL K H a (ns.map V.int) ∧ ns.length ≤ 63 ∧ One K H ∧ ∀ H', Q (.bl true) H'
def eEnd : ED := { nx := fun _ => False, rt := fun d _ => d = .bl true }
theorem begin_rs {K : PySem.W.Frag} {H H' : Hp} {p L : Addr} {ns : List Int} {σ : L2.St} {m : Nat} (hone : One K H) (hp : H p = none) (hL : H L = none) (nlp : L ≠ p) (hsame : ∀ b o, H b = some o → H' b = some o) (e1 : H' p = some (.dK (drwK L 0 0 0))) (e2 : H' L = some (.lst ((ns ++ [0]).map V.int)))
    (hl : ns.length ≤ 63) (hσ : σ.length = m + 2) (h1 : σ[1]? = some (some (.ref p))) : ∃ G1, (⟨K, some p, H', G1⟩ : Pl).Rs σ H' G1 ⟨.emp :: .val .drw :: List.replicate m .emp, 0⟩ := by
  obtain ⟨o1, nd1, h1s⟩ := hone
  obtain ⟨ms, ms1, ms2, ms3⟩ : ∃ ms : Option HO, (∀ o, ms = some o → H sysModules = some o) ∧ (∀ o u, H sysModules = some (.frz o u) → ms = some (.frz o u)) ∧ ∀ ps, ms ≠ some (.tbl ps) := by
    by_cases t : ∃ o u, H sysModules = some (.frz o u)
    · obtain ⟨o, u, e⟩ := t
      exact ⟨some (.frz o u), fun o' z => (by cases z; exact e), fun o' u' z => (by rw [e] at z; cases z; rfl), fun ps z => (nomatch z)⟩
    · exact ⟨none, fun o z => (nomatch z), fun o u z => absurd ⟨o, u, z⟩ t, fun ps z => (nomatch z)⟩
  let G1 : Hp := fun b => if b = L then some (.lst ((ns ++ [0]).map V.int)) else if b = sysModules then ms else none
  have gL : G1 L = some (.lst ((ns ++ [0]).map V.int)) := if_pos rfl
  have gN : ∀ b, b ≠ L → b ≠ sysModules → G1 b = none := fun b hb h1 => by
    show (if b = L then _ else if b = sysModules then ms else none) = _
    rw [if_neg hb, if_neg h1]
  have gE : sysModules ≠ L → G1 sysModules = ms := fun hb => by
    show (if sysModules = L then _ else if sysModules = sysModules then ms else none) = _
    rw [if_neg hb, if_pos rfl]
  have gS : ∀ o, sysModules ≠ L → G1 sysModules = some o → H' sysModules = some o := fun o hb e => hsame _ _ (ms1 _ (by rw [← gE hb]; exact e))
  have one1 : One K G1 := by
    refine ⟨o1, nd1, h1s.imp (fun z => ?_) id⟩
    have hb : sysModules ≠ L := fun q => by
      rw [← q] at hL
      rw [z] at hL
      cases hL
    rw [gE hb]
    exact ms2 _ _ z
  have pS : p = sysModules → G1 p = none := fun q => by
    have hb : sysModules ≠ L := fun z => nlp (by rw [← z, ← q])
    rw [q, gE hb]
    cases e : ms with
    | none => rfl
    | some o =>
      have z := ms1 o e
      rw [← q, hp] at z
      cases z
  have nt : ∀ a ps, G1 a ≠ some (.tbl ps) := fun a ps z => by
    by_cases hb : a = L
    · subst hb
      rw [gL] at z
      cases z
    · by_cases hs : a = sysModules
      · subst hs
        rw [gE hb] at z
        exact ms3 ps z
      · rw [gN a hb hs] at z
        cases z
  refine ⟨G1, ⟨fun b o e => ?_, nt⟩, Bse.refl, fun b h _ => h, by simp [hσ], ?_, ?_, ?_, ?_⟩
  · by_cases hb : b = L
    · subst hb
      rw [gL] at e
      cases e
      exact e2
    · by_cases hs : b = sysModules
      · subst hs
        exact gS o hb e
      · rw [gN b hb hs] at e
        cases e
  · intro i x hx
    match i, hx with
    | 0, hx => cases hx; trivial
    | 1, hx => cases hx; exact ⟨_, h1, .drw rfl one1⟩
    | i + 2, hx =>
      have e : (List.replicate m Sl.emp)[i]? = some x := by simpa using hx
      rw [List.getElem?_replicate] at e
      split at e <;> cases e
      trivial
  · intro i j q ds es _ h1
    match i, h1 with
    | 0, h1 => cases h1
    | 1, h1 => cases h1
    | i + 2, h1 =>
      have e : (List.replicate m Sl.emp)[i]? = some (.own ds) := by simpa using h1
      rw [List.getElem?_replicate] at e
      split at e <;> cases e
  · intro i j q ks ls ds es _ h1
    match i, h1 with
    | 0, h1 => cases h1
    | 1, h1 => cases h1
    | i + 2, h1 =>
      have e : (List.replicate m Sl.emp)[i]? = some (.dic ks ds) := by simpa using h1
      rw [List.getElem?_replicate] at e
      split at e <;> cases e
  · intro b hb
    cases hb
    refine ⟨?_, L, ns ++ [0], 0, 0, 0, e1, gL, ?_, ?_, ?_, ?_, ?_, ?_⟩
    · by_cases hs : p = sysModules
      · exact pS hs
      · exact gN p nlp.symm hs
    all_goals (simp <;> omega)
theorem dn_mk {P : Program} {w : World} {K : PySem.W.Frag} {mg : Str → Option Value} {base : Heap} {k : Nat} {x : Str} {st : Stmt} {f : Addr} {fd : FuncData} {ps : List Str} {F : FT} (U : Fun K x x st f fd) (hm : mg x = some (.ref f)) (hb : Binds K fd ps []) (hk : ∀ (s : Shared) (us : List Value), us.length = ps.length → BindsTo s fd ⟨[], ps.zip us⟩ (ps.zip us))
    (G : ∀ dr, FnG P w K mg base k f fd ps (SpD K dr (List.replicate ps.length false) F)) : Dn P w K mg base k x ps F := ⟨f, fd, hm, U.kp, hb, hk, G⟩
theorem gc_str {K : PySem.W.Frag} {mg : Str → Option Value} {x : Str} {z : Str} {t : Tok} (h : mg x = some (.str z t)) : Gc K mg x (.str z) := ⟨.str z, _, h, ⟨t, rfl⟩, fun dr G => .str z⟩
theorem gc_int {K : PySem.W.Frag} {mg : Str → Option Value} {x : Str} {z : Int} {t : Tok} (h : mg x = some (.int z t)) : Gc K mg x (.int z) := ⟨.int z, _, h, ⟨t, rfl⟩, fun dr G => .int z⟩
end DI
/-! x, y = [], []: two own lists. -/
namespace DI
open PySem PySem.Spec PyProof.Rows L2
variable [Nm]
def wParO (i j : Nat) : WS := ⟨fun E s => i < s.env.length ∧ j < s.env.length ∧ E.nx { s with env := (s.env.set i (.own [])).set j (.own []) },
  fun E E' s h q => ⟨q.1, q.2.1, h.nx _ q.2.2⟩⟩
section
variable {X : Cx} {p : Pl} {pos : Pos}
theorem sd_parO (i j : Nat) {x y : Str} {px py pt pa pb : Pos} {kt k2 pt2} (hN : X.N.Nodup) (hc : X.calm = true := by rfl) (hi : X.N[i]? = some x := by rfl) (hj : X.N[j]? = some y := by rfl) (hij : i ≠ j := by decide)
    (hx : X.env.scope.names.lookup x = some .local := by rfl) (hy : X.env.scope.names.lookup y = some .local := by rfl)
    (h1 : starEach [.List [] pa, .List [] pb] X.env = (false, eval (.List [] pa) X.env) :: starEach [.List [] pb] X.env := by rfl)
    (h2 : starEach [.List [] pb] X.env = (false, eval (.List [] pb) X.env) :: starEach [] X.env := by rfl)
    (hw : swappedStores [.Tuple [.Name x px, .Name y py] kt pt] (.Tuple [.List [] pa, .List [] pb] k2 pt2) X.env = pure (some [x, y]) := by rfl)
    (hs : swapsWithSole [.Tuple [.Name x px, .Name y py] kt pt] (.Tuple [.List [] pa, .List [] pb] k2 pt2) pos.line X.env = pure false := by rfl) : PS X (.Assign [.Tuple [.Name x px, .Name y py] kt pt] (.Tuple [.List [] pa, .List [] pb] k2 pt2) pos) (liftS p (wParO i j)) :=
  PS.imp (ps_par hc hN hi hj hij hx hy (pa_cons (pe_lst pa_nil) (pa_cons (pe_lst pa_nil) pa_nil h2) h1) hw hs) fun D σ H ⟨G, s, E, R, k, q⟩ => by
    refine ⟨Nat.zero_le _, fun a ha => ⟨Nat.zero_le _, fun b hb => ?_⟩⟩
    obtain ⟨l1, l2, k⟩ := k
    have R1 := R.setOwn (i := i) (by rw [← R.len]; exact l1) ha .nil
    have R2 := R1.setOwn (i := j) (by rw [List.length_set, ← R.len]; exact l2) hb .nil
    exact ⟨_, _, rfl, q.nx _ _ G _ (Same.refl _) R2 k⟩
end
theorem f_wParO {E s} : (wParO i j).f E s = (i < s.env.length ∧ j < s.env.length ∧ E.nx { s with env := (s.env.set i (.own [])).set j (.own []) }) := rfl
end DI
/-! range with -1, zip of two tuples. -/
namespace DI
open PySem PySem.Spec PyProof.Rows L2 EX
variable [Nm]
section
variable {X : Cx} {p : Pl} {a b c e e2 tg : Expr} {es : List Expr} {pf pt pos : Pos} {w wa wb : W} {t : WA}
/-- i, i - 1, .., n of them -/
def dw3D (i : Int) (n : Nat) : List D := (List.range n).map fun (k : Nat) => D.int (i - (k : Int))
def wiR3 (t : WA) : WI := ⟨fun s P => t.f s fun ds s1 => ∃ i j : Int, ds = [.int i, .int j, .int (-1)] ∧ (-(2 ^ 62) ≤ i ∧ i < 2 ^ 62 ∧ -(2 ^ 62) ≤ j ∧ j < 2 ^ 62) ∧ P (dw3D i (i - j).toNat) s1, fun s P P' h q => t.mono _ _ _ (fun ds s1 ⟨i, j, e, a, q⟩ => ⟨i, j, e, a, h _ _ q⟩) q⟩
theorem f_iR3 {t : WA} {s P} : (wiR3 t).f s P = (t.f s fun ds s1 => ∃ i j : Int, ds = [.int i, .int j, .int (-1)] ∧ (-(2 ^ 62) ≤ i ∧ i < 2 ^ 62 ∧ -(2 ^ 62) ≤ j ∧ j < 2 ^ 62) ∧ P (dw3D i (i - j).toNat) s1) := rfl
def wiZT (wa wb : W) : WI := ⟨fun s P => wa.f s fun d1 s1 => wb.f s1 fun d2 s2 => get (tupD d1) fun ds => get (tupD d2) fun es => P (zipD ds es) s2,
  fun s P P' h q => wa.mono _ _ _ (fun d1 s1 q => wb.mono _ _ _ (fun d2 s2 q => get_mono (fun ds q => get_mono (fun es q => h _ _ q) q) q) q) q⟩
theorem f_wiZT {wa wb : W} {s P} : (wiZT wa wb).f s P = (wa.f s fun d1 s1 => wb.f s1 fun d2 s2 => get (tupD d1) fun ds => get (tupD d2) fun es => P (zipD ds es) s2) := rfl
/-! is, between two truths -/
def gIsB : D → D → Option D
  | .bl a, .bl b => some (.bl (a == b))
  | _, _ => none
def gIsnB : D → D → Option D
  | .bl a, .bl b => some (.bl (a != b))
  | _, _ => none
theorem e_isB {a b : Bool} : gIsB (.bl a) (.bl b) = some (.bl (a == b)) := rfl
theorem e_isnB {a b : Bool} : gIsnB (.bl a) (.bl b) = some (.bl (a != b)) := rfl
end
end DI
/-! zip of a tuple and a list. -/
namespace EX
open PySem PySem.W PySem.Calls PyProof.Rows
section
variable {prog : Program} {w : World} {A : Around} {E : Value → Shared → Prop} {s : Shared}
end
end EX
namespace L2
open PySem PySem.Spec PyProof.Rows EX
structure ZmAp (z TI TO i1 i2 a b : Addr) : Prop where
  s : ZipSep2 z TI TO i1 i2 [i1, a] [i2, b]
  a1 : a ≠ i1
  b2 : b ≠ i2
end L2
namespace L2
open PySem PySem.Spec PyProof.Rows EX
end L2
namespace DI
open PySem PySem.Spec PyProof.Rows L2 EX
variable [Nm]
section
variable {X : Cx} {p : Pl} {a b c e e2 tg : Expr} {es : List Expr} {pf pt pos : Pos} {w wa wb : W} {t : WA}
def wiZM (wa wb : W) : WI := ⟨fun s P => wa.f s fun d1 s1 => wb.f s1 fun d2 s2 => get (tupD d1) fun ds => get (lstD d2) fun es => P (zipD ds es) s2,
  fun s P P' h q => wa.mono _ _ _ (fun d1 s1 q => wb.mono _ _ _ (fun d2 s2 q => get_mono (fun ds q => get_mono (fun es q => h _ _ q) q) q) q) q⟩
theorem f_wiZM {wa wb : W} {s P} : (wiZM wa wb).f s P = (wa.f s fun d1 s1 => wb.f s1 fun d2 s2 => get (tupD d1) fun ds => get (lstD d2) fun es => P (zipD ds es) s2) := rfl
/-! sum of a list of ints; the least one of a list -/
def gSum : List D → Option D
  | [.lst ds] => (intsD ds).map fun ns => .int ns.sum
  | _ => none
def gMin1 : List D → Option D
  | [.lst ds] => (intsD ds).bind fun ns => ns.min?.map D.int
  | _ => none
theorem e_sum {ds : List D} : gSum [.lst ds] = (intsD ds).map fun ns => .int ns.sum := rfl
theorem e_min1 {ds : List D} : gMin1 [.lst ds] = (intsD ds).bind fun ns => ns.min?.map D.int := rfl
end
end DI
/-! Errors raised: own classes, by data. -/
namespace L2
open PySem PySem.Spec PyProof.Rows EX
section
variable {X : Cx} {B C fI : Addr} {nm : Str} {fs : List Str} {pins : List (Addr × Obj)} {σ : St} {H1 : Hp} {s1 : Shared}
end
end L2
namespace DI
open PySem PySem.Spec PyProof.Rows L2 EX
variable [Nm]
/-- an error: its class and its fields, each a plain value -/
abbrev Er := Str × List (Str × D)
def atom : D → Option V
  | .non => some .non
  | .bl b => some (.bl b)
  | .int i => some (.int i)
  | .str x => some (.str x)
  | _ => none
def ErrR (K : PySem.W.Frag) (mg : Str → Option Value) (er : Er) (cls : Value) (dd : Option Addr) (H : Hp) : Prop :=
  ∃ B C fs, ExK K B er.1 C fs ∧ mg er.1 = some (.ref C) ∧ cls = .ref C ∧ er.2.map (·.1) = fs ∧ (fs ≠ [] → ∃ d, dd = some d ∧ ∃ ws, H d = some (.xd ws) ∧ ∀ f x, er.2.lookup f = some x → ∃ v, atom x = some v ∧ ws.lookup f = some v)
/-- what a def that may raise is wished for -/
structure FX where
  f : List D → (D → Prop) → (Er → Prop) → Prop
  mono : ∀ ds P P' Z Z', (∀ d, P d → P' d) → (∀ e, Z e → Z' e) → f ds P Z → f ds P' Z'
def SpX (K : PySem.W.Frag) (mg : Str → Option Value) (ms : List Bool) (F : FX) : Sp := fun vs H Q E => ∃ (G : Hp) (ds : List D), Sub G H ∧ RpM ⟨K, none, H, G⟩ H G ms vs ds ∧
  F.f ds (fun d => ∀ v H' G', Same G G' → Bse none H H' → Sub G' H' → New H G G' → Rp K none G' v d → Q v H') fun er => ∀ cls dd H', Bse none H H' → ErrR K mg er cls dd H' → E cls dd H'
/-- a def's promise, with errors -/
structure FnX (P : Program) (w : World) (K : PySem.W.Frag) (mg : Str → Option Value) (base : Heap) (k : Nat) (f : Addr) (fd : FuncData) (ps : List Str) (sp : Sp) : Prop where
  len : ∀ vs H Q E, sp vs H Q E → vs.length = ps.length
  go : ∀ (A : Around) (callers : List Env) (st : Shared) (H : Hp) (args : Args) (us : List Value) (vs : List V) (Q : VK) (E : XK), Room k A → A.guards = some [] → Env0 P w K mg base A callers st H →
    BindsTo st fd args (ps.zip us) → Vals vs us → sp vs H Q E → codeAny (model P w) A (.call (.ref f) args) (CR (L2.CX P w) callers P w H st Q E) st
section
variable {P : Program} {w : World} {K : PySem.W.Frag} {mg : Str → Option Value} {base : Heap}
end
end DI
/-! A lambda handed to a def, where no object is being shown. -/
namespace DI
open PySem PySem.Spec PyProof.Rows L2 EX LamX
variable [Nm]
/-- what is known of a lambda's text, at its maker -/
structure LamTx (X : Cx) (prm : Arguments) (body : Expr) (sc : Scope) : Prop where
  sco : LamS X.env.scope sc
  plain : defaultsOf prm X.env = ([], [])
  noArg : ∀ (q : Str) (cl : List (Str × Addr)) (u1 u2 u3 : Value), bindArgs (PySem.W.kla_fn "<lambda>" q prm body sc cl u1 u2 u3) ⟨[], []⟩ = pure []
/-- where its maker's code object and the table lie -/
structure LamTb (X : Cx) (T : List (Addr × Str)) : Prop where
  ex : ∃ c P, TabB X.base X.mg c P ∧ X.env.code = .ref c ∧ (P, X.env.qual ++ "<lambda>") ∈ T ∧ ∀ t ∈ T, t.1 = P → t.2 = X.env.qual ++ "<lambda>"
end DI
/-! Errors by data: a def that may raise, raise, and calls of such defs. -/
namespace DI
open PySem PySem.Spec PyProof.Rows L2 EX LamX
variable [Nm]
/-- raise C(e, ..) -/
def wRaise (nm : Str) (fs : List Str) (Z : Er → Prop) (t : WA) : WS := ⟨fun _ s => t.f s fun ds _ => ds.length = fs.length ∧ (∀ d ∈ ds, (atom d).isSome = true) ∧ Z (nm, fs.zip ds), fun _ _ s _ q => q⟩
theorem f_raise {nm fs Z t E s} : (wRaise nm fs Z t).f E s = t.f s fun ds _ => ds.length = fs.length ∧ (∀ d ∈ ds, (atom d).isSome = true) ∧ Z (nm, fs.zip ds) := rfl
def wCallX (F : FX) (Z : Er → Prop) (t : WA) : W := ⟨fun s P => t.f s fun ds s1 => F.f ds (fun d => P d s1) Z, fun s P P' h q => t.mono _ _ _ (fun ds s1 q => F.mono _ _ _ _ _ (fun d q => h _ _ q) (fun _ z => z) q) q⟩
theorem f_callX {F Z t s P} : (wCallX F Z t).f s P = t.f s fun ds s1 => F.f ds (fun d => P d s1) Z := rfl
section
variable {X : Cx} {p : Pl} {e : Expr} {es : List Expr} {ms : List Bool} {t : WA} {pos pos2 pf : Pos} {Z : Er → Prop} {nm : Str} {fs : List Str}
variable {F : FX} {k : Nat} {f : Addr} {fd : FuncData} {ps : List Str} {x : Str} {sp : Sp} {ta : TA} {E : XK}
end
end DI
/-! The law's call, where tables of code objects are known. -/
namespace DI
open PySem PySem.Spec PyProof.Rows L2 LamX
variable [Nm]
section
variable {P : Program} {w : World} {K : PySem.W.Frag} {mg mb : Str → Option Value} {k : Nat} {fa a : Addr} {fd : FuncData} {x : Str} {sp : Sp} {s₁ : Shared} {vs : List Value} {ns : List Int} {TB : List (Addr × Addr)}
end
end DI
/-! A lambda that calls a def which may raise, told by another def: by data. -/
namespace DI
open PySem PySem.Spec PyProof.Rows L2 EX LamX
variable [Nm]
section
variable {p : Pl} {σ : L2.St} {H G H1 : Hp} {s : S} {T : List (Addr × Str)}
/-- behind an error or a call that knows nothing of the draws -/
theorem Bse.any {dr : Option Addr} {H H' : Hp} (b : Bse none H H') : Bse dr H H' := ⟨fun a o _ h n => b.keep a o (fun z => nomatch z) h n, b.tbl, b.tab⟩
mutual
def noDrw : D → Bool
  | .drw => false
  | .lst ds => noDrwA ds
  | .tup ds => noDrwA ds
  | .dct _ ds => noDrwA ds
  | .exc _ _ ds => noDrwA ds
  | _ => true
def noDrwA : List D → Bool
  | [] => true
  | d :: ds => noDrw d && noDrwA ds
end
mutual
theorem Rp.nodr {K : PySem.W.Frag} {dr dr' : Option Addr} {G : Hp} : ∀ {v : V} {d : D}, Rp K dr G v d → noDrw d = true → Rp K dr' G v d
  | _, _, .non, _ => .non
  | _, _, .bl b, _ => .bl b
  | _, _, .int i, _ => .int i
  | _, _, .str x, _ => .str x
  | _, _, .lst h hs, q => .lst h (RpA.nodr hs (by simpa only [noDrw] using q))
  | _, _, .tup h hs, q => .tup h (RpA.nodr hs (by simpa only [noDrw] using q))
  | _, _, .drw h o, q => by simp only [noDrw] at q; cases q
  | _, _, .dic0 h o, _ => .dic0 h o
  | _, _, .dct h e hs, q => .dct h e (RpA.nodr hs (by simpa only [noDrw] using q))
  | _, _, .exc T hc hv h1 h2 h3 hl hs, q => .exc T hc hv h1 h2 h3 hl (RpA.nodr hs (by simpa only [noDrw] using q))
theorem RpA.nodr {K : PySem.W.Frag} {dr dr' : Option Addr} {G : Hp} : ∀ {vs : List V} {ds : List D}, RpA K dr G vs ds → noDrwA ds = true → RpA K dr' G vs ds
  | _, _, .nil, _ => .nil
  | _, _, .cons r t, q => by
    simp only [noDrwA, Bool.and_eq_true] at q
    exact .cons (Rp.nodr r q.1) (RpA.nodr t q.2)
end
end
end DI
/-! found = []; try: deed() except C as error: found = [error.f]; return found -/
namespace DI
open PySem PySem.Spec PyProof.Rows L2 EX LamX
variable [Nm]
theorem Takes.len {X : Cx} {W : WX} (t : Takes X W) : Takes X (fun c d σ H => σ.length = X.N.length → W c d σ H) := fun u s' ⟨a, B, sI, pins, σ, H, cls, d, e, I, nb, up, sky, na, os, ag, w⟩ =>
  t u s' ⟨a, B, sI, pins, σ, H, cls, d, e, I, nb, up, sky, na, os, ag, w I.len⟩
end DI
/-! _law_told(lambda: f(..)) by data: the field of the error in a list, or an empty list. -/
namespace DI
open PySem PySem.Spec PyProof.Rows L2 EX LamX
variable [Nm]
def wTold (F : FX) (cn fld : Str) (t : WA) : W := ⟨fun s P => t.f s fun ds s1 => noDrwA ds = true ∧ F.f ds (fun _ => P (.lst []) s1) fun er => er.1 = cn ∧ er.2 ≠ [] ∧ ∃ d, er.2.lookup fld = some d ∧ P (.lst [d]) s1,
  fun s P P' h q => t.mono _ _ _ (fun ds s1 q => ⟨q.1, F.mono _ _ _ _ _ (fun _ q => h _ _ q) (fun er ⟨e, ne, d, l, q⟩ => ⟨e, ne, d, l, h _ _ q⟩) q.2⟩) q⟩
theorem f_told {F : FX} {cn fld : Str} {t : WA} {s P} : (wTold F cn fld t).f s P = t.f s fun ds s1 => noDrwA ds = true ∧ F.f ds (fun _ => P (.lst []) s1) fun er => er.1 = cn ∧ er.2 ≠ [] ∧ ∃ d, er.2.lookup fld = some d ∧ P (.lst [d]) s1 := rfl
theorem RpM.nodr {K : PySem.W.Frag} {dr : Option Addr} {H0 G0 H G : Hp} {ms : List Bool} {vs : List V} {ds : List D} (hm : ∀ m ∈ ms, m = false) (r : RpM ⟨K, dr, H0, G0⟩ H G ms vs ds) (h : noDrwA ds = true) : RpM ⟨K, none, H, G⟩ H G ms vs ds := by
  have ra := r.all hm
  have hl := r.length
  have go : ∀ {ms : List Bool} {vs : List V} {ds : List D}, (∀ m ∈ ms, m = false) → RpA K none G vs ds → ms.length = vs.length → RpM ⟨K, none, H, G⟩ H G ms vs ds := by
    intro ms
    induction ms with
    | nil =>
      intro vs ds _ ra hl
      cases ra with
      | nil => exact .nil
      | cons _ _ => simp at hl
    | cons m ms ih =>
      intro vs ds hm ra hl
      obtain rfl := hm m List.mem_cons_self
      cases ra with
      | nil => simp at hl
      | cons r t => exact .val r (ih (fun y my => hm y (List.mem_cons_of_mem _ my)) t (by simpa using hl))
  refine go hm (RpA.nodr ra h) ?_
  first | exact hl.1.symm | (rw [hl.1]) | omega
end DI
/-! A law whose lambdas are told: its entry. -/
namespace DI
open PySem PySem.Spec PyProof.Rows L2 EX LamX
variable [Nm]
end DI
/-! A def that may raise, by its name. -/
namespace DI
open PySem PySem.Spec PyProof.Rows L2 EX LamX
variable [Nm]
structure DnX (P : Program) (w : World) (K : PySem.W.Frag) (mg : Str → Option Value) (base : Heap) (k : Nat) (x : Str) (ps : List Str) (F : FX) : Prop where
  ex : ∃ (f : Addr) (fd : FuncData), mg x = some (.ref f) ∧ PySem.W.keepIn K (.ref f) = true ∧ Binds K fd ps [] ∧ FnX P w K mg base k f fd ps (SpX K mg (List.replicate ps.length false) F)
theorem FnX.mono {P : Program} {w : World} {K : PySem.W.Frag} {mg : Str → Option Value} {base : Heap} {j k : Nat} {f : Addr} {fd : FuncData} {ps : List Str} {sp : Sp} (F : FnX P w K mg base j f fd ps sp) (h : j ≤ k) : FnX P w K mg base k f fd ps sp :=
  ⟨F.len, fun A callers st H args us vs Q E hr => F.go A callers st H args us vs Q E (hr.mono h)⟩
section
variable {X : Cx} {p : Pl} {e : Expr} {es : List Expr} {t : WA} {pos pf : Pos} {x : Str} {ps : List Str} {F : FX} {k j : Nat} {Z : Er → Prop}
end
end DI
/-! Expressions that may raise, by data; a lambda of such an expression, told by another def. -/
namespace DI
open PySem PySem.Spec PyProof.Rows L2 EX LamX
variable [Nm]
/-- a reading that may end with an error -/
structure WE where
  go : (Er → S → Prop) → W
  mono : ∀ Z Z' s P, (∀ er s, Z er s → Z' er s) → (go Z).f s P → (go Z').f s P
def weCall (F : FX) (t : WA) : WE := ⟨fun Z => ⟨fun s P => t.f s fun ds s1 => noDrwA ds = true ∧ F.f ds (fun d => P d s1) fun er => Z er s1, fun s P P' h q => t.mono _ _ _ (fun ds s1 q => ⟨q.1, F.mono _ _ _ _ _ (fun d q => h _ _ q) (fun _ z => z) q.2⟩) q⟩,
  fun Z Z' s P h q => t.mono _ _ _ (fun ds s1 q => ⟨q.1, F.mono _ _ _ _ _ (fun d q => q) (fun _ z => h _ _ z) q.2⟩) q⟩
/-- a def that may raise, by its name, called by position or by keywords -/
structure DnY (P : Program) (w : World) (K : PySem.W.Frag) (mg : Str → Option Value) (base : Heap) (k : Nat) (x : Str) (ps : List Str) (F : FX) : Prop where
  ex : ∃ (f : Addr) (fd : FuncData), mg x = some (.ref f) ∧ PySem.W.keepIn K (.ref f) = true ∧ Binds K fd ps [] ∧ (∀ (s : Shared) (ws : List Value), ws.length = ps.length → BindsTo s fd ⟨[], ps.zip ws⟩ (ps.zip ws)) ∧ FnX P w K mg base k f fd ps (SpX K mg (List.replicate ps.length false) F)
theorem DnY.x {P : Program} {w : World} {K : PySem.W.Frag} {mg : Str → Option Value} {base : Heap} {k : Nat} {x : Str} {ps : List Str} {F : FX} (D : DnY P w K mg base k x ps F) : DnX P w K mg base k x ps F := by
  obtain ⟨f, fd, h1, h2, h3, h4, h5⟩ := D.ex
  exact ⟨f, fd, h1, h2, h3, h5⟩
mutual
theorem Rp.up {K : PySem.W.Frag} {dr : Option Addr} {G : Hp} : ∀ {v : V} {d : D}, Rp K none G v d → Rp K dr G v d
  | _, _, .non => .non
  | _, _, .bl b => .bl b
  | _, _, .int i => .int i
  | _, _, .str x => .str x
  | _, _, .lst h hs => .lst h (RpA.up hs)
  | _, _, .tup h hs => .tup h (RpA.up hs)
  | _, _, .drw h o => nomatch h
  | _, _, .dic0 h o => .dic0 h o
  | _, _, .dct h e hs => .dct h e (RpA.up hs)
  | _, _, .exc T hc hv h1 h2 h3 hl hs => .exc T hc hv h1 h2 h3 hl (RpA.up hs)
theorem RpA.up {K : PySem.W.Frag} {dr : Option Addr} {G : Hp} : ∀ {vs : List V} {ds : List D}, RpA K none G vs ds → RpA K dr G vs ds
  | _, _, .nil => .nil
  | _, _, .cons r t => .cons (Rp.up r) (RpA.up t)
end
section
variable {X : Cx} {p : Pl} {e : Expr} {es : List Expr} {t : WA} {pos pf : Pos} {x : Str} {ps : List Str} {F : FX} {k j : Nat} {V : WX}
end
/-! ### told by another def -/
/-- found = []; .. except C as error: found = [what rd makes of its fields] -/
def TTr (K : PySem.W.Frag) (CS : Addr) (rd : List (Str × V) → Hp → VK → Prop) : (XK → Hp → VK → Prop) → Hp → VK → Prop := fun tl H Q => ∀ L0, H L0 = none →
  tl (fun cls d H' => PySem.W.exmOne K cls (.ref CS) = some true ∧ cls = .ref CS ∧ ∃ dd fs, d = some dd ∧ H' dd = some (.xd fs) ∧ rd fs H' Q) (upd H L0 (.lst [])) fun _ H' => Q (.ref L0) H'
def RdOk (rd : List (Str × V) → Hp → VK → Prop) (mk : List (Str × D) → Option D) : Prop := ∀ (p : Pl) (σ : L2.St) (H G : Hp) (s : S) (er : List (Str × D)) (ws : List (Str × V)) (d : D) (Q : VK), p.Rs σ H G s →
  (∀ f x, er.lookup f = some x → ∃ v, atom x = some v ∧ ws.lookup f = some v) → mk er = some d → (∀ v H' G', Same G G' → p.Rs σ H' G' s → p.Rp G' v d → Q v H') → rd ws H Q
/-- a def like _law_told, by its name: the class it catches, what it makes of the fields -/
structure Td (K : PySem.W.Frag) (mg : Str → Option Value) (nm cn : Str) (mk : List (Str × D) → Option D) : Prop where
  ex : ∃ (a v en : Str) (g CS : Addr) (fd : FuncData) (st : Stmt) (rd : List (Str × V) → Hp → VK → Prop), Fun K nm nm st g fd ∧ mg nm = some (.ref g) ∧ L2.Binds K fd [a] [] ∧ FnScope [a, v, en] [a] (defScope st) ∧ Vis (defScope st) a ∧ ((a == ("__debug__" : Str)) = false ∧ (a == ("__classdict__" : Str)) = false) ∧
    mg cn = some (.ref CS) ∧ PySem.W.exmOne K (.ref CS) (.ref CS) = some true ∧ RdOk rd mk ∧ ∀ (X : Cx) (q : Str) (cdv : Value), X.K = K → X.mg = mg → GivesTo X [a, v, en] nm (defScope st) g cdv (defBody st) a q (TTr K CS rd)
def wTl (cn : Str) (mk : List (Str × D) → Option D) (we : WE) : W := ⟨fun s P => (we.go fun er s1 => er.1 = cn ∧ er.2 ≠ [] ∧ ∃ d, mk er.2 = some d ∧ P d s1).f s fun _ s1 => P (.lst []) s1,
  fun s P P' h q => we.mono _ _ _ _ (fun er s1 ⟨a, b, d, c, q⟩ => ⟨a, b, d, c, h _ _ q⟩) ((we.go _).mono _ _ _ (fun _ s1 q => h _ _ q) q)⟩
end DI
/-! Defs like _law_told found, and the facts of a law with lambdas. -/
namespace DI
open PySem PySem.Spec PyProof.Rows L2 EX LamX
variable [Nm]
end DI
/-! Lambdas of a def whose table of code objects is known: all else stays. -/
namespace DI
open PySem PySem.Spec PyProof.Rows L2 EX LamX
variable [Nm]
/-- a def with lambdas: its code object, and its table, named as it must be -/
structure LamD (K : PySem.W.Frag) (mg : Str → Option Value) (base : Heap) (code : Value) (qual : Str) (P : Addr) : Prop where
  ex : ∃ c, TabB base mg c P ∧ code = .ref c
  nm : Nm.nm P = qual ++ "<lambda>"
end DI
/-! Defs that know tables of code objects. -/
namespace DI
open PySem PySem.Spec PyProof.Rows L2 EX LamX
variable [Nm]
/-- these tables bear the names that they must -/
def Tbs (TB : List Addr) (H : Hp) : Prop := ∀ P ∈ TB, TabS H P (Nm.nm P)
def SpT (K : PySem.W.Frag) (TB : List Addr) (dr : Option Addr) (ms : List Bool) (F : FT) : Sp := fun vs H Q E => Tbs TB H ∧ SpD K dr ms F vs H Q E
structure DnT (P : Program) (w : World) (K : PySem.W.Frag) (mg : Str → Option Value) (base : Heap) (TB : List Addr) (k : Nat) (x : Str) (ps : List Str) (F : FT) : Prop where
  ex : ∃ (f : Addr) (fd : FuncData), mg x = some (.ref f) ∧ PySem.W.keepIn K (.ref f) = true ∧ Binds K fd ps [] ∧ ∀ dr, FnG P w K mg base k f fd ps (SpT K TB dr (List.replicate ps.length false) F)
section
variable {X : Cx} {p : Pl} {e : Expr} {es : List Expr} {ms : List Bool} {t : WA} {pos pf : Pos} {TB : List Addr} {x : Str} {ps : List Str} {F : FT} {k j : Nat}
end
def flX (F : FX) (ds : List D) (P : D → Prop) (Z : Er → Prop) (_ : Tg P) (_ : Tg Z) : Prop := F.f ds P Z
theorem f_wtl {cn : Str} {mk : List (Str × D) → Option D} {F : FX} {t : WA} {s P} : (wTl cn mk (weCall F t)).f s P = t.f s fun ds s1 => noDrwA ds = true ∧ flX F ds (fun _ => P (.lst []) s1) (fun er => er.1 = cn ∧ er.2 ≠ [] ∧ ∃ d, mk er.2 = some d ∧ P d s1) Tg.mk Tg.mk := rfl
end DI
/-! tuple * int and str * int; list + list for a name of its own. -/
namespace DI
open PySem PySem.Spec PyProof.Rows L2 EX
variable [Nm]
section
variable {X : Cx} {p : Pl} {a b e : Expr} {pos : Pos} {wa wb : W}
def wCatO (wa wb : W) : WA := ⟨fun s P => wa.f s fun d1 s1 => wb.f s1 fun d2 s2 => get (lstD d1) fun xs => get (lstD d2) fun ys => xs.length + ys.length ≤ sizeLine ∧ P (xs ++ ys) s2,
  fun s P P' h q => wa.mono _ _ _ (fun d1 s1 q => wb.mono _ _ _ (fun d2 s2 q => get_mono (fun xs q => get_mono (fun ys q => ⟨q.1, h _ _ q.2⟩) q) q) q) q⟩
theorem f_catO {s P} : (wCatO wa wb).f s P = (wa.f s fun d1 s1 => wb.f s1 fun d2 s2 => get (lstD d1) fun xs => get (lstD d2) fun ys => xs.length + ys.length ≤ sizeLine ∧ P (xs ++ ys) s2) := rfl
/-- a tuple told some times -/
def rTms (K : PySem.W.Frag) : R2 := fun x y H Q => ∃ l k xs, x = .ref l ∧ y = .int k ∧ SqT K H l xs ∧ xs ≠ [] ∧ 2 ≤ k ∧ xs.length * k.toNat ≤ 16000000 ∧ ∀ q, H q = none → Q (.ref q) (upd H q (.tup (List.replicate k.toNat xs).flatten))
theorem op_tms : OpR X (binaryOp .Mult) (rTms X.K) := by
  intro pins z σ H x y u1 u2 Q I rx ry h
  obtain ⟨l, k, xs, rfl, rfl, told, some_, two, few, go⟩ := h
  cases rx
  obtain ⟨tk, rfl⟩ := ry
  obtain ⟨its, rr, ⟨⟨cl, di, da, sl⟩, there, ecl, m, eda⟩, _⟩ := I.tuple told
  simp only at ecl eda
  subst ecl eda
  have same : its.length = xs.length := rr.length.symm
  have full : its.toArray.isEmpty = false := by
    rcases its with _ | ⟨i0, its⟩
    · exact absurd (List.eq_nil_of_length_eq_zero (by rw [← same]; rfl)) some_
    · rfl
  have count : its.toArray.size = xs.length := by rw [List.size_toArray]; exact same
  have long : (List.replicate k.toNat its).flatten.length ≤ sizeLine := by
    rw [PyProof.Rows.lm_len_rep_flat, same, sizeLine_eq, Nat.mul_comm]
    exact Nat.le_trans few (by decide)
  have long2 : (List.replicate k.toNat xs).flatten.length ≤ sizeLine := by
    rw [PyProof.Rows.lm_len_rep_flat, sizeLine_eq, Nat.mul_comm]
    exact Nat.le_trans few (by decide)
  have prod : ((its.toArray.size : Nat) : Int) * k ≤ 16000000 := by
    obtain ⟨n, rfl⟩ : ∃ n : Nat, k = (n : Int) := ⟨k.toNat, by omega⟩
    rw [count, ← Int.natCast_mul]
    have few' : xs.length * n ≤ 16000000 := few
    omega
  have pos1 : 1 ≤ xs.length := by
    cases xs with
    | nil => exact absurd rfl some_
    | cons _ _ => exact Nat.succ_le_succ (Nat.zero_le _)
  have kle : k ≤ 16000000 := by
    have z1 : 1 * k.toNat ≤ xs.length * k.toNat := Nat.mul_le_mul_right _ pos1
    omega
  refine wpAny_binaryOp_repeat_ref (T := "tuple") (U := "int") (by decide) ⟨_, there, rfl⟩ (fun y => typeIs_int y k tk) L2.noFill_tuple_mul F.fills_int_mul F.slot_int_rmul L2.repeat_tuple F.slot_int_index.lookup
    (call_meets F.slot_int_rmul (typeIs_int z k tk) F.entry_int_rmul (F.args_int_rmul_2 _ _) (L2.int_rmul_tuple k tk l its.toArray m di sl) ?_)
  refine ⟨there, rfl, ⟨_, there, rfl⟩, call_meets F.slot_tuple_mul ⟨_, there, rfl⟩ F.entry_tuple_mul (F.args_tuple_mul_2 _ _) (L2.tuple_mulW l its.toArray m di sl k tk ?_ ?_ ?_ ?_ ?_ ?_) ⟨there, ?_⟩⟩
  · rw [decide_eq_false (by omega), decide_eq_false (by omega)]
    rfl
  · rw [full, Bool.false_or]
    exact beq_eq_false_iff_ne.mpr (by omega)
  · rw [full, Bool.or_false]
    exact decide_eq_false (by omega)
  · omega
  · unfold Builtin.Tuple.tupleTooMany
    rw [sizeLine_eq]
    exact decide_eq_false (by omega)
  · rw [L2.size_rep, List.size_toArray]
    exact long
  · rw [L2.size_rep]
    exact ⟨.ref z.heap.objs.size, _, I.laid (t' := z.toks) (o := .tup (List.replicate k.toNat xs).flatten) (fun b ob q => Heap.get?_push_of_some _ q) (Nat.le_refl _) ⟨long2, _, rr.rep k.toNat, IsTup.new _ _⟩, rfl, go _ (I.hok.fresh (Nat.le_refl _))⟩
def gRepT : D → D → Option D
  | .tup ds, .int k => some (.tup (List.replicate k.toNat ds).flatten)
  | _, _ => none
end
end DI
/-! try: f(..) except C as e: x = e.f, by data. -/
namespace DI
open PySem PySem.Spec PyProof.Rows L2 EX LamX
variable [Nm]
theorem Rs.empty {p : Pl} {σ : L2.St} {H G : Hp} {s : S} {j : Nat} {o : Option V} (R : p.Rs σ H G s) : p.Rs (σ.set j o) H G { s with env := s.env.set j .emp } := by
  have back : ∀ {k : Nat} {x : Sl}, (s.env.set j .emp)[k]? = some x → x ≠ .emp → k ≠ j ∧ s.env[k]? = some x := fun {k x} e ne => by
    by_cases h : j = k
    · subst h
      by_cases hj : j < s.env.length
      · rw [List.getElem?_set_self hj] at e
        cases e
        exact absurd rfl ne
      · rw [List.getElem?_eq_none (by rw [List.length_set]; omega)] at e
        cases e
    · rw [List.getElem?_set_ne h] at e
      exact ⟨fun z => h z.symm, e⟩
  have same : ∀ {k : Nat}, k ≠ j → (σ.set j o)[k]? = σ[k]? := fun {k} h => List.getElem?_set_ne (Ne.symm h)
  refine ⟨R.sub, R.base, R.new, by simp [R.len], fun i x hx => ?_, fun i k q ds es hik e1 e2 e3 => ?_, fun i k q ks ls ds es hik e1 e2 e3 => ?_, R.drw⟩
  · cases x with
    | emp => trivial
    | val d =>
      obtain ⟨n, e⟩ := back hx (fun z => nomatch z)
      rw [same n]
      exact R.slot i _ e
    | own d =>
      obtain ⟨n, e⟩ := back hx (fun z => nomatch z)
      rw [same n]
      exact R.slot i _ e
    | bor d =>
      obtain ⟨n, e⟩ := back hx (fun z => nomatch z)
      rw [same n]
      exact R.slot i _ e
    | dic ks d =>
      obtain ⟨n, e⟩ := back hx (fun z => nomatch z)
      rw [same n]
      exact R.slot i _ e
    | mem t F Pk m =>
      obtain ⟨n, e⟩ := back hx (fun z => nomatch z)
      rw [same n]
      exact R.slot i _ e
  · obtain ⟨n1, e1'⟩ := back e1 (fun z => nomatch z)
    obtain ⟨n2, e2'⟩ := back e2 (fun z => nomatch z)
    rw [same n1] at e3
    rw [same n2]
    exact R.inj i k q ds es hik e1' e2' e3
  · obtain ⟨n1, e1'⟩ := back e1 (fun z => nomatch z)
    obtain ⟨n2, e2'⟩ := back e2 (fun z => nomatch z)
    rw [same n1] at e3
    rw [same n2]
    exact R.injD i k q ks ls ds es hik e1' e2' e3
def wTry1 (cn fld : Str) (iv j : Nat) (we : WE) : WS := ⟨fun E s => (we.go fun er s1 => er.1 = cn ∧ er.2 ≠ [] ∧ ∃ d, er.2.lookup fld = some d ∧ iv < s1.env.length ∧ j < s1.env.length ∧ E.nx { s1 with env := ((s1.env.set j .emp).set iv (.val d)).set j .emp }).f s fun _ s1 => E.nx s1,
  fun E E' s h q => we.mono _ _ _ _ (fun er s1 ⟨a, b, d, c, l, l2, q⟩ => ⟨a, b, d, c, l, l2, h.nx _ q⟩) ((we.go _).mono _ _ _ (fun _ s1 q => h.nx _ q) q)⟩
theorem f_try1 {cn fld : Str} {iv j : Nat} {F : FX} {t : WA} {E : ED} {s : S} : (wTry1 cn fld iv j (weCall F t)).f E s = t.f s fun ds s1 => noDrwA ds = true ∧ flX F ds (fun _ => E.nx s1) (fun er => er.1 = cn ∧ er.2 ≠ [] ∧ ∃ d, er.2.lookup fld = some d ∧ iv < s1.env.length ∧ j < s1.env.length ∧ E.nx { s1 with env := ((s1.env.set j .emp).set iv (.val d)).set j .emp }) Tg.mk Tg.mk := rfl
end DI
/-! Lambdas with one parameter that is never passed: lambda x=0: f(..). -/
namespace DI
open PySem PySem.Spec PyProof.Rows L2 EX LamX
variable [Nm]
/-- one name of its own, which no slot bears -/
structure LamS1 (N : List Str) (sc scope : Scope) (px : Str) : Prop where
  kind : scope.kind = .function
  co : scope.isCoroutine = false
  gen : scope.isGenerator = false
  own : ∀ y ∈ scope.names, y.2 ≠ .cell ∧ (y.2 = .local → y.1 = px)
  par : scope.names.lookup px = some .local
  out : px ∉ N
  free : ∀ y ∈ scope.names, y.2 = .free → sc.names.lookup y.1 = some .cell ∨ sc.names.lookup y.1 = some .free
theorem LamS1.has {X : Cx} {N : List Str} {scope : Scope} {px : Str} (L : LamS1 N X.env.scope scope px) (ok : X.Ok) : ∀ y ∈ scope.names, y.2 = .free → ∃ c, X.env.cells.lookup y.1 = some c := fun y hy e => by
  rcases L.free y hy e with k | k
  · exact ok.has _ (.inl k)
  · exact ok.has _ (.inr k)
/-- what is known of the text of a lambda with a default -/
structure LamTx1 (X : Cx) (prm : Arguments) (body : Expr) (sc : Scope) : Prop where
  ex : ∃ (px : Str) (i : Int) (k : Nat) (pp : Pos), LamS1 X.N X.env.scope sc px ∧ prm.defaults = [.Constant (.int i) k pp] ∧ prm.kw_defaults = [] ∧
    ∀ (q : Str) (cl : List (Str × Addr)) (dV u0 u1 u2 u3 : Value), ∃ kk : Option (Array Value) → Sem (List (Str × Value)), bindArgs (PySem.W.kdv_fn "<lambda>" q prm (.expr body) sc cl dV u0 u1 u2 u3) ⟨[], []⟩ = seqItems? dV >>= kk ∧ ∀ v, kk (some #[v]) = pure [(px, v)]
end DI
/-! xs[::-1] of a tuple. -/
namespace HT
open PySem PySem.Spec PyProof.Rows PyProof
section
variable {prog : Program} {w : World} {A : Around} {E : Value → Shared → Prop} {s : Shared}
end
end HT
namespace L2
open PySem PySem.Spec PyProof.Rows
section
variable {X : Cx}
end
end L2
namespace DI
open PySem PySem.Spec PyProof.Rows L2 EX
variable [Nm]
section
variable {X : Cx} {p : Pl} {a : Expr} {wa : W} {pos : Pos}
def wRevT (wa : W) : W := ⟨fun s P => wa.f s fun d s1 => get (tupD d) fun ds => P (.tup ds.reverse) s1, fun s P P' h q => wa.mono _ _ _ (fun d s1 q => get_mono (fun z => h _ s1) q) q⟩
theorem f_wRevT {s P} : (wRevT wa).f s P = wa.f s fun d s1 => get (tupD d) fun ds => P (.tup ds.reverse) s1 := rfl
end
end DI
/-! not in over nested data; a list that a call gives, as a slot's own. -/
namespace L2
open PySem PySem.Spec PyProof.Rows
section
variable {X : Cx}
end
end L2
namespace DI
open PySem PySem.Spec PyProof.Rows L2 EX
variable [Nm]
section
variable {X : Cx} {p : Pl}
end
/-! ### a list that a call gives -/
theorem RpA.flat {K : PySem.W.Frag} {dr dr' : Option Addr} {G G' : Hp} : ∀ {vs : List V} {ds : List D}, ds.all flatD = true → RpA K dr G vs ds → RpA K dr' G' vs ds
  | _, _, _, .nil => .nil
  | _ :: _, d :: _, h, .cons r t => by
    rw [List.all_cons, Bool.and_eq_true] at h
    refine .cons ?_ (RpA.flat h.2 t)
    cases d <;> simp only [flatD, Bool.false_eq_true, false_and] at h
    · cases r; exact .non
    · cases r; exact .bl _
    · cases r; exact .int _
    · cases r; exact .str _
def rowD0 : D → Bool
  | .tup ds => ds.all flatD
  | _ => false
/-- a list of flat rows stays as it is where a heap is cut -/
theorem RpA.rows {K : PySem.W.Frag} {dr dr' : Option Addr} {G G' : Hp} (e : ∀ q xs, SqT K G q xs → SqT K G' q xs) : ∀ {vs : List V} {ds : List D}, ds.all rowD0 = true → RpA K dr G vs ds → RpA K dr' G' vs ds
  | _, _, _, .nil => .nil
  | _ :: _, d :: _, h, .cons r t => by
    rw [List.all_cons, Bool.and_eq_true] at h
    refine .cons ?_ (RpA.rows e h.2 t)
    cases d <;> simp only [rowD0, Bool.false_eq_true, false_and] at h
    cases r with
    | tup hq hk => exact .tup (e _ _ hq) (hk.flat h.1)
open Classical in
/-- f(t), t a flat tuple: a list of flat rows, no one else's -/
def wOwnC (F : FT) (t : WA) : WA := ⟨fun s P => t.f s fun ds s1 => (∃ os, ds = [.tup os] ∧ os.all flatD = true) ∧ F.f ds s1.n fun d _ => ∃ es, d = .lst es ∧ es.all rowD0 = true ∧ P es s1,
  fun s P P' h q => t.mono _ _ _ (fun ds s1 q => ⟨q.1, F.mono _ _ _ _ (fun d m ⟨es, e, r, q⟩ => ⟨es, e, r, h _ _ q⟩) q.2⟩) q⟩
theorem f_wOwnC {F : FT} {t : WA} {s P} : (wOwnC F t).f s P = t.f s fun ds s1 => (∃ os, ds = [.tup os] ∧ os.all flatD = true) ∧ F.f ds s1.n fun d _ => ∃ es, d = .lst es ∧ es.all rowD0 = true ∧ P es s1 := rfl
section
variable {X : Cx} {p : Pl} {e : Expr} {t : WA} {pos pf : Pos} {x : Str} {ps : List Str} {F : FT} {k j : Nat}
open Classical in
end
end DI
/-! x, y, z = a, b, [] and x, y, z = [], b, []: own lists among three. -/
namespace DI
open PySem PySem.Spec PyProof.Rows L2
variable [Nm]
def wPar3a (i j l : Nat) (wa wb : W) : WS := ⟨fun E s => wa.f s fun d1 s1 => wb.f s1 fun d2 s2 => i < s2.env.length ∧ j < s2.env.length ∧ l < s2.env.length ∧ E.nx { s2 with env := ((s2.env.set i (.val d1)).set j (.val d2)).set l (.own []) },
  fun E E' s h q => wa.mono _ _ _ (fun d1 s1 q => wb.mono _ _ _ (fun d2 s2 q => ⟨q.1, q.2.1, q.2.2.1, h.nx _ q.2.2.2⟩) q) q⟩
def wPar3b (i j l : Nat) (c : Int) : WS := ⟨fun E s => i < s.env.length ∧ j < s.env.length ∧ l < s.env.length ∧ E.nx { s with env := ((s.env.set i (.own [])).set j (.val (.int c))).set l (.own []) },
  fun E E' s h q => ⟨q.1, q.2.1, q.2.2.1, h.nx _ q.2.2.2⟩⟩
theorem f_wPar3a {E s} {i j l : Nat} {wa wb : W} : (wPar3a i j l wa wb).f E s = wa.f s fun d1 s1 => wb.f s1 fun d2 s2 => i < s2.env.length ∧ j < s2.env.length ∧ l < s2.env.length ∧ E.nx { s2 with env := ((s2.env.set i (.val d1)).set j (.val d2)).set l (.own []) } := rfl
theorem f_wPar3b {E s} {i j l : Nat} {c : Int} : (wPar3b i j l c).f E s = (i < s.env.length ∧ j < s.env.length ∧ l < s.env.length ∧ E.nx { s with env := ((s.env.set i (.own [])).set j (.val (.int c))).set l (.own []) }) := rfl
section
variable {X : Cx} {p : Pl} {pos : Pos} {a b : Expr} {wa wb : W}
end
end DI
/-! a, b, .. = xs, xs a list. -/
namespace UL
open PySem PySem.Spec PyProof.Rows PyProof
section
variable {prog : Program} {w : World} {A : Around} {E : Value → Shared → Prop} {s : Shared}
end
end UL
namespace L2
open PySem PySem.Spec PyProof.Rows
section
variable {X : Cx} {pos : Pos}
end
end L2
namespace DI
open PySem PySem.Spec PyProof.Rows L2
variable [Nm]
section
variable {X : Cx} {p : Pl} {es : List Expr} {pos : Pos}
def gLs (n : Nat) (gs : List D → List Sl → Option (List Sl)) : D → List Sl → Option (List Sl)
  | .lst ds, env => if ds.length = n then gs ds env else none
  | _, _ => none
/-- isinstance(x, T), x a slot's own list -/
def wIsiV (T : String) (i : Nat) : W := ⟨fun s P => get (vget s.env i) fun d => get (gIsi T d) fun z => P z s, fun s P P' h q => get_mono (fun d q => get_mono (fun z => h z s) q) q⟩
theorem f_wIsiV {T : String} {i : Nat} {s P} : (wIsiV T i).f s P = get (vget s.env i) fun d => get (gIsi T d) fun z => P z s := rfl
end
end DI
/-! Calls without arguments. -/
namespace DI
open PySem PySem.Spec PyProof.Rows L2
variable [Nm]
section
variable {X : Cx} {p : Pl} {k : Nat} {f : Addr} {fd : FuncData} {sp : Sp} {x : Str} {pos pf : Pos} {F : FT}
end
end DI
/-! A table of the top with tuples of texts as keys, written out in K: whether a tuple is in it. -/
namespace DI
open PySem PySem.Spec PyProof.Rows L2
variable [Nm]
/-- the table, by its keys -/
def Sty (P : Program) (w : World) (K : PySem.W.Frag) (mg : Str → Option Value) (x : Str) (zss : List (List Str)) : Prop :=
  ∃ a : Addr, mg x = some (.ref a) ∧ (a == sysModules) = false ∧ ∃ xs : List (List Str × Addr × Value), xs.map (·.1) = zss ∧ ∀ h : Heap, K.In h → h.DictOfH (kd2 P w) a xs
/-- the texts of a tuple of texts -/
def strsL : List D → Option (List Str)
  | [] => some []
  | .str z :: r => (strsL r).map (z :: ·)
  | _ => none
def strsT : D → Option (List Str)
  | .tup ds => strsL ds
  | _ => none
theorem strsL_of {K : PySem.W.Frag} {dr : Option Addr} {G : Hp} : ∀ {vs : List V} {ds : List D} {zs : List Str}, RpA K dr G vs ds → strsL ds = some zs → vs = zs.map V.str
  | _, _, zs, .nil, e => by cases e; rfl
  | _, _, zs, .cons (d := d) (ds := ds) r t, e => by
    cases d <;> simp only [strsL] at e <;> try cases e
    obtain ⟨zs', e1, rfl⟩ := Option.map_eq_some_iff.mp e
    cases r
    rw [List.map_cons, strsL_of t e1]
theorem vals_strs {P : Program} {w : World} : ∀ {zs : List Str} {us : List Value}, Vals (zs.map V.str) us → ItemsAre (PySem.strKind P w) zs us
  | [], _, .nil => .nil
  | z :: zs, _, .cons r t => by
    obtain ⟨tk, rfl⟩ := r
    exact .cons (by show Value.isStrOf z (.str z tk) = true; simp [Value.isStrOf]) (vals_strs t)
theorem strsL_map : ∀ zs : List Str, strsL (zs.map D.str) = some zs
  | [] => rfl
  | z :: zs => by
    show (strsL (zs.map D.str)).map (z :: ·) = _
    rw [strsL_map zs]
    rfl
theorem atKey_mem {xs : List (List Str × Addr × Value)} (k : List Str) : (atKey xs k).isSome = decide (k ∈ xs.map (·.1)) := by
  unfold atKey
  rw [Option.isSome_map]
  induction xs with
  | nil => rfl
  | cons x t ih =>
    rw [List.find?_cons]
    by_cases h : x.1 = k
    · rw [decide_eq_true h]
      subst h
      simp
    · rw [decide_eq_false h]
      have h2 : ¬ k = x.1 := fun e => h e.symm
      simp only [ih, List.map_cons, List.mem_cons, h2, false_or]
def rSty (K : PySem.W.Frag) (a : Addr) (zss : List (List Str)) : R2 := fun x y H Q => y = .ref a ∧ ∃ b zs, x = .ref b ∧ SqT K H b (zs.map V.str) ∧ Q (.bl (decide (zs ∈ zss))) H
section
variable {X : Cx} {p : Pl} {e : Expr} {pos pf : Pos} {x : Str} {zss : List (List Str)} {we : W}
theorem op_sty {a : Addr} {xs : List (List Str × Addr × Value)} (hu : X.A.units + 1 < cLine) (ha : (a == sysModules) = false) (hx : xs.map (·.1) = zss) (hK : ∀ h : Heap, X.K.In h → h.DictOfH (kd2 X.prog X.w) a xs) : OpR X (compareOp .In) (rSty X.K a zss) := by
  intro pins s σ H x y v u Q I rx ry h
  obtain ⟨rfl, b, zs, rfl, hs, q⟩ := h
  cases (show u = Value.ref a from ry)
  cases (show v = Value.ref b from rx)
  obtain ⟨its, r, ⟨o, h1, h2, n, h3⟩, _⟩ := I.tuple hs
  refine wpAny_in_heap (knd := kd2 X.prog X.w) (k := zs) (tupleKind_room_in1 hu) ⟨o, its.toArray, n, h1, h2, h3, by simpa using vals_strs r⟩ ha (hK _ I.kIn) ?_
  rw [atKey_mem, hx]
  exact ⟨.bl _, H, I.tok _, rfl, q⟩
def wSty (zss : List (List Str)) (we : W) : W := ⟨fun s P => we.f s fun d s2 => get (strsT d) fun zs => P (.bl (decide (zs ∈ zss))) s2, fun s P P' h q => we.mono _ _ _ (fun d s2 q => get_mono (fun zs q => h _ _ q) q) q⟩
theorem f_wSty {s P} : (wSty zss we).f s P = (we.f s fun d s2 => get (strsT d) fun zs => P (.bl (decide (zs ∈ zss))) s2) := rfl
theorem pd_sty {k : Nat} (S : Sty X.prog X.w X.K X.mg x zss) (hr : Room k X.A) (he : PE X e (lift p we)) (hK : p.K = X.K := by rfl) (hg : Gl X x := by rfl) (hd : (x == ("__debug__" : Str)) = false := by decide)
    (hm : behindInMarks .In (.Name x pf) = false := by first | exact nomark _ | with_unfolding_all rfl) : PE X (.Compare e [.In] [.Name x pf] pos) (lift p (wSty zss we)) := by
  obtain ⟨a, m1, m2, xs, m3, m4⟩ := S
  refine PE.imp (pe_cmpR (op_sty (by have := hr.un; omega) m2 m3 m4) he (pe_glob hg m1 (v := .ref a) rfl hd) hm) fun σ H Q ⟨G, s, R, q⟩ => ⟨G, s, R, we.mono _ _ _ (fun d s1 k1 v H1 G1 e1 R1 r1 => ?_) q⟩
  obtain ⟨zs, ez, k2⟩ := get_of k1
  cases d <;> simp only [strsT] at ez <;> try cases ez
  cases r1 with
  | tup hs ra =>
    rw [strsL_of ra ez, hK] at hs
    refine ⟨rfl, _, zs, rfl, ?_, k2 _ H1 G1 e1 R1 (.bl _)⟩
    exact Same.tup R1.sub.go hs
end
end DI
/-! What is written out, with one more object: facts go on. -/
namespace DI
open PySem PySem.W PySem.Spec PyProof.Rows L2
/-- all of K is in K' -/
def KExt (K K' : Frag) : Prop := ∀ a o, K.lookup a = some o → K'.lookup a = some o
section
variable {K K' : Frag}
theorem lookup_app : ∀ (K E : Frag) (a : Addr), (K ++ E).lookup a = match K.lookup a with | some o => some o | none => E.lookup a
  | [], _, _ => rfl
  | (b, o) :: t, E, a => by
    show List.lookup a ((b, o) :: (t ++ E)) = _
    rw [List.lookup_cons, List.lookup_cons]
    cases a == b with
    | true => rfl
    | false => exact lookup_app t E a
theorem KExt.app (K E : Frag) : KExt K (K ++ E) := fun a o e => by rw [lookup_app, e]
theorem KExt.lk (x : KExt K K') {a : Addr} {o : Obj} (e : K.lookup a = some o) : K'.lookup a = some o := x a o e
theorem KExt.ns (x : KExt K K') {a : Addr} {n : Str} {r : Option Value} (e : nsIn K a n = some r) : nsIn K' a n = some r := by
  unfold nsIn at e ⊢
  cases h : K.lookup a with
  | none => rw [h] at e; cases e
  | some o => rw [h] at e; rw [x a o h]; exact e
theorem KExt.own (x : KExt K K') {n : Str} {v : Value} {r : Option Value} (e : ownIn K n v = some r) : ownIn K' n v = some r := by
  unfold ownIn at e ⊢
  cases v with
  | ref a =>
    dsimp only at e ⊢
    cases h : K.lookup a with
    | none => rw [h] at e; cases e
    | some o =>
      rw [h] at e
      rw [x a o h]
      obtain ⟨c, d, dt, sl⟩ := o
      cases dt <;> first | exact x.ns e | cases e
  | _ => exact e
theorem KExt.along (x : KExt K K') {n : Str} : ∀ {vs : List Value} {r : Option Value}, alongIn K n vs = some r → alongIn K' n vs = some r
  | [], _, e => e
  | c :: t, r, e => by
    unfold alongIn at e ⊢
    cases h : ownIn K n c with
    | none => rw [h] at e; cases e
    | some o =>
      rw [h] at e
      rw [x.own h]
      cases o with
      | some v => exact e
      | none => exact x.along e
theorem KExt.find (x : KExt K K') {t : Value} {n : Str} {r : Option Value} (e : findIn K t n = some r) : findIn K' t n = some r := by
  unfold findIn at e ⊢
  cases t with
  | ref a =>
    dsimp only at e ⊢
    cases h : K.lookup a with
    | none => rw [h] at e; cases e
    | some o =>
      rw [h] at e
      rw [x a o h]
      obtain ⟨c, d, dt, sl⟩ := o
      cases dt <;> first | exact x.along e | cases e
  | _ => exact e
theorem KExt.ty (x : KExt K K') {v t : Value} (e : typeIn K v = some t) : typeIn K' v = some t := by
  unfold typeIn at e ⊢
  cases v with
  | ref a =>
    obtain ⟨o, h, rfl⟩ := Option.map_eq_some_iff.mp e
    show (K'.lookup a).map (·.cls) = _
    rw [x a o h]
    rfl
  | _ => exact e
theorem KExt.special (x : KExt K K') {v : Value} {n : Str} {r : Option Value} (e : specialIn K v n = some r) : specialIn K' v n = some r := by
  unfold specialIn at e ⊢
  obtain ⟨t, h1, h2⟩ := Option.bind_eq_some_iff.mp e
  rw [x.ty h1]
  exact x.find h2
theorem KExt.code (x : KExt K K') {cd : Value} {q : Str} (e : codeIn K cd q = true) : codeIn K' cd q = true := by
  unfold codeIn at e ⊢
  cases cd with
  | ref c =>
    dsimp only at e ⊢
    cases h : K.lookup c with
    | none => rw [h] at e; cases e
    | some o => rw [h] at e; rw [x c o h]; exact e
  | _ => exact e
theorem KExt.keep (x : KExt K K') {f : Value} (e : keepIn K f = true) : keepIn K' f = true := by
  unfold keepIn at e ⊢
  cases f with
  | ref a =>
    dsimp only at e ⊢
    cases h : K.lookup a with
    | none => rw [h] at e; cases e
    | some o =>
      rw [h] at e
      rw [x a o h]
      obtain ⟨c, d, dt, sl⟩ := o
      cases dt
      case cls cd =>
        dsimp only at e ⊢
        have e' := eq_of_beq e
        rw [x.special e']
        rfl
      all_goals exact e
  | _ => exact e
theorem KExt.tab (x : KExt K K') {y : Str} {r : Addr × Addr} (e : tabIn K y = some r) : tabIn K' y = some r := by
  unfold tabIn at e ⊢
  cases h : nsIn K mainGlobals y with
  | none => rw [h] at e; cases e
  | some o =>
    rw [h] at e
    rw [x.ns h]
    rcases o with _ | v
    · exact e
    cases v with
    | ref f =>
      dsimp only at e ⊢
      cases h2 : K.lookup f with
      | none => rw [h2] at e; cases e
      | some o =>
        rw [h2] at e
        rw [x f o h2]
        obtain ⟨c, d, dt, sl⟩ := o
        cases dt
        case func fd =>
          dsimp only at e ⊢
          cases hc : fd.code with
          | ref c =>
            rw [hc] at e
            dsimp only at e ⊢
            cases h3 : K.lookup c with
            | none => rw [h3] at e; cases e
            | some o => rw [h3] at e; rw [x c o h3]; exact e
          | _ => rw [hc] at e; exact e
        all_goals exact e
    | _ => exact e
end
/-! the table -/
theorem styO_go (P : Program) (w : World) : ∀ (xs : StyX) (es : Array DictEntry) (n : Nat), ∃ m, xs.foldl (fun o x => Obj.mapDictKeys (fun es => es.push (entryOfKey (kd2 P w) x)) o) ⟨.type "dict", none, .dict es n, #[]⟩ = (⟨.type "dict", none, .dict (es ++ (xs.map (entryOfKey (kd2 P w))).toArray) m, #[]⟩ : Obj)
  | [], es, n => ⟨n, by simp⟩
  | x :: t, es, n => by
    obtain ⟨m, e⟩ := styO_go P w t (es.push (entryOfKey (kd2 P w) x)) (n + 1)
    refine ⟨m, ?_⟩
    rw [List.foldl_cons]
    refine Eq.trans e ?_
    simp
theorem sty_mk {P : Program} {w : World} {K : Frag} {mg : Str → Option Value} {x : Str} {a : Addr} {xs : StyX} (m : mg x = some (.ref a)) (ha : (a == sysModules) = false) (hn : (xs.map (·.1)).Nodup) (hk : K.lookup a = some (styO P w xs))
    (ht : ∀ y ∈ xs, ∃ (o : Obj) (its : Array Value) (n : Nat), K.lookup y.2.1 = some o ∧ o.cls = .type "tuple" ∧ o.data = .seq its n ∧ ItemsAre (PySem.strKind P w) y.1 its.toList) : Sty P w K mg x (xs.map (·.1)) := by
  refine ⟨a, m, ha, xs, rfl, fun h X => ?_⟩
  obtain ⟨n, e⟩ := styO_go P w xs #[] 0
  have e' : styO P w xs = ⟨.type "dict", none, .dict (#[] ++ (xs.map (entryOfKey (kd2 P w))).toArray) n, #[]⟩ := e
  rw [e'] at hk
  refine ⟨⟨.type "dict", none, .dict (#[] ++ (xs.map (entryOfKey (kd2 P w))).toArray) n, #[]⟩, _, n, X a _ hk, ⟨rfl, rfl, rfl⟩, rfl, by simp, fun y hy => ?_, hn⟩
  obtain ⟨o, its, n, h1, h2, h3, h4⟩ := ht y hy
  show IsTupleKey (PySem.strKind P w) h y.1 y.2.1
  exact ⟨o, its, n, X _ _ h1, h2, h3, h4⟩
end DI
/-! The walk over what is written out and the table. -/
noncomputable section
namespace DI
open PySem PySem.W PySem.Spec PyProof.Rows L2
/-- a world that has these parameters -/
def wOf (P : Params) : World := { draws := fun _ _ => 0, params := P }
theorem styO_w (prog : Program) (w : World) (xs : StyX) : styO prog (wOf w.params) xs = styO prog w xs := rfl
/-- what is written out, and the table -/
def kx (K0 : Params → Frag) (D : Addr) (so : Params → Obj) : Params → Frag := fun P => K0 P ++ [(D, so P)]
theorem kx_in {K0 : Params → Frag} {D : Addr} {so : Params → Obj} {w : World} {h : Heap} (a : (K0 w.params).In h) (b : h.get? D = some (so w.params)) : (kx K0 D so w.params).In h := fun x o e => by
  unfold kx at e
  rw [lookup_app] at e
  cases hk : (K0 w.params).lookup x with
  | some o' =>
    rw [hk] at e
    cases e
    exact a x o hk
  | none =>
    rw [hk] at e
    have e' : (if x == D then some (so w.params) else none) = some o := by
      have z : List.lookup x [(D, so w.params)] = some o := e
      rw [List.lookup_cons] at z
      cases q : x == D with
      | true => rw [q] at z; simpa using z
      | false => rw [q] at z; simp at z
    split at e'
    · rename_i q
      cases e'
      rw [eq_of_beq q]
      exact b
    · cases e'
theorem kx_ext {K0 : Params → Frag} {D : Addr} {so : Params → Obj} (P : Params) : KExt (K0 P) (kx K0 D so P) := KExt.app _ _
theorem kx_lk {K0 : Params → Frag} {D : Addr} {so : Params → Obj} {P : Params} (h : (K0 P).lookup D = none) : (kx K0 D so P).lookup D = some (so P) := by
  unfold kx
  rw [lookup_app, h]
  show List.lookup D [(D, so P)] = _
  rw [List.lookup_cons]
  simp
end DI
/-! A slot's own dict of which one only asks whether a key is in it: its keys are pairs of texts, or texts and None. -/
namespace DI
open PySem PySem.Spec PyProof.Rows L2 EX
variable [Nm]
abbrev MF := (D → Prop) → Nat → Addr → HO → Prop
def MT : MF := fun Pk n _ o => ∃ kvs : List (List Key × V), o = .dT kvs ∧ kvs.length ≤ n ∧ ∀ q ∈ kvs, Pk (.tup (q.1.map unK))
abbrev Lf := PySem.Leaf
def unL : Lf → D
  | .none => .non
  | .num i => .int i
  | .text x => .str x
def lfD : D → Option Lf
  | .non => some .none
  | .str x => some (.text x)
  | _ => none
def lfV : Lf → V
  | .none => .non
  | .num i => .int i
  | .text x => .str x
def phiL (P : Program) (w : World) (Pk : D → Prop) (n : Nat) (a : Addr) : Heap → Prop := fun h => (a == sysModules) = false ∧ ∃ vs : List (Lf × Value), h.DictOf (leafKind P w) a vs ∧ vs.length ≤ n ∧ ∀ q ∈ vs, Pk (unL q.1)
def ML (P : Program) (w : World) : MF := fun Pk n a o => (a == sysModules) = false ∧ o = .ext (phiL P w Pk n a)
theorem phiL_keep {P : Program} {w : World} {Pk : D → Prop} {n : Nat} {a : Addr} (h1 h2 : Heap) (e : phiL P w Pk n a h1) (k : ∀ o, h1.get? a = some o → h2.get? a = some o) : phiL P w Pk n a h2 := by
  obtain ⟨hd, vs, d, l, q⟩ := e
  exact ⟨hd, vs, d.at' k, l, q⟩
theorem ext_ok {P : Program} {w : World} {H : Hp} {h : Heap} {Pk : D → Prop} {n : Nat} {a : Addr} (e : phiL P w Pk n a h) : ObjOk P w H h a (.ext (phiL P w Pk n a)) := by
  obtain ⟨hd, vs, d, l, q⟩ := e
  have d' := d
  obtain ⟨o, _, _, ho, _⟩ := d'
  exact ⟨⟨hd, vs, d, l, q⟩, ⟨o, ho⟩, fun h1 h2 e k => phiL_keep h1 h2 e k⟩
theorem lf_is {P : Program} {w : World} {l : Lf} {u : Value} (r : RelV (lfV l) u) : (leafKind P w).is l u = true := by
  cases l with
  | none => cases (show u = Value.none from r); rfl
  | num i => obtain ⟨t, rfl⟩ := (show ∃ t, u = Value.int i t from r); exact decide_eq_true rfl
  | text x => obtain ⟨t, rfl⟩ := (show ∃ t, u = Value.str x t from r); simp [leafKind, PySem.Leaf.isOf, Value.isStrOf]
theorem valueAt_mem {κ : Type} [DecidableEq κ] {k : κ} : ∀ {vs : List (κ × Value)}, (valueAt vs k).isSome = true → ∃ q ∈ vs, q.1 = k
  | [], h => by simp [valueAt] at h
  | p :: r, h => by
    by_cases e : p.1 = k
    · exact ⟨p, List.mem_cons_self, e⟩
    · have h' : (valueAt r k).isSome = true := by
        rw [← h]
        simp [valueAt, List.find?_cons, e]
      obtain ⟨q, h1, h2⟩ := valueAt_mem h'
      exact ⟨q, List.mem_cons_of_mem _ h1, h2⟩
theorem valV_mem {κ : Type} [DecidableEq κ] {k : κ} : ∀ {vs : List (κ × V)}, (valV vs k).isSome = true → ∃ q ∈ vs, q.1 = k
  | [], h => by simp [valV] at h
  | p :: r, h => by
    by_cases e : p.1 = k
    · exact ⟨p, List.mem_cons_self, e⟩
    · rw [valV_neg e] at h
      obtain ⟨q, h1, h2⟩ := valV_mem h
      exact ⟨q, List.mem_cons_of_mem _ h1, h2⟩
theorem stored_mem {κ : Type} [DecidableEq κ] {k : κ} {v : Value} {vs : List (κ × Value)} {q : κ × Value} (h : q ∈ stored vs k v) : q.1 = k ∨ ∃ q' ∈ vs, q'.1 = q.1 := by
  unfold stored at h
  split at h
  · obtain ⟨p, hp, rfl⟩ := List.mem_map.mp h
    refine .inr ⟨p, hp, ?_⟩
    split <;> rfl
  · rcases List.mem_append.mp h with h | h
    · exact .inr ⟨q, h, rfl⟩
    · cases List.mem_singleton.mp h
      exact .inl rfl
theorem stored_len {κ : Type} [DecidableEq κ] {k : κ} {v : Value} {vs : List (κ × Value)} : (stored vs k v).length ≤ vs.length + 1 := by
  unfold stored
  split
  · rw [List.length_map]; omega
  · simp
theorem putK_mem {κ : Type} [DecidableEq κ] {k : κ} {v : V} {vs : List (κ × V)} {q : κ × V} (h : q ∈ putK vs k v) : q.1 = k ∨ ∃ q' ∈ vs, q'.1 = q.1 := by
  unfold putK at h
  split at h
  · obtain ⟨p, hp, rfl⟩ := List.mem_map.mp h
    refine .inr ⟨p, hp, ?_⟩
    split <;> rfl
  · rcases List.mem_append.mp h with h | h
    · exact .inr ⟨q, h, rfl⟩
    · cases List.mem_singleton.mp h
      exact .inl rfl
/-! ### the slot -/
def memE (t : Bool) (env : List Sl) (j : Nat) : Option (MF × (D → Prop) × Nat) := match env[j]? with
  | some (.mem u F Pk n) => if u = t then some (F, Pk, n) else none
  | _ => none
theorem memE_of {t : Bool} {env : List Sl} {j : Nat} {m : MF × (D → Prop) × Nat} (h : memE t env j = some m) : env[j]? = some (.mem t m.1 m.2.1 m.2.2) := by
  unfold memE at h
  cases e : env[j]? with
  | none => rw [e] at h; cases h
  | some x =>
    rw [e] at h
    cases x with
    | mem u F Pk n =>
      by_cases z : u = t
      · subst z
        simp at h
        subst h
        rfl
      · simp [z] at h
    | _ => cases h
def notM (t : Bool) : Sl → Bool
  | .mem u _ _ _ => u != t
  | _ => true
/-- no other slot is a dict of that kind -/
def lone (t : Bool) (j : Nat) (env : List Sl) : Bool := (env.set j .emp).all (notM t)
theorem lone_of {t : Bool} {j i : Nat} {env : List Sl} {F : MF} {Pk : D → Prop} {n : Nat} (h : lone t j env = true) (hn : j ≠ i) (e : env[i]? = some (.mem t F Pk n)) : False := by
  have e' : (env.set j .emp)[i]? = some (.mem t F Pk n) := by rw [List.getElem?_set_ne hn]; exact e
  have z := (List.all_eq_true.mp h) _ (List.mem_of_getElem? e')
  simp [notM] at z
def emO : Obj := { cls := .type "dict", data := .dict #[] }
def emH : Nat → Heap
  | 0 => default
  | n + 1 => (emH n).push emO
theorem emH_size : ∀ n, (emH n).objs.size = n
  | 0 => rfl
  | n + 1 => by rw [emH, Heap.objs_push, Array.size_push, emH_size n]
theorem emH_get {b : Addr} {o : Obj} : ∀ n, (emH n).get? b = some o → o = emO
  | 0, h => by
    obtain ⟨e1, _⟩ := Heap.get?_some_iff.mp h
    exact absurd e1 (by simp [emH]; exact fun z => nomatch z)
  | n + 1, h => by
    rcases Heap.get?_push_cases h with ⟨_, e⟩ | h
    · exact e
    · exact emH_get n h
theorem phi_ne {P : Program} {w : World} {Pk : D → Prop} {n : Nat} {a c : Addr} {q : Str} (ha : (a == sysModules) = false) : HO.ext (phiL P w Pk n a) ≠ LamX.CodeO c q := fun z => by
  injection z with z
  have e := congrFun z (emH (a + 1))
  have l : phiL P w Pk n a (emH (a + 1)) := ⟨ha, [], by
    have d := Heap.DictOf.new (knd := leafKind P w) (emH a)
    rw [emH_size] at d
    exact d, Nat.zero_le _, fun q hq => nomatch hq⟩
  rw [e] at l
  obtain ⟨oc, vs, t, h1, h2, _⟩ := l
  rw [emH_get _ h1] at h2
  cases h2
theorem soft_L {P : Program} {w : World} {Pk : D → Prop} {n : Nat} {H : Hp} {a : Addr} {o : HO} (h : ML P w Pk n a o) (e : H a = some o) : Soft H a := fun o' h' => by
  rw [e] at h'
  cases h'
  obtain ⟨ha, rfl⟩ := h
  exact ⟨fun ps z => (by cases z), fun c q z => phi_ne ha z⟩
theorem soft_T {Pk : D → Prop} {n : Nat} {H : Hp} {a : Addr} {o : HO} (h : MT Pk n a o) (e : H a = some o) : Soft H a := fun o' h' => by
  rw [e] at h'
  cases h'
  obtain ⟨kvs, rfl, _⟩ := h
  exact ⟨fun ps z => (by cases z), fun c q z => (by cases z)⟩
section
variable {K : PySem.W.Frag} {dr : Option Addr} {H0 G0 : Hp} {σ : L2.St} {H G H' G' : Hp} {s : S}
theorem Rs.writeM {i : Nat} {p : Addr} {t : Bool} {F : MF} {Pk Pk' : D → Prop} {n n' : Nat} {o' : HO} (R : Rs K dr H0 G0 σ H G s) (hx : s.env[i]? = some (.mem t F Pk n)) (hv : σ[i]? = some (some (V.ref p))) (sf : Soft H p) (hl : lone t i s.env = true) (ho : Opq t o') (hF : F Pk' n' p o') :
    Rs K dr H0 G0 σ (L2.upd H p o') G { s with env := s.env.set i (.mem t F Pk' n') } := by
  obtain ⟨p', o0, e1, h1, h2, h3, h4, h5, r0⟩ := R.slot i _ hx
  rw [hv] at e1
  cases e1
  have hie : i < s.env.length := (List.getElem?_eq_some_iff.mp hx).1
  refine ⟨⟨fun a u e => ?_, R.sub.nt⟩, ?_, R.new, by simp [R.len], fun j x hx' => ?_, fun j k q es' fs hjk e1 e2 e3 => ?_, fun j k q ks' ls' es' fs hjk e1 e2 e3 => ?_, fun a ha => ?_⟩
  · have ne : a ≠ p := fun z => by
      subst z
      rw [h2] at e
      cases e
    rw [upd_ne ne]
    exact R.sub a u e
  · exact R.base.upd (fun a h => upd_ne h) sf (.inl h4)
  · by_cases h : i = j
    · subst h
      rw [List.getElem?_set_self hie] at hx'
      cases hx'
      exact ⟨p, o', hv, upd_same, h2, h3, h4, ho, hF⟩
    · rw [List.getElem?_set_ne h] at hx'
      have q := R.slot j x hx'
      cases x with
      | emp => trivial
      | val d => exact q
      | own fs =>
        obtain ⟨q1, zs, e, g1, g2, g3, g4, r'⟩ := q
        have ne : q1 ≠ p := fun z => by
          rw [z, h1] at g1
          cases g1
          exact h5.lst _ rfl
        exact ⟨q1, zs, e, by rw [upd_ne ne]; exact g1, g2, g3, g4, r'⟩
      | bor fs =>
        obtain ⟨q1, zs, e, hb, r'⟩ := q
        refine ⟨q1, zs, e, ?_, r'⟩
        rcases hb with ⟨g1, g2⟩ | hb
        · have ne : q1 ≠ p := fun z => g2 (by rw [z]; exact h4)
          exact .inl ⟨rd_at (upd_ne ne) g1, g2⟩
        · exact .inr hb
      | dic ks' fs =>
        obtain ⟨q1, zs, e, g1, g2, g3, g4, g5, r'⟩ := q
        have ne : q1 ≠ p := fun z => by
          rw [z, h1] at g1
          cases g1
          exact h5.dK _ rfl
        exact ⟨q1, zs, e, by rw [upd_ne ne]; exact g1, g2, g3, g4, g5, r'⟩
      | mem u F2 Pk2 n2 =>
        obtain ⟨q1, o1, e, g1, g2, g3, g4, g5, g6⟩ := q
        have ne : q1 ≠ p := fun z => by
          rw [z, h1] at g1
          cases g1
          have ut : u = t := by
            cases u <;> cases t
            · rfl
            · obtain ⟨_, z1⟩ := g5
              obtain ⟨_, z2⟩ := h5
              rw [z1] at z2
              cases z2
            · obtain ⟨_, z1⟩ := g5
              obtain ⟨_, z2⟩ := h5
              rw [z1] at z2
              cases z2
            · rfl
          subst ut
          exact lone_of hl h hx'
        exact ⟨q1, o1, e, by rw [upd_ne ne]; exact g1, g2, g3, g4, g5, g6⟩
  · have nj : i ≠ j := fun z => by
      subst z
      rw [List.getElem?_set_self hie] at e1
      cases e1
    have nk : i ≠ k := fun z => by
      subst z
      rw [List.getElem?_set_self hie] at e2
      cases e2
    rw [List.getElem?_set_ne nj] at e1
    rw [List.getElem?_set_ne nk] at e2
    exact R.inj j k q es' fs hjk e1 e2 e3
  · have nj : i ≠ j := fun z => by
      subst z
      rw [List.getElem?_set_self hie] at e1
      cases e1
    have nk : i ≠ k := fun z => by
      subst z
      rw [List.getElem?_set_self hie] at e2
      cases e2
    rw [List.getElem?_set_ne nj] at e1
    rw [List.getElem?_set_ne nk] at e2
    exact R.injD j k q ks' ls' es' fs hjk e1 e2 e3
  · obtain ⟨f, L, ns, x, l, u, e1, e2, k⟩ := R.drw a ha
    have ne : a ≠ p := fun z => h3 (by rw [ha, z])
    exact ⟨f, L, ns, x, l, u, by rw [upd_ne ne]; exact e1, e2, k⟩
theorem Rs.setMem {i : Nat} {p : Addr} {t : Bool} {F : MF} {Pk : D → Prop} {n : Nat} {o : HO} (R : Rs K dr H0 G0 σ H G s) (hi : i < σ.length) (hp : H p = none) (ho : Opq t o) (hF : F Pk n p o) :
    Rs K dr H0 G0 (σ.set i (some (V.ref p))) (L2.upd H p o) G { s with env := s.env.set i (.mem t F Pk n) } := by
  have gp : G p = none := R.sub.none hp
  have dn : dr ≠ some p := R.drw.ne hp
  have hie : i < s.env.length := by rw [R.len]; exact hi
  have h0p : H0 p = none := R.base.free dn hp
  refine ⟨⟨fun a u e => ?_, R.sub.nt⟩, ?_, R.new, by simp [R.len], fun j x hx => ?_, fun j k q es fs hjk e1 e2 e3 => ?_, fun j k q ms ls es fs hjk e1 e2 e3 => ?_, fun a ha => ?_⟩
  · rw [upd_ne (ne_of_none (R.sub a u e) hp)]
    exact R.sub a u e
  · exact R.base.upd (fun a h => upd_ne h) (Soft.none hp) (.inl (R.base.free dn hp))
  · by_cases h : i = j
    · subst h
      rw [List.getElem?_set_self hie] at hx
      cases hx
      exact ⟨p, o, by rw [List.getElem?_set_self hi], upd_same, gp, dn, h0p, ho, hF⟩
    · rw [List.getElem?_set_ne h] at hx ⊢
      have q := R.slot j x hx
      cases x with
      | emp => trivial
      | val d => exact q
      | own es =>
        obtain ⟨q1, ys, e, h1, h2, h3, h4, r⟩ := q
        exact ⟨q1, ys, e, by rw [upd_ne (ne_of_none h1 hp)]; exact h1, h2, h3, h4, r⟩
      | bor es =>
        obtain ⟨q1, ys, e, hb, r⟩ := q
        refine ⟨q1, ys, e, ?_, r⟩
        rcases hb with ⟨h1, h2⟩ | hb
        · exact .inl ⟨rd_at (upd_ne (rd_ne h1 hp)) h1, h2⟩
        · exact .inr hb
      | dic ms es =>
        obtain ⟨q1, ys, e, h1, h2, h3, h4, h5, r⟩ := q
        exact ⟨q1, ys, e, by rw [upd_ne (ne_of_none h1 hp)]; exact h1, h2, h3, h4, h5, r⟩
      | mem t F Pk n =>
        obtain ⟨q1, o1, e, g1, g2, g3, g4, g5, g6⟩ := q
        exact ⟨q1, o1, e, by rw [upd_ne (ne_of_none g1 hp)]; exact g1, g2, g3, g4, g5, g6⟩
  · have nj : i ≠ j := fun z => by
      subst z
      rw [List.getElem?_set_self hie] at e1
      cases e1
    have nk : i ≠ k := fun z => by
      subst z
      rw [List.getElem?_set_self hie] at e2
      cases e2
    rw [List.getElem?_set_ne nj] at e1 e3
    rw [List.getElem?_set_ne nk] at e2 ⊢
    exact R.inj j k q es fs hjk e1 e2 e3
  · have nj : i ≠ j := fun z => by
      subst z
      rw [List.getElem?_set_self hie] at e1
      cases e1
    have nk : i ≠ k := fun z => by
      subst z
      rw [List.getElem?_set_self hie] at e2
      cases e2
    rw [List.getElem?_set_ne nj] at e1 e3
    rw [List.getElem?_set_ne nk] at e2 ⊢
    exact R.injD j k q ms ls es fs hjk e1 e2 e3
  · obtain ⟨f, L, ns, x, l, u, e1, e2, k⟩ := R.drw a ha
    exact ⟨f, L, ns, x, l, u, by rw [upd_ne (ne_of_none e1 hp)]; exact e1, e2, k⟩
end
end DI
/-! Rules for a slot's own dict of which one only asks whether a key is in it. -/
namespace DI
open PySem PySem.Spec PyProof.Rows L2 EX
variable [Nm]
def keysD : List D → Option (List Key)
  | [] => some []
  | d :: ds => (keyD d).bind fun k => (keysD ds).map fun ks => k :: ks
theorem keyD_un {d : D} {k : Key} (h : keyD d = some k) : unK k = d := by
  cases d <;> cases h <;> rfl
theorem keysD_un : ∀ {ds : List D} {ks : List Key}, keysD ds = some ks → ks.map unK = ds
  | [], ks, h => by cases h; rfl
  | d :: ds, ks, h => by
    obtain ⟨k, e1, h⟩ := Option.bind_eq_some_iff.mp h
    obtain ⟨ks', e2, rfl⟩ := Option.map_eq_some_iff.mp h
    rw [List.map_cons, keyD_un e1, keysD_un e2]
section
variable {K : PySem.W.Frag} {dr : Option Addr} {G H : Hp} {p : Pl}
theorem key_rp {d : D} {k : Key} {x : V} (h : keyD d = some k) (r : Rp K dr G x d) : x = kV k := by
  cases d <;> cases h <;> cases r <;> rfl
theorem keys_rp : ∀ {ds : List D} {ks : List Key} {vs : List V}, keysD ds = some ks → RpA K dr G vs ds → vs = ks.map kV
  | [], ks, vs, h, r => by cases h; cases r; rfl
  | d :: ds, ks, vs, h, r => by
    obtain ⟨k, e1, h⟩ := Option.bind_eq_some_iff.mp h
    obtain ⟨ks', e2, rfl⟩ := Option.map_eq_some_iff.mp h
    cases r with
    | cons r t => rw [key_rp e1 r, keys_rp e2 t]; rfl
theorem lf_rp {d : D} {l : Lf} {x : V} (h : lfD d = some l) (r : Rp K dr G x d) : x = lfV l ∧ unL l = d := by
  cases d <;> cases h <;> cases r <;> exact ⟨rfl, rfl⟩
end
/-! ### texts and None -/
def tDNewL (P : Program) (w : World) (Pk : D → Prop) : TE := fun _ H Q => ∀ p, H p = none → (p == sysModules) = false → Q (.ref p) (upd H p (.ext (phiL P w Pk 0 p)))
def rLIn (P : Program) (w : World) : R2 := fun y x H Q => ∃ a Pk n l, x = .ref a ∧ H a = some (.ext (phiL P w Pk n a)) ∧ y = lfV l ∧ ∀ b, (b = true → Pk (unL l)) → Q (.bl b) H
def sLPut (P : Program) (w : World) (td ty tv : TE) : TS := fun E σ H => tv σ H fun v H1 => td σ H1 fun x H2 => ty σ H2 fun y H3 => ∃ a Pk n l, x = .ref a ∧ H3 a = some (.ext (phiL P w Pk n a)) ∧ y = lfV l ∧ Pk (unL l) ∧ n < sizeLine ∧ E.nx σ (upd H3 a (.ext (phiL P w Pk (n + 1) a)))
section
variable {X : Cx} {pos pos' : Pos} {o i e : Expr} {td ty tv : TE}
theorem pe_dnewL {Pk : D → Prop} : PE X (.Dict [] [] pos) (tDNewL X.prog X.w Pk) := ⟨fun pins s σ H Q I h =>
  have hd : (s.heap.objs.size == sysModules) = false := beq_eq_false_iff_ne.mpr (Ne.symm (Nat.ne_of_lt I.big))
  wpAny_Dict_empty ⟨.ref s.heap.objs.size, _, I.laid (a := s.heap.objs.size) (o := .ext (phiL X.prog X.w Pk 0 s.heap.objs.size)) (t' := s.toks) (fun _ _ q => Heap.get?_push_of_some _ q) (Nat.le_refl _)
    (ext_ok ⟨hd, [], Heap.DictOf.new _, Nat.zero_le _, fun q hq => nomatch hq⟩), rfl, h _ (I.hok.fresh (Nat.le_refl _)) hd⟩⟩
theorem op_lin : OpR X (compareOp .In) (rLIn X.prog X.w) := by
  intro pins s σ H x y v u Q I rx ry h
  obtain ⟨a, Pk, n, l, rfl, h1, rfl, q⟩ := h
  cases ry
  obtain ⟨⟨hd, vs, dd, hl, hp⟩, _, _⟩ := (show ObjOk X.prog X.w H s.heap a (.ext (phiL X.prog X.w Pk n a)) from I.hok a _ h1)
  refine wpAny_in_of (lf_is rx) hd dd.mapOf ?_
  refine ⟨.bl _, H, I.tok _, rfl, q _ fun hb => ?_⟩
  obtain ⟨z, hz, e⟩ := valueAt_mem hb
  rw [← e]
  exact hp z hz
theorem ps_lput (ho : PE X o td) (hi : PE X i ty) (hv : PE X e tv) (hs : swapsWith e (some (.Subscript o i pos')) pos.line X.env = pure false) :
    PS X (.Assign [.Subscript o i pos'] e pos) (sLPut X.prog X.w td ty tv) := by
  refine ⟨fun pins s σ H D I h => ?_⟩
  refine wpAny_Assign_Subscript (thn (hv.run pins s σ H _ I h) fun r s1 ⟨v, H1, I1, rv, q1⟩ => thn (ho.run pins s1 σ H1 _ I1 q1) fun u s2 ⟨x, H2, I2, rx, q2⟩ => thn (hi.run pins s2 σ H2 _ I2 q2) fun iv s3 ⟨y, H3, I3, ry, a, Pk, n, l, ex, h1, ey, hk, hn, q3⟩ => ?_) hs
  subst ex ey
  obtain rfl : u = Value.ref a := rx
  obtain ⟨⟨hd, vs, dd, hl, hp⟩, _, _⟩ := (show ObjOk X.prog X.w H3 s3.heap a (.ext (phiL X.prog X.w Pk n a)) from I3.hok a _ h1)
  refine wpAny_setItem_pairs (hsz := by omega) (lf_is ry) dd fun h' dd' hs => ⟨σ, _, ?_, q3⟩
  have he : ∃ q, h'.get? a = some q := let ⟨q, _, _, hq, _⟩ := dd'; ⟨q, hq⟩
  refine d_write I3 (by rw [h1]; exact True.intro) hs he (ext_ok ⟨hd, _, dd', Nat.le_trans stored_len (Nat.succ_le_succ hl), fun q hq => ?_⟩)
  rcases stored_mem hq with e | ⟨q', h', e⟩
  · rw [e]; exact hk
  · rw [← e]; exact hp q' h'
end
/-! ### by data -/
section
variable {X : Cx} {p : Pl} {o i e k v : Expr} {pos pos' : Pos} {w wk wv : W} {j : Nat} {t : WA} {ms : List Bool}
def wMNew (t : Bool) (F : MF) (Pk : D → Prop) (j : Nat) : WS := ⟨fun E s => j < s.env.length ∧ E.nx { s with env := s.env.set j (.mem t F Pk 0) }, fun E E' s h q => ⟨q.1, h.nx _ q.2⟩⟩
theorem f_wMNew {t : Bool} {F : MF} {Pk : D → Prop} {E s} : (wMNew t F Pk j).f E s = (j < s.env.length ∧ E.nx { s with env := s.env.set j (.mem t F Pk 0) }) := rfl
theorem sd_mnewT (j : Nat) (Pk : D → Prop) {x : Str} {dpos : Pos} (hN : X.N.Nodup) (hi : X.N[j]? = some x := by rfl) (hx : Loc X.env.scope x := by first | exact .inl rfl | exact .inr rfl) (hs : swapsWith (.Dict [] [] dpos) (some (.Name x pos')) pos.line X.env = pure false := by rfl)
    (hf : X.fn x = true ∨ X.env.scope.names.lookup x = some .local := by first | exact .inl rfl | exact .inr rfl) : PS X (.Assign [.Name x pos'] (.Dict [] [] dpos) pos) (liftS p (wMNew true MT Pk j)) :=
  PS.imp (ps_set hN hi hx pe_dnewT hs hf) fun D σ H ⟨G, s, E, R, q, c⟩ a ha => c.nx _ _ G _ (Same.refl G) (R.setMem (t := true) (by rw [← R.len]; exact q.1) ha ⟨_, rfl⟩ ⟨[], rfl, Nat.zero_le _, fun q hq => nomatch hq⟩) q.2
theorem sd_mnewL (P : Program) (ww : World) (j : Nat) (Pk : D → Prop) {x : Str} {dpos : Pos} (hN : X.N.Nodup) (hi : X.N[j]? = some x := by rfl) (hx : Loc X.env.scope x := by first | exact .inl rfl | exact .inr rfl) (hs : swapsWith (.Dict [] [] dpos) (some (.Name x pos')) pos.line X.env = pure false := by rfl)
    (hf : X.fn x = true ∨ X.env.scope.names.lookup x = some .local := by first | exact .inl rfl | exact .inr rfl) (hP : X.prog = P := by rfl) (hw : X.w = ww := by rfl) : PS X (.Assign [.Name x pos'] (.Dict [] [] dpos) pos) (liftS p (wMNew false (ML P ww) Pk j)) := by
  subst hP hw
  exact PS.imp (ps_set hN hi hx pe_dnewL hs hf) fun D σ H ⟨G, s, E, R, q, c⟩ a ha hd => c.nx _ _ G _ (Same.refl G) (R.setMem (t := false) (by rw [← R.len]; exact q.1) ha ⟨_, rfl⟩ ⟨hd, rfl⟩) q.2
/-- (a, b) in d -/
def wMInT (t : WA) (j : Nat) : W := ⟨fun s P => t.f s fun ds s1 => ds.length ≤ sizeLine ∧ get (memE true s1.env j) fun m => m.1 = MT ∧ get (keysD ds) fun _ => ∀ b, (b = true → m.2.1 (.tup ds)) → P (.bl b) s1,
  fun s P P' h q => t.mono _ _ _ (fun ds s1 q => ⟨q.1, get_mono (fun m q => ⟨q.1, get_mono (fun k q b hb => h _ _ (q b hb)) q.2⟩) q.2⟩) q⟩
theorem f_wMInT {s P} : (wMInT t j).f s P = (t.f s fun ds s1 => ds.length ≤ sizeLine ∧ get (memE true s1.env j) fun m => m.1 = MT ∧ get (keysD ds) fun _ => ∀ b, (b = true → m.2.1 (.tup ds)) → P (.bl b) s1) := rfl
theorem minT_lift (hm : ∀ m ∈ ms, m = false) (σ : L2.St) (H : Hp) (Q : VK) (h : lift p (wMInT t j) σ H Q) : tOp rDIn (tTup (liftM p ms t)) (tVar j) σ H Q := by
  obtain ⟨G, s, R, q⟩ := h
  refine ⟨G, s, R, t.mono _ _ _ (fun ds s1 k1 vs H1 G1 e1 R1 r1 => ?_) q⟩
  have ra := r1.all hm
  obtain ⟨hl, k2⟩ := k1
  obtain ⟨m, em, em1, k3⟩ := get_of k2
  obtain ⟨ks, ek, k4⟩ := get_of k3
  refine ⟨by rw [ra.length]; exact hl, fun q hq => ?_⟩
  have hv : vs = ks.map kV := keys_rp ek ra
  have R2 := R1.alloc (o := .tup vs) hq
  obtain ⟨a, ob, ev, h1, h2, h3, h4, h5, h6⟩ := R2.slot j _ (memE_of em)
  rw [em1] at h6
  obtain ⟨kvs, rfl, hl', hp⟩ := h6
  refine ⟨_, ev, a, _, rfl, DGet.t h1 (b := q) (k := ks) (by rw [hv]; exact upd_same), k4 _ (fun hb => ?_) _ _ _ (e1.trans (Same.upd (R1.sub.none hq))) R2 (.bl _)⟩
  obtain ⟨z, hz, e⟩ := valV_mem hb
  have := hp z hz
  rw [e, keysD_un ek] at this
  exact this
theorem td_minT {m : Nat} (hr : Room m X.A) (j : Nat) {es : List Expr} {x1} {tpos : Pos} (ha : PA X es (liftM p ms t)) (hb : PE X o (tVar j)) (hm : ∀ m ∈ ms, m = false := by decide) (hk : behindInMarks .In o = false := by first | exact nomark _ | with_unfolding_all rfl) :
    PT X (.Compare (.Tuple es x1 tpos) [.In] [o] pos) (liftT p (wT (wMInT t j))) :=
  PT.imp (pt_cmpR (op_din (by have := hr.un; omega)) (pe_tup ha) hb hk) (test_lift (minT_lift hm))
/-- x in d -/
def wMInL (P : Program) (ww : World) (wk : W) (j : Nat) : W := ⟨fun s Q => wk.f s fun d s1 => get (memE false s1.env j) fun m => m.1 = ML P ww ∧ get (lfD d) fun _ => ∀ b, (b = true → m.2.1 d) → Q (.bl b) s1,
  fun s P P' h q => wk.mono _ _ _ (fun ds s1 q => get_mono (fun m q => ⟨q.1, get_mono (fun k q b hb => h _ _ (q b hb)) q.2⟩) q) q⟩
theorem f_wMInL {P : Program} {ww : World} {s Q} : (wMInL P ww wk j).f s Q = (wk.f s fun d s1 => get (memE false s1.env j) fun m => m.1 = ML P ww ∧ get (lfD d) fun _ => ∀ b, (b = true → m.2.1 d) → Q (.bl b) s1) := rfl
theorem minL_lift {P : Program} {ww : World} (σ : L2.St) (H : Hp) (Q : VK) (h : lift p (wMInL P ww wk j) σ H Q) : tOp (rLIn P ww) (lift p wk) (tVar j) σ H Q := by
  obtain ⟨G, s, R, q⟩ := h
  refine ⟨G, s, R, wk.mono _ _ _ (fun d s1 k1 x H1 G1 e1 R1 r1 => ?_) q⟩
  obtain ⟨m, em, em1, k3⟩ := get_of k1
  obtain ⟨l, el, k4⟩ := get_of k3
  obtain ⟨a, ob, ev, h1, h2, h3, h4, h5, h6⟩ := R1.slot j _ (memE_of em)
  rw [em1] at h6
  obtain ⟨_, rfl⟩ := h6
  obtain ⟨ex, ed⟩ := lf_rp el r1
  exact ⟨_, ev, a, m.2.1, m.2.2, l, rfl, h1, ex, fun b hb => k4 b (fun z => by rw [← ed]; exact hb z) _ _ _ e1 R1 (.bl b)⟩
theorem td_minL (P : Program) (ww : World) (j : Nat) (ha : PE X k (lift p wk)) (hb : PE X o (tVar j)) (hk : behindInMarks .In o = false := by first | exact nomark _ | with_unfolding_all rfl) (hP : X.prog = P := by rfl) (hw : X.w = ww := by rfl) :
    PT X (.Compare k [.In] [o] pos) (liftT p (wT (wMInL P ww wk j))) := by
  subst hP hw
  exact PT.imp (pt_cmpR op_lin ha hb hk) (test_lift minL_lift)
/-- d[x] = v -/
def wMPutL (P : Program) (ww : World) (j : Nat) (wk wv : W) : WS := ⟨fun E s => wv.f s fun _ s1 => get (memE false s1.env j) fun _ => wk.f s1 fun d s2 => get (memE false s2.env j) fun m => m.1 = ML P ww ∧ get (lfD d) fun _ => m.2.1 d ∧ m.2.2 < sizeLine ∧ lone false j s2.env = true ∧ E.nx { s2 with env := s2.env.set j (.mem false m.1 m.2.1 (m.2.2 + 1)) },
  fun E E' s h q => wv.mono _ _ _ (fun _ s1 q => get_mono (fun _ q => wk.mono _ _ _ (fun d s2 q => get_mono (fun m q => ⟨q.1, get_mono (fun l q => ⟨q.1, q.2.1, q.2.2.1, h.nx _ q.2.2.2⟩) q.2⟩) q) q) q) q⟩
theorem f_wMPutL {P : Program} {ww : World} {E s} : (wMPutL P ww j wk wv).f E s = (wv.f s fun _ s1 => get (memE false s1.env j) fun _ => wk.f s1 fun d s2 => get (memE false s2.env j) fun m => m.1 = ML P ww ∧ get (lfD d) fun _ => m.2.1 d ∧ m.2.2 < sizeLine ∧ lone false j s2.env = true ∧ E.nx { s2 with env := s2.env.set j (.mem false m.1 m.2.1 (m.2.2 + 1)) }) := rfl
theorem sd_mputL (P : Program) (ww : World) (j : Nat) (ho : PE X o (tVar j)) (hi : PE X i (lift p wk)) (he : PE X e (lift p wv)) (hs : swapsWith e (some (.Subscript o i pos')) pos.line X.env = pure false := by rfl) (hP : X.prog = P := by rfl) (hw : X.w = ww := by rfl) :
    PS X (.Assign [.Subscript o i pos'] e pos) (liftS p (wMPutL P ww j wk wv)) := by
  subst hP hw
  exact PS.imp (ps_lput ho hi he hs) fun D σ H ⟨G, s, E, R, q, c⟩ => ⟨G, s, R, wv.mono _ _ _ (fun d s1 k1 v H1 G1 e1 R1 r1 => by
    obtain ⟨m0, e0, k2⟩ := get_of k1
    obtain ⟨a, ob0, ev, h1, _⟩ := R1.slot j _ (memE_of e0)
    refine ⟨_, ev, G1, s1, R1, wk.mono _ _ _ (fun kk s2 k3 y H2 G2 e2 R2 r2 => ?_) k2⟩
    obtain ⟨m, em, em1, k4⟩ := get_of k3
    obtain ⟨l, el, hk, hn, hl, k5⟩ := get_of k4
    obtain ⟨a', ob, ev', g1, g2, g3, g4, g5, g6⟩ := R2.slot j _ (memE_of em)
    rw [ev] at ev'
    cases ev'
    have sf : Soft H2 a := soft_L (P := X.prog) (w := X.w) (Pk := m.2.1) (n := m.2.2) (by rw [em1] at g6; exact g6) g1
    have g7 := g6
    rw [em1] at g7
    obtain ⟨hd, rfl⟩ := g7
    obtain ⟨ex, ed⟩ := lf_rp el r2
    exact ⟨a, m.2.1, m.2.2, l, rfl, g1, ex, by rw [ed]; exact hk, hn, c.nx σ _ G2 _ (e1.trans e2) (R2.writeM (memE_of em) ev sf hl ⟨_, rfl⟩ (by rw [em1]; exact ⟨hd, rfl⟩)) k5⟩) q⟩
/-- d[(a, b)] = v -/
def wMPutT (j : Nat) (t : WA) (wv : W) : WS := ⟨fun E s => wv.f s fun _ s1 => get (memE true s1.env j) fun _ => t.f s1 fun ds s2 => ds.length ≤ sizeLine ∧ get (memE true s2.env j) fun m => m.1 = MT ∧ get (keysD ds) fun _ => m.2.1 (.tup ds) ∧ m.2.2 < sizeLine ∧ lone true j s2.env = true ∧ E.nx { s2 with env := s2.env.set j (.mem true m.1 m.2.1 (m.2.2 + 1)) },
  fun E E' s h q => wv.mono _ _ _ (fun _ s1 q => get_mono (fun _ q => t.mono _ _ _ (fun d s2 q => ⟨q.1, get_mono (fun m q => ⟨q.1, get_mono (fun l q => ⟨q.1, q.2.1, q.2.2.1, h.nx _ q.2.2.2⟩) q.2⟩) q.2⟩) q) q) q⟩
theorem f_wMPutT {E s} : (wMPutT j t wv).f E s = (wv.f s fun _ s1 => get (memE true s1.env j) fun _ => t.f s1 fun ds s2 => ds.length ≤ sizeLine ∧ get (memE true s2.env j) fun m => m.1 = MT ∧ get (keysD ds) fun _ => m.2.1 (.tup ds) ∧ m.2.2 < sizeLine ∧ lone true j s2.env = true ∧ E.nx { s2 with env := s2.env.set j (.mem true m.1 m.2.1 (m.2.2 + 1)) }) := rfl
theorem sd_mputT {m : Nat} (hr : Room m X.A) (j : Nat) {es : List Expr} {x1} {tpos : Pos} (ho : PE X o (tVar j)) (hi : PA X es (liftM p ms t)) (he : PE X e (lift p wv)) (hm : ∀ m ∈ ms, m = false := by decide) (hs : swapsWith e (some (.Subscript o (.Tuple es x1 tpos) pos')) pos.line X.env = pure false := by rfl) :
    PS X (.Assign [.Subscript o (.Tuple es x1 tpos) pos'] e pos) (liftS p (wMPutT j t wv)) :=
  PS.imp (ps_dput (by have := hr.un; omega) ho (pe_tup hi) he hs) fun D σ H ⟨G, s, E, R, q, c⟩ => ⟨G, s, R, wv.mono _ _ _ (fun d s1 k1 v H1 G1 e1 R1 r1 => by
    obtain ⟨m0, e0, k2⟩ := get_of k1
    obtain ⟨a, ob0, ev, h1, _⟩ := R1.slot j _ (memE_of e0)
    refine ⟨_, ev, G1, s1, R1, t.mono _ _ _ (fun ds s2 k3 vs H2 G2 e2 R2 r2 => ?_) k2⟩
    have ra := r2.all hm
    obtain ⟨hl0, k3⟩ := k3
    refine ⟨by rw [ra.length]; exact hl0, fun q hq => ?_⟩
    obtain ⟨m, em, em1, k4⟩ := get_of k3
    obtain ⟨ks, ek, hk, hn, hl, k5⟩ := get_of k4
    have hv : vs = ks.map kV := keys_rp ek ra
    have R3 := R2.alloc (o := .tup vs) hq
    obtain ⟨a', ob, ev', g1, g2, g3, g4, g5, g6⟩ := R3.slot j _ (memE_of em)
    rw [ev] at ev'
    cases ev'
    rw [em1] at g6
    have sf : Soft (L2.upd H2 q (.tup vs)) a := soft_T (Pk := m.2.1) (n := m.2.2) g6 g1
    obtain ⟨kvs, rfl, hlen, hp⟩ := g6
    refine ⟨a, _, rfl, DPut.t g1 (b := q) (k := ks) (by rw [hv]; exact upd_same) (by omega), c.nx σ _ _ _ ((e1.trans e2).trans (Same.upd (R2.sub.none hq))) (R3.writeM (memE_of em) ev sf hl ⟨_, rfl⟩ (by
      rw [em1]
      refine ⟨_, rfl, Nat.le_trans (length_putK _ _ _) (Nat.succ_le_succ hlen), fun z hz => ?_⟩
      rcases putK_mem hz with e | ⟨z', hz', e⟩
      · rw [e, keysD_un ek]; exact hk
      · rw [← e]; exact hp z' hz')) k5⟩) q⟩
end
end DI
/-! A written dict of texts, and what it holds at a key or else. -/
namespace DI
open PySem PySem.Spec PyProof.Rows L2 EX
variable [Nm]
section
variable {X : Cx} {p : Pl} {o e f : Expr} {pos apos cpos : Pos} {w wk wv : W}
/-- d.get(k, x) -/
def wDGet2 (w wk wv : W) : W := ⟨fun s P => w.f s fun d1 s1 => get (dctD d1) fun m => wk.f s1 fun d2 s2 => wv.f s2 fun d3 s3 => get (keyD d2) fun k => P ((dGet m.1 m.2 k).getD d3) s3,
  fun s P P' h q => w.mono _ _ _ (fun d1 s1 q => get_mono (fun m q => wk.mono _ _ _ (fun d2 s2 q => wv.mono _ _ _ (fun d3 s3 q => get_mono (fun d q => h _ _ q) q) q) q) q) q⟩
theorem f_wDGet2 {s P} : (wDGet2 w wk wv).f s P = (w.f s fun d1 s1 => get (dctD d1) fun m => wk.f s1 fun d2 s2 => wv.f s2 fun d3 s3 => get (keyD d2) fun k => P ((dGet m.1 m.2 k).getD d3) s3) := rfl
end
end DI
namespace DI
open PySem PySem.Spec PyProof.Rows L2 EX
variable [Nm]
/-! ### a def that borrows lists -/
structure DnM (P : Program) (w : World) (K : PySem.W.Frag) (mg : Str → Option Value) (base : Heap) (k : Nat) (x : Str) (ps : List Str) (ms : List Bool) (F : FT) : Prop where
  ex : ∃ (f : Addr) (fd : FuncData), mg x = some (.ref f) ∧ PySem.W.keepIn K (.ref f) = true ∧ Binds K fd ps [] ∧ ∀ dr, FnG P w K mg base k f fd ps (SpD K dr ms F)
theorem dnm_mk {P : Program} {w : World} {K : PySem.W.Frag} {mg : Str → Option Value} {base : Heap} {k : Nat} {x : Str} {st : Stmt} {f : Addr} {fd : FuncData} {ps : List Str} {ms : List Bool} {F : FT} (U : Fun K x x st f fd) (hm : mg x = some (.ref f)) (hb : Binds K fd ps [])
    (G : ∀ dr, FnG P w K mg base k f fd ps (SpD K dr ms F)) : DnM P w K mg base k x ps ms F := ⟨f, fd, hm, U.kp, hb, G⟩
theorem pd_clM {X : Cx} {p : Pl} {e : Expr} {es : List Expr} {t : WA} {pos pf : Pos} {x : Str} {ps : List Str} {ms : List Bool} {F : FT} {k : Nat} (D : DnM X.prog X.w X.K X.mg X.base k x ps ms F) {j : Nat} (hr : Room j X.A) (hj : k ≤ j) (hga : X.A.guards = some []) (ha : PA X (e :: es) (liftM p ms t)) (hK : p.K = X.K := by rfl) (hg : Gl X x := by rfl)
    (hdb : (x == ("__debug__" : Str)) = false := by decide) (he : starEach (e :: es) X.env = (false, eval e X.env) :: starEach es X.env := by rfl) (hpl : (backTo pos (starEach es X.env)).any (·.1) = false := by rfl) :
    PE X (.Call (.Name x pf) (e :: es) [] pos) (lift p (wCall F t)) := by
  obtain ⟨f, fd, h1, h2, h3, h5⟩ := D.ex
  exact pd_callG (h5 p.dr) (hr.mono hj) hga h1 h2 h3 ha hK rfl hg hdb he hpl
end DI
namespace DI
open PySem PySem.Spec PyProof.Rows L2 EX
variable [Nm]
/-! ### x, y = [], c -/
def wPar2a (i j : Nat) (d : D) : WS := ⟨fun E s => i < s.env.length ∧ j < s.env.length ∧ E.nx { s with env := (s.env.set i (.own [])).set j (.val d) },
  fun E E' s h q => ⟨q.1, q.2.1, h.nx _ q.2.2⟩⟩
theorem f_wPar2a {E s} {i j : Nat} {d : D} : (wPar2a i j d).f E s = (i < s.env.length ∧ j < s.env.length ∧ E.nx { s with env := (s.env.set i (.own [])).set j (.val d) }) := rfl
section
variable {X : Cx} {p : Pl} {pos : Pos}
end
end DI
namespace DI
theorem c_truB (b : Bool) : cTru (.bl b) = True := by simp only [cTru]
theorem e_truB (b : Bool) : truD (.bl b) = some b := by simp only [truD]
end DI
/-! The script as a list that the law only reads. -/
namespace DI
open PySem PySem.Spec PyProof.Rows L2 EX
variable [Nm]
theorem ints_rpA {K : PySem.W.Frag} {dr : Option Addr} {G : Hp} : ∀ ns : List Int, RpA K dr G (ns.map V.int) (ns.map D.int)
  | [] => .nil
  | n :: ns => .cons (.int n) (ints_rpA ns)
theorem Rs.bor {K : PySem.W.Frag} {dr : Option Addr} {H0 G0 : Hp} {σ : L2.St} {H G : Hp} {s : S} {i : Nat} {a : Addr} {xs : List V} {ds : List D} (R : Rs K dr H0 G0 σ H G s) (hi : i < σ.length) (e : σ[i]? = some (some (.ref a))) (h : (Rd H a (.lst xs) ∧ H0 a ≠ none) ∨ KLs K a xs) (r : RpA K dr G xs ds) :
    Rs K dr H0 G0 σ H G { s with env := s.env.set i (.bor ds) } := by
  refine ⟨R.sub, R.base, R.new, by simp [R.len], fun j x hx => ?_, fun j k p ds es hjk e1 e2 e3 => ?_, fun j k p ks ls ds es hjk e1 e2 e3 => ?_, R.drw⟩
  · by_cases h' : i = j
    · subst h'
      rw [List.getElem?_set_self (by rw [R.len]; exact hi)] at hx
      cases hx
      exact ⟨a, xs, e, h, r⟩
    · rw [List.getElem?_set_ne h'] at hx
      exact R.slot j x hx
  · have nj : i ≠ j := fun z => by
      subst z
      rw [List.getElem?_set_self (by rw [R.len]; exact hi)] at e1
      cases e1
    have nk : i ≠ k := fun z => by
      subst z
      rw [List.getElem?_set_self (by rw [R.len]; exact hi)] at e2
      cases e2
    rw [List.getElem?_set_ne nj] at e1
    rw [List.getElem?_set_ne nk] at e2
    exact R.inj j k p ds es hjk e1 e2 e3
  · have nj : i ≠ j := fun z => by
      subst z
      rw [List.getElem?_set_self (by rw [R.len]; exact hi)] at e1
      cases e1
    have nk : i ≠ k := fun z => by
      subst z
      rw [List.getElem?_set_self (by rw [R.len]; exact hi)] at e2
      cases e2
    rw [List.getElem?_set_ne nj] at e1
    rw [List.getElem?_set_ne nk] at e2
    exact R.injD j k p ks ls ds es hjk e1 e2 e3
/-- the script's slot is read, too -/
theorem rs_script {K : PySem.W.Frag} {H H' G1 : Hp} {p a : Addr} {ns : List Int} {σ : L2.St} {m : Nat} (hS : SqL K H a (ns.map V.int)) (hsame : ∀ b o, H b = some o → H' b = some o) (hσ : σ.length = m + 2) (h0 : σ[0]? = some (some (.ref a)))
    (R : (⟨K, some p, H', G1⟩ : Pl).Rs σ H' G1 ⟨.emp :: .val .drw :: List.replicate m .emp, 0⟩) : (⟨K, some p, H', G1⟩ : Pl).Rs σ H' G1 ⟨.bor (ns.map .int) :: .val .drw :: List.replicate m .emp, 0⟩ :=
  Rs.bor (i := 0) R (by rw [hσ]; omega) h0 (hS.elim (fun h => by
    have h' : Rd H' a (.lst (ns.map V.int)) := h.elim (fun z => .inl (hsame _ _ z)) (fun ⟨ob, z⟩ => .inr ⟨ob, hsame _ _ z⟩)
    exact .inl ⟨h', fun z => rd_ne h' z rfl⟩) .inr) (ints_rpA ns)
end DI
/-! A tuple told once or not at all. -/
namespace DI
open PySem PySem.Spec PyProof.Rows L2 EX
variable [Nm]
theorem mul_none (l : Addr) (es : Array Value) (n : Nat) (dd : Option Addr) (sl : Array (Option Value)) (x : Int) (u : Tok) (c0 : (decide (x < -(2 ^ 63)) || decide (x ≥ 2 ^ 63)) = false) (c1 : (es.isEmpty || x == 1) = false) (c2 : (decide (x ≤ 0) || es.isEmpty) = true) :
    Meets (Builtin.«tuple.__mul__» ⟨[.ref l, .int x u], []⟩) (fun _ R z => z.heap.get? l = some { cls := .type "tuple", dict := dd, data := .seq es n, slots := sl } ∧
      R (.ok (.ret (Value.ref z.heap.objs.size))) { z with heap := z.heap.push { cls := .type "tuple", data := .seq #[] }, toks := z.toks }) :=
  .of_wp fun prog w A R z q => by
    obtain ⟨h1, h2, h3, h4, h5⟩ := z
    obtain ⟨there, q⟩ := q
    have f1 := AutoSeq1.idx_int
    wp_walk using wpAny_loadPart' there
    repeat (first
      | (refine wpAny_ite_false (decide_eq_false (by rw [c0]; decide)) ?_; wp_walk using wpAny_loadPart' there)
      | (refine wpAny_ite_false (decide_eq_false (by rw [c1]; decide)) ?_; wp_walk using wpAny_loadPart' there)
      | (refine wpAny_ite_true (decide_eq_true c2) ?_; wp_walk using wpAny_loadPart' there))
    exact ⟨_, rfl, q⟩
theorem mul_one (l : Addr) (es : Array Value) (n : Nat) (dd : Option Addr) (sl : Array (Option Value)) (x : Int) (u : Tok) (c0 : (decide (x < -(2 ^ 63)) || decide (x ≥ 2 ^ 63)) = false) (c1 : (es.isEmpty || x == 1) = true) :
    Meets (Builtin.«tuple.__mul__» ⟨[.ref l, .int x u], []⟩) (fun _ R z => z.heap.get? l = some { cls := .type "tuple", dict := dd, data := .seq es n, slots := sl } ∧
      R (.ok (.ret (Value.ref l))) z) :=
  .of_wp fun prog w A R z q => by
    obtain ⟨h1, h2, h3, h4, h5⟩ := z
    obtain ⟨there, q⟩ := q
    have f1 := AutoSeq1.idx_int
    wp_walk using wpAny_loadPart' there
    repeat (first
      | (refine wpAny_ite_false (decide_eq_false (by rw [c0]; decide)) ?_; wp_walk using wpAny_loadPart' there)
      | (refine wpAny_ite_true (by rw [c1]) ?_; wp_walk using wpAny_loadPart' there)
      | (refine wpAny_ite_true (decide_eq_true c1) ?_; wp_walk using wpAny_loadPart' there))
    exact ⟨_, rfl, q⟩
/-- a tuple told once is the same; told no time it is a new one -/
def rTmsFew (K : PySem.W.Frag) : R2 := fun x y H Q => ∃ l k xs, x = .ref l ∧ y = .int k ∧ SqT K H l xs ∧ xs ≠ [] ∧ -(2 ^ 63) ≤ k ∧ ((k = 1 ∧ Q (.ref l) H) ∨ (k ≤ 0 ∧ ∀ q, H q = none → Q (.ref q) (upd H q (.tup []))))
theorem op_tmsFew {X : Cx} : OpR X (binaryOp .Mult) (rTmsFew X.K) := by
  intro pins z σ H x y u1 u2 Q I rx ry h
  obtain ⟨l, k, xs, rfl, rfl, told, some_, low, go⟩ := h
  cases rx
  obtain ⟨tk, rfl⟩ := ry
  obtain ⟨its, rr, ⟨⟨cl, di, da, sl⟩, there, ecl, m, eda⟩, _⟩ := I.tuple told
  simp only at ecl eda
  subst ecl eda
  have full : its.toArray.isEmpty = false := by
    rcases its with _ | ⟨i0, its⟩
    · exact absurd (List.eq_nil_of_length_eq_zero (by rw [rr.length]; rfl)) some_
    · rfl
  refine wpAny_binaryOp_repeat_ref (T := "tuple") (U := "int") (by decide) ⟨_, there, rfl⟩ (fun y => typeIs_int y k tk) L2.noFill_tuple_mul F.fills_int_mul F.slot_int_rmul L2.repeat_tuple F.slot_int_index.lookup
    (call_meets F.slot_int_rmul (typeIs_int z k tk) F.entry_int_rmul (F.args_int_rmul_2 _ _) (L2.int_rmul_tuple k tk l its.toArray m di sl) ?_)
  rcases go with ⟨rfl, go⟩ | ⟨hk, go⟩
  · refine ⟨there, rfl, ⟨_, there, rfl⟩, call_meets F.slot_tuple_mul ⟨_, there, rfl⟩ F.entry_tuple_mul (F.args_tuple_mul_2 _ _) (mul_one l its.toArray m di sl 1 tk (by decide) (by rw [full]; decide)) ⟨there, ?_⟩⟩
    exact ⟨.ref l, H, I, rfl, go⟩
  · refine ⟨there, rfl, ⟨_, there, rfl⟩, call_meets F.slot_tuple_mul ⟨_, there, rfl⟩ F.entry_tuple_mul (F.args_tuple_mul_2 _ _) (mul_none l its.toArray m di sl k tk ?_ ?_ ?_) ⟨there, ?_⟩⟩
    · rw [decide_eq_false (by omega), decide_eq_false (by omega)]
      rfl
    · rw [full, Bool.false_or]
      exact beq_eq_false_iff_ne.mpr (by omega)
    · rw [decide_eq_true (by omega), Bool.true_or]
    · exact ⟨.ref z.heap.objs.size, _, I.laid (t' := z.toks) (o := .tup []) (fun b ob q => Heap.get?_push_of_some _ q) (Nat.le_refl _) ⟨Nat.zero_le _, [], .nil, IsTup.new _ _⟩, rfl, go _ (I.hok.fresh (Nat.le_refl _))⟩
def cRepA : D → D → Prop
  | .tup ds, .int k => ds ≠ [] ∧ -(2 ^ 63) ≤ k ∧ ds.length * k.toNat ≤ 16000000
  | _, _ => False
theorem e_repT {ds : List D} {k : Int} : gRepT (.tup ds) (.int k) = some (.tup (List.replicate k.toNat ds).flatten) := rfl
theorem c_repA {ds : List D} {k : Int} : cRepA (.tup ds) (.int k) = (ds ≠ [] ∧ -(2 ^ 63) ≤ k ∧ ds.length * k.toNat ≤ 16000000) := rfl
section
variable {X : Cx} {p : Pl} {a b : Expr} {pos : Pos} {wa wb : W}
theorem pd_repA (ha : PE X a (lift p wa)) (hb : PE X b (lift p wb)) (hK : p.K = X.K := by rfl) : PE X (.BinOp a .Mult b pos) (lift p (wBin cRepA gRepT wa wb)) := PE.imp (pe_op (op_tms.or op_tmsFew) ha hb) (op_lift fun G H x y d1 d2 d Q hs r1 r2 hc hg k1 k2 => by
  cases d1 <;> cases d2 <;> simp only [gRepT] at hg <;> cases hg
  rename_i ds kk
  obtain ⟨h1, h2, h3⟩ := hc
  have r0 : p.Rp G x (.tup ds) := r1
  obtain ⟨q, xs, rfl, t1, hq, ra⟩ := rb_tup hs r1
  cases rb_int r2
  have hl := ra.length
  have hne : xs ≠ [] := fun z => h1 (by rw [z] at hl; exact List.eq_nil_of_length_eq_zero hl.symm)
  by_cases two : 2 ≤ kk
  · refine .inl ⟨q, _, xs, rfl, rfl, hK ▸ hq, hne, two, by rw [hl]; exact h3, fun z hz => ?_⟩
    exact k2 z _ hz (.tup (.inl (.inl upd_same)) ((rep_rp ra _).mono (Same.upd (hs.none hz))))
  · refine .inr ⟨q, _, xs, rfl, rfl, hK ▸ hq, hne, h2, ?_⟩
    by_cases one : kk = 1
    · subst one
      refine .inl ⟨rfl, k1 _ ?_⟩
      have e : (List.replicate (1 : Int).toNat ds).flatten = ds := by simp
      rw [e]
      exact r0
    · refine .inr ⟨by omega, fun z hz => ?_⟩
      have e : (List.replicate kk.toNat ds).flatten = [] := by rw [show kk.toNat = 0 by omega]; rfl
      rw [e] at k2
      exact k2 z _ hz (.tup (.inl (.inl upd_same)) .nil))
end
end DI
/-! The check of a row of octets, and the program's going by pairs. -/
namespace AR
open L2
variable [DI.Nm]
def oct (n : Int) : Prop := 0 ≤ n ∧ n ≤ 255
def stepC (c o : Int) : Int := (c * 257 + o + 1) % 4294967291
def chk (c : Int) (ns : List Int) : Int := ns.foldl stepC c
end AR
/-! What the defs of octets say, by data. -/
namespace AR
open PySem PySem.Spec PyProof.Rows L2 DI
variable [DI.Nm]
abbrev oc (ns : List Int) : List D := ns.map D.int
def isOct : D → Bool
  | .int i => decide (0 ≤ i) && decide (i ≤ 255)
  | _ => false
/-- the index of the first one that is no octet -/
def oddAt : Nat → List D → D
  | _, [] => .non
  | k, d :: ds => if isOct d then oddAt (k + 1) ds else .int (k : Int)
/-- isinstance can be asked of it -/
def tyOk (d : D) : Prop := ∃ t, tyD d = some t
abbrev F__law_next : FT := fNext
abbrev F__law_mixed : FT := fMix
end AR
/-! Checks of two rows. -/
namespace AR
open PySem PySem.Spec PyProof.Rows L2 DI
variable [DI.Nm]
def pw : Nat → Int
  | 0 => 1
  | n + 1 => pw n * 257 % 4294967291
end AR
/-! Numbers, names and entries: what the defs say, over lists of ints. -/
namespace AR
open PySem PySem.Spec PyProof.Rows L2 DI
variable [DI.Nm]
theorem blsOf_map {α : Type} (f : α → Bool) : ∀ l : List α, blsOf (l.map fun x => D.bl (f x)) = some (l.map f)
  | [] => rfl
  | a :: l => by
    show (blsOf (l.map fun x => D.bl (f x))).map (f a :: ·) = _
    rw [blsOf_map f l]
    rfl
theorem strsOf_map {α : Type} (f : α → Str) : ∀ l : List α, strsOf (l.map fun x => D.str (f x)) = some (l.map f)
  | [] => rfl
  | a :: l => by
    show (strsOf (l.map fun x => D.str (f x))).map (f a :: ·) = _
    rw [strsOf_map f l]
    rfl
theorem slen (z : Str) : z.length = z.cps.toList.length := by show z.cps.size = _; simp
theorem chrs_eq (z : Str) : chrs z = z.cps.toList.map fun c => .str ⟨#[c]⟩ := rfl
theorem all_map' {α : Type} (f : α → Bool) (l : List α) : (l.map f).all (fun b => b) = l.all f := by
  rw [List.all_map]
  rfl
def numb (os : List Int) : Int := os.foldl (fun a o => a * 256 + o) 0
def numO : Nat → Int → List Int
  | 0, _ => []
  | k + 1, n => numO k (n / 256) ++ [n % 256]
def codes (z : Str) : List Int := z.cps.toList.map fun (c : Nat) => (c : Int)
def sgn (o : Int) : Nat := if o = 10 then 10 else if 32 ≤ o ∧ o ≤ 126 ∧ o ≠ 37 then o.toNat else 9
def sign (o : Int) : Str := ⟨#[sgn o]⟩
def txt (os : List Int) : Str := ⟨(os.map sgn).toArray⟩
def nameCh (c : Nat) : Bool := (decide (97 ≤ c) && decide (c ≤ 122)) || (decide (45 ≤ c) && decide (c ≤ 57))
def isName (z : Str) : Bool := decide (1 ≤ z.length) && decide (z.length ≤ 40) && z.cps.toList.all nameCh
def nmAt (os : List Int) (at_ : Nat) : Option Str := match os[at_]? with
  | none => none
  | some k => if ((txt (cutL os (some ((at_ : Int) + 1)) (some ((at_ : Int) + 1 + k)))).length : Int) = k ∧ isName (txt (cutL os (some ((at_ : Int) + 1)) (some ((at_ : Int) + 1 + k)))) = true then some (txt (cutL os (some ((at_ : Int) + 1)) (some ((at_ : Int) + 1 + k)))) else none
def ent (z : Str) (p : List Int) : List Int := [66, 80, 69] ++ ((z.length : Int) :: codes z) ++ numO 3 p.length ++ numO 4 (chk 7 p) ++ p
theorem codes_len (z : Str) : (codes z).length = z.length := by
  rw [slen]
  simp [codes]
theorem cutL_map {α β : Type} (f : α → β) (l : List α) (lo hi : Option Int) : cutL (l.map f) lo hi = (cutL l lo hi).map f := by
  unfold cutL
  rw [List.length_map, List.map_take, List.map_drop]
theorem cutL_mem {α : Type} {l : List α} {lo hi : Option Int} {x : α} (h : x ∈ cutL l lo hi) : x ∈ l := by
  unfold cutL at h
  exact List.mem_of_mem_drop (List.mem_of_mem_take h)
theorem cutL_len {α : Type} (l : List α) (lo hi : Option Int) : (cutL l lo hi).length ≤ l.length := by
  unfold cutL
  rw [List.length_take, List.length_drop]
  omega
/-! the defs -/
end AR
/-! Dicts by ints; sound entries. -/
namespace DI
open PySem PySem.Spec PyProof.Rows L2
variable [Nm]
/-! a dict whose keys are ints -/
def addI (ns : List Int) (n : Int) : List Int := if n ∈ ns then ns else ns ++ [n]
section
variable {ge : D → List Sl → Option (List Sl)} {vs : List Nat} {tt : WT} {tk tv : W} {env : List Sl}
end
end DI
namespace AR
open PySem PySem.Spec PyProof.Rows L2 DI
variable [DI.Nm]
/-! tuples of ints, compared -/
/-! entries -/
theorem seq_cut (os : List Int) (lo hi : Option Int) : seqD (.tup (cutL (oc os) lo hi)) = some (oc (cutL os lo hi)) := by
  rw [cutL_map]
  rfl
structure Hd where
  nm : Str
  b : Int
  e : Int
  c : Int
def headAt (os : List Int) (off : Int) : Option Hd :=
  if cutL os (some off) (some (off + 3)) = [66, 80, 69] then
    match nmAt os (off + 3).toNat with
    | none => none
    | some z =>
      if numb (cutL os (some (off + 4 + z.length)) (some (off + 4 + z.length + 3))) > 150000 ∨ off + 4 + z.length + 7 + numb (cutL os (some (off + 4 + z.length)) (some (off + 4 + z.length + 3))) > os.length then none
      else some ⟨z, off + 4 + z.length + 7, off + 4 + z.length + 7 + numb (cutL os (some (off + 4 + z.length)) (some (off + 4 + z.length + 3))), numb (cutL os (some (off + 4 + z.length + 3)) (some (off + 4 + z.length + 7)))⟩
  else none
def hdD (h : Hd) : D := .tup [.str h.nm, .int h.b, .int h.e, .int h.c]
def headD : Option Hd → D
  | none => .non
  | some h => hdD h
def isHd (os : List Int) (off : Int) : Bool := (headAt os off).isSome
def isSnd (os : List Int) (off : Int) : Bool := match headAt os off with
  | none => false
  | some h => decide (h.c = chk 7 (cutL os (some h.b) (some h.e)))
def sndD (os : List Int) (off : Int) : D := match headAt os off with
  | none => .non
  | some h => .tup [.str h.nm, .int h.b, .int h.e]
/-- the first of each -/
def dd (offs : List Int) : List Int := offs.foldl addI []
def sndL (os offs : List Int) : List Int := (dd (offs.filter (isHd os))).filter (isSnd os)
theorem sIx_nat (n k : Nat) (d : Nat) : HT.sIx n d (some (k : Int)) = min k n := by
  unfold HT.sIx
  simp
  omega
theorem cutL_nat {α : Type} (l : List α) (i j : Nat) : cutL l (some (i : Int)) (some (j : Int)) = (l.drop i).take (j - i) := by
  unfold cutL
  rw [sIx_nat, sIx_nat]
  by_cases h : i ≤ l.length
  · rw [Nat.min_eq_left h]
    by_cases h2 : j ≤ l.length
    · rw [Nat.min_eq_left h2]
    · rw [Nat.min_eq_right (by omega)]
      rw [List.take_of_length_le (by rw [List.length_drop]; omega), List.take_of_length_le (by rw [List.length_drop]; omega)]
  · have e1 : l.drop i = [] := List.drop_of_length_le (by omega)
    have e2 : l.drop (min i l.length) = [] := List.drop_of_length_le (by omega)
    rw [e1, e2]
    simp
end AR
/-! Archives: what is written. -/
namespace DI
open PySem PySem.Spec PyProof.Rows L2
/-! a dict whose keys are texts -/
end DI
namespace AR
open PySem PySem.Spec PyProof.Rows L2 DI
variable [DI.Nm]
abbrev Pr := Str × List Int
def okPr (e : Pr) : Prop := isName e.1 = true ∧ (∀ o ∈ e.2, oct o) ∧ e.2.length ≤ 150000
def entE (e : Pr) : List Int := ent e.1 e.2
def body (ps : List Pr) : List Int := (ps.map entE).flatten
def tailR (e : Pr) : List Int := numO 3 e.2.length ++ numO 4 (chk 7 e.2)
def rowO (a : Int) (e : Pr) : List Int := ((e.1.length : Int) :: codes e.1) ++ numO 3 a ++ tailR e
def rowsO : Nat → List Pr → List Int
  | _, [] => []
  | a, e :: t => rowO a e ++ rowsO (a + (entE e).length) t
def dirH (m : Nat) : List Int := [66, 80, 68] ++ numO 2 m
def dirO (ps : List Pr) : List Int := dirH ps.length ++ rowsO 0 ps
def endO (b d : List Int) : List Int := [66, 80, 90] ++ (numO 3 b.length ++ numO 3 d.length) ++ numO 4 (chk 7 d)
def arch (ps : List Pr) : List Int := body ps ++ dirO ps ++ endO (body ps) (dirO ps)
structure Good (ps : List Pr) : Prop where
  many : ps.length ≤ 100
  all : ∀ e ∈ ps, okPr e
  nd : (ps.map (·.1)).Nodup
theorem numO_len : ∀ (k : Nat) (v : Int), (numO k v).length = k
  | 0, _ => rfl
  | k + 1, v => by
    show (numO k (v / 256) ++ [v % 256]).length = _
    rw [List.length_append, numO_len k]
    rfl
theorem ent_len (e : Pr) : (entE e).length = 11 + e.1.length + e.2.length := by
  unfold entE ent
  simp only [List.length_append, List.length_cons, List.length_nil, numO_len, codes_len]
  omega
end AR
/-! Archives: what is read. -/
namespace AR
open PySem PySem.Spec PyProof.Rows L2 DI
variable [DI.Nm]
structure Rw where
  nm : Str
  off : Int
  size : Int
  c : Int
def dirPlace (os : List Int) : Option (Int × Int × Int) :=
  if (os.length : Int) - 13 < 0 then none
  else if cutL os (some ((os.length : Int) - 13)) (some ((os.length : Int) - 13 + 3)) = [66, 80, 90] then
    if numb (cutL os (some ((os.length : Int) - 13 + 3)) (some ((os.length : Int) - 13 + 6))) + numb (cutL os (some ((os.length : Int) - 13 + 6)) (some ((os.length : Int) - 13 + 9))) = (os.length : Int) - 13 then
      some (numb (cutL os (some ((os.length : Int) - 13 + 3)) (some ((os.length : Int) - 13 + 6))), (os.length : Int) - 13, numb (cutL os (some ((os.length : Int) - 13 + 9)) none))
    else none
  else none
def rowAt (os : List Int) (z : Str) (a : Nat) : Rw := ⟨z, numb (cutL (cutL os (some (a : Int)) (some ((a : Int) + 10))) none (some 3)), numb (cutL (cutL os (some (a : Int)) (some ((a : Int) + 10))) (some 3) (some 6)), numb (cutL (cutL os (some (a : Int)) (some ((a : Int) + 10))) (some 6) none)⟩
def rowsFrom (os : List Int) : Nat → Nat → Option (List Rw × Nat)
  | 0, a => some ([], a)
  | m + 1, a => match nmAt os a with
    | none => none
    | some z => if (cutL os (some ((a + (1 + z.length) : Nat) : Int)) (some (((a + (1 + z.length) : Nat) : Int) + 10))).length < 10 then none
      else match rowsFrom os m (a + (1 + z.length) + 10) with
        | none => none
        | some (rs, e) => some (rowAt os z (a + (1 + z.length)) :: rs, e)
def rwsOf (os : List Int) : Option (List Rw) :=
  if cutL os none (some 3) = [66, 80, 68] then
    if numb (cutL os (some 3) (some 5)) > 100 then none
    else match rowsFrom os (numb (cutL os (some 3) (some 5))).toNat 5 with
      | none => none
      | some (rs, e) => if e = os.length then some rs else none
  else none
def told (os L : List Int) (lim : Int) (r : Rw) : Bool :=
  if r.off ∈ L then match headAt os r.off with
    | none => false
    | some h => decide (r.nm = h.nm) && (decide (h.e ≤ lim) && (decide (r.size = h.e - h.b) && decide (r.c = numb (cutL os (some (h.b - 4)) (some h.b)))))
  else false
structure Gn where
  fnd : List (Str × Int)
  ents : List Pr
  pos : Int
def goStep (os L : List Int) (lim : Int) (s : Gn) (r : Rw) : Gn :=
  if r.off < s.pos ∨ r.nm ∈ s.ents.map (·.1) ∨ told os L lim r = false then { s with fnd := s.fnd ++ [(("bad entry" : Str), r.off)] }
  else match headAt os r.off with
    | none => s
    | some h => ⟨if r.off > s.pos then s.fnd ++ [(("gap" : Str), s.pos)] else s.fnd, s.ents ++ [(r.nm, cutL os (some h.b) (some h.e))], h.e⟩
def goAll (os L : List Int) (lim : Int) (rs : List Rw) : Gn := rs.foldl (goStep os L lim) ⟨[], [], 0⟩
def gone (os : List Int) (rs : List Rw) (lim : Int) : List (Str × Int) × List Pr :=
  let g := goAll os (sndL os (rs.map (·.off))) lim rs
  (if g.pos < lim then g.fnd ++ [(("gap" : Str), g.pos)] else g.fnd, g.ents)
def looked (os : List Int) : List (Str × Int) × List Pr := match dirPlace os with
  | none => ([(("no end" : Str), 0)], [])
  | some (a, b, c) => match rwsOf (cutL os (some a) (some b)) with
    | none => ([(("bad directory" : Str), a)], [])
    | some rs => if chk 7 (cutL os (some a) (some b)) = c then gone os rs a else ([(("bad directory" : Str), a)], [])
end AR
/-! What is written is read back. -/
namespace AR
open PySem PySem.Spec PyProof.Rows L2 DI
variable [DI.Nm]
end AR
namespace AR
open PySem PySem.Spec PyProof.Rows L2 DI
variable [DI.Nm]
end AR
namespace AR
open PySem PySem.Spec PyProof.Rows L2 DI
variable [DI.Nm]
end AR
namespace AR
open PySem PySem.Spec PyProof.Rows L2 DI
variable [DI.Nm]
end AR
/-! What law_k73's own defs say. -/
namespace AR
open PySem PySem.Spec PyProof.Rows L2 DI
variable [DI.Nm]
def zlD (e : Pr) : D := .tup [.str e.1, .lst (oc e.2)]
def F__law_right : FT := ⟨fun ds n Q => ∃ ps : List Pr, ds = [.lst (ps.map zlD)] ∧ Good ps ∧ (arch ps).length ≤ 15000000 ∧ Q (.bl true) n, fun ds n P P' h ⟨s, e, x, y, q⟩ => ⟨s, e, x, y, h _ _ q⟩⟩
end AR
/-! Tuples of pairs, compared with themselves. -/
namespace AR
open PySem PySem.Spec PyProof.Rows L2 DI
variable [DI.Nm]
theorem strOk_name {z : Str} (h : isName z = true) : PyData.strOk z = true := by
  unfold isName at h
  simp only [Bool.and_eq_true, decide_eq_true_eq] at h
  unfold PyData.strOk
  rw [← Array.all_toList]
  refine List.all_eq_true.mpr fun c mc => ?_
  have := List.all_eq_true.mp h.2 c mc
  unfold nameCh at this
  simp only [Bool.or_eq_true, Bool.and_eq_true, decide_eq_true_eq] at this
  exact decide_eq_true (by omega)
theorem Good.str {ps : List Pr} (h : Good ps) : ∀ e ∈ ps, PyData.strOk e.1 = true := fun e m => strOk_name (h.all e m).1
end AR
/-! What is drawn. -/
namespace AR
open PySem PySem.Spec PyProof.Rows L2 DI
variable [DI.Nm]
theorem next_of {b : Int} {n : Nat} {Q : D → Nat → Prop} (h : n < 2 ^ 60) (h0 : 0 < b) (h1 : b < 1073741824) (q : ∀ r : Int, 0 ≤ r → r < b → Q (.int r) (n + 2)) : F__law_next.f [.drw, .int b] n Q := ⟨b, rfl, h, h0, h1, q⟩
section
variable {ge : D → List Sl → Option (List Sl)} {vs : List Nat} {te : W} {env : List Sl}
/-- every item gives something of R, the count grows by c at most -/
theorem lcGo_draw {R : D → Prop} {c N : Nat} {P : List D → Nat → Prop} : ∀ (ds acc : List D) (n : Nat), (∀ d ∈ ds, ∀ n, n ≤ N → ∀ P : D → S → Prop, (∀ y s, R y → n ≤ s.n → s.n ≤ n + c → P y s) → get (ge d (innE vs env)) fun env' => te.f ⟨env', n⟩ P) → acc.length + ds.length ≤ sizeLine → n + c * ds.length ≤ N →
    (∀ ys m, ys.length = ds.length → (∀ y ∈ ys, R y) → n ≤ m → m ≤ n + c * ds.length → P (acc ++ ys) m) → lcGo ge vs wtYes te env ds acc n P
  | [], acc, n, _, _, _, q => by
    have z := q [] n rfl (fun _ h => nomatch h) (Nat.le_refl _) (by simp)
    rw [List.append_nil] at z
    exact z
  | d :: ds, acc, n, h, hz, hn, q => by
    simp only [List.length_cons, Nat.mul_add, Nat.mul_one] at hn hz
    have k := h d List.mem_cons_self n (by omega) (fun y s2 => acc.length < sizeLine ∧ lcGo ge vs wtYes te env ds (acc ++ [y]) s2.n P) (fun y s hy h1 h2 => by
      refine ⟨by omega, lcGo_draw ds _ _ (fun d' hd => h d' (List.mem_cons_of_mem _ hd)) (by simp only [List.length_append, List.length_cons, List.length_nil]; omega) (by omega) fun ys m e1 e2 e3 e4 => ?_⟩
      have z := q (y :: ys) m (by simp [e1]) (fun x hx => by
        cases List.mem_cons.mp hx with
        | inl e => rw [e]; exact hy
        | inr e => exact e2 x e) (by omega) (by simp only [List.length_cons, Nat.mul_add, Nat.mul_one]; omega)
      simpa using z)
    exact get_mono (fun env' q => by
      simp only [wtYes, if_true]
      exact q) k
end
/-- a hundred -/
def hun (k : Nat) : Pr := ("n" ++ toString (k : Int), [(k : Int)])
end AR
namespace AR
open PySem PySem.Spec PyProof.Rows L2 DI
variable [DI.Nm]
end AR
/-! Sound entries: what stands in front; the most octets; the choice. -/
namespace AR
open PySem PySem.Spec PyProof.Rows L2 DI
variable [DI.Nm]
def enAt (l : List Int) : Option Pr := match headAt l 0 with
  | none => none
  | some h => if h.c = chk 7 (cutL l (some h.b) (some h.e)) then some (h.nm, cutL l (some h.b) (some h.e)) else none
end AR
/-! Sound entries at an offset; what more octets behind change. -/
namespace AR
open PySem PySem.Spec PyProof.Rows L2 DI
variable [DI.Nm]
theorem ent_pos (e : Pr) : 0 < (entE e).length := by
  rw [ent_len]
  omega
/-- the most octets from here on -/
def R (l : List Int) : Nat := match l with
  | [] => 0
  | o :: t => match enAt (o :: t) with
    | none => R t
    | some e => max (R t) ((entE e).length + R ((o :: t).drop (entE e).length))
termination_by l.length
decreasing_by
  all_goals simp_wf
  all_goals try rw [List.length_drop]
  all_goals (try have := @ent_pos ⟨fun _ => ""⟩ e)
  all_goals (try simp only [List.length_cons])
  all_goals omega
end AR
/-! The most octets, and the choice: what holds of them. -/
namespace AR
open PySem PySem.Spec PyProof.Rows L2 DI
variable [DI.Nm]
end AR
/-! All sound entries, in order; the tables; what the defs of salvaging say. -/
namespace AR
open PySem PySem.Spec PyProof.Rows L2 DI
variable [DI.Nm]
def sf : Nat → List Int → List (Nat × Pr)
  | _, [] => []
  | i, o :: t => match enAt (o :: t) with
    | none => sf (i + 1) t
    | some e => (i, e) :: sf (i + 1) t
/-! marks -/
def isMk (os : List Int) (i : Nat) : Bool := decide (os.getD i 0 = 66) && (decide (os.getD (i + 1) 0 = 80) && decide (os.getD (i + 2) 0 = 69))
def marks (os : List Int) : List Int := ((List.range (os.length - 2)).filter (isMk os)).map fun (i : Nat) => (i : Int)
def sl (os : List Int) : List Int := (sf 0 os).map fun x => (x.1 : Int)
def tab (os : List Int) : List Int := (List.range (os.length + 1)).map fun i => (R (os.drop i) : Int)
theorem at32 {α : Type} {a b c : α} : atI [a, b, c] 2 = some c := rfl
theorem rep_oc (v : Int) (n : Nat) : (List.replicate n [D.int v]).flatten = oc (List.replicate n v) := by
  induction n with
  | zero => rfl
  | succ n ih => rw [List.replicate_succ, List.flatten_cons, ih, List.replicate_succ]; rfl
theorem rep_one (v : Int) (n : Nat) : gRep (.lst [.int v]) (.int (n : Int)) = some (.lst (oc (List.replicate n v))) := by
  show some (D.lst (List.replicate ((n : Int)).toNat [D.int v]).flatten) = _
  rw [rep_oc]
  rfl
end AR
/-! The laws' own reading of entries. -/
namespace AR
open PySem PySem.Spec PyProof.Rows L2 DI
variable [DI.Nm]
theorem at0c {α : Type} {a : α} {l : List α} : atI (a :: l) 0 = some a := by
  have z := DI.atI_nat (xs := a :: l) (i := 0)
  simpa using z
theorem at1c {α : Type} {a b : α} {l : List α} : atI (a :: b :: l) 1 = some b := by
  have z := DI.atI_nat (xs := a :: b :: l) (i := 1)
  simpa using z
theorem e_listT {ds : List D} : gList [.tup ds] = some (.lst ds) := rfl
theorem e_listL {ds : List D} : gList [.lst ds] = some (.lst ds) := rfl
theorem e_intB {b : Bool} : gInt [.bl b] = some (.int (if b then 1 else 0)) := rfl
/-- an octet that a name may have -/
def nmO (o : Int) : Prop := (45 ≤ o ∧ o ≤ 57) ∨ (97 ≤ o ∧ o ≤ 122)
instance (o : Int) : Decidable (nmO o) := by unfold nmO; infer_instance
theorem eqD_nil (xs : List D) : eqD (.lst xs) (.lst []) = xs.isEmpty := by
  unfold eqD
  cases xs with
  | nil => rfl
  | cons a t => simp only [toPy, PyData.eqv, toPyA, PyData.eqvAll, List.isEmpty_cons]
def F__law_value : FT := ⟨fun ds n Q => ∃ ns, ds = [.lst (oc ns)] ∧ Q (.int (numb ns)) n, fun ds n P P' h ⟨a, e, q⟩ => ⟨a, e, h _ _ q⟩⟩
end AR
/-! Tables of remains that are handed in, and choices that are handed in. -/
namespace AR
open PySem PySem.Spec PyProof.Rows L2 DI
variable [DI.Nm]
section
variable {ge : D → List Sl → Option (List Sl)} {vs : List Nat} {tt : WT} {te : W} {env : List Sl}
end
def tb (ns : List Int) (i : Nat) : Int := ns.getD i 0
/-- the octets of a choice -/
def kp (os : List Int) : Nat → List Nat → Option Nat
  | _, [] => some 0
  | edge, k :: t => if k < edge then none else match enAt (os.drop k) with
    | none => none
    | some e => (kp os (k + (entE e).length) t).map (· + (entE e).length)
def smpl : D → Bool
  | .int _ => true
  | .bl _ => true
  | .non => true
  | _ => false
/-- a thing that is handed in as a table -/
def okTh (d : D) : Prop := (∃ ds, d = .tup ds ∧ (∀ x ∈ ds, smpl x = true) ∧ ds.length ≤ 100000) ∨ (∃ ds, d = .lst ds) ∨ d = .non
def F__law_bent : FT := ⟨fun ds n Q => ∃ ns : List Int, ds = [.drw, .tup (oc ns)] ∧ 1 ≤ ns.length ∧ ns.length ≤ 90000 ∧ n < 2 ^ 57 ∧ ∀ (thing : D) (m : Nat), okTh thing → n ≤ m → m ≤ n + 100 → Q thing m, fun ds n P P' h ⟨a, e, x, y, z, q⟩ => ⟨a, e, x, y, z, fun t m u v w => h _ _ (q t m u v w)⟩⟩
end AR
/-! All choices, and the best of them. -/
namespace AR
open PySem PySem.Spec PyProof.Rows L2 DI
variable [DI.Nm]
def fitB (x : Nat × Pr) (c : List (Nat × Pr)) : Bool := match c.getLast? with
  | none => true
  | some y => decide (y.1 + (entE y.2).length ≤ x.1)
def stepAll (F : List (List (Nat × Pr))) (x : Nat × Pr) : List (List (Nat × Pr)) := F ++ (F.filter (fitB x)).map (· ++ [x])
def choices (es : List (Nat × Pr)) : List (List (Nat × Pr)) := es.foldl stepAll [[]]
/-! ahead -/
/-! the best -/
end AR
/-! Objects of any kind where octets, names or entries are asked for. -/
namespace AR
open PySem PySem.Spec PyProof.Rows L2 DI
variable [DI.Nm]
theorem cutg_start {α : Type} (a b : List α) (j : Nat) (hj : j = a.length) : cutL (a ++ b) none (some (j : Int)) = a := by
  subst hj
  unfold cutL
  rw [HT.sIx_none, HT.sIx_nat, List.length_append, Nat.min_eq_left (by omega), List.drop_zero, Nat.sub_zero, List.take_left]
theorem Good.front {ps qs : List Pr} (h : Good (ps ++ qs)) : Good ps := by
  have hm := h.many
  have hn := h.nd
  rw [List.length_append] at hm
  rw [List.map_append, List.nodup_append] at hn
  exact ⟨by omega, fun e m => h.all e (List.mem_append_left _ m), hn.1⟩
end AR
/-! Archives: the faults, row by row, in the words of entries. -/
namespace AR
open PySem PySem.Spec PyProof.Rows L2 DI
variable [DI.Nm]
/-- the entry that a row tells -/
def enT (os : List Int) (lim : Int) (r : Rw) : Option Pr := match enAt (os.drop r.off.toNat) with
  | some e => if r.nm = e.1 ∧ r.off + (entE e).length ≤ lim ∧ r.size = e.2.length ∧ r.c = chk 7 e.2 then some e else none
  | none => none
/-- the faults of rows, from a place on, behind some names -/
def gs (os : List Int) (lim : Int) : Int → List Str → List Rw → List (Str × Int)
  | pos, _, [] => if pos < lim then [(("gap" : Str), pos)] else []
  | pos, seen, r :: rs => match enT os lim r with
    | none => (("bad entry" : Str), r.off) :: gs os lim pos seen rs
    | some e => if r.off < pos ∨ r.nm ∈ seen then (("bad entry" : Str), r.off) :: gs os lim pos seen rs
      else (if r.off > pos then [(("gap" : Str), pos)] else []) ++ gs os lim (r.off + (entE e).length) (seen ++ [r.nm]) rs
/-- the entries of good rows -/
def gE (os : List Int) (lim : Int) : Int → List Str → List Rw → List Pr
  | _, _, [] => []
  | pos, seen, r :: rs => match enT os lim r with
    | none => gE os lim pos seen rs
    | some e => if r.off < pos ∨ r.nm ∈ seen then gE os lim pos seen rs else e :: gE os lim (r.off + (entE e).length) (seen ++ [r.nm]) rs
end AR
/-! An archive of which one octet is another one, is more or is left out. -/
namespace AR
open PySem PySem.Spec PyProof.Rows L2 DI
variable [DI.Nm]
theorem gs_ok {os : List Int} {lim pos : Int} {seen : List Str} {r : Rw} {rs : List Rw} {e : Pr} (q : enT os lim r = some e) (h : ¬ (r.off < pos ∨ r.nm ∈ seen)) :
    gs os lim pos seen (r :: rs) = (if r.off > pos then [(("gap" : Str), pos)] else []) ++ gs os lim (r.off + (entE e).length) (seen ++ [r.nm]) rs ∧ gE os lim pos seen (r :: rs) = e :: gE os lim (r.off + (entE e).length) (seen ++ [r.nm]) rs := by
  constructor
  · rw [gs, q]
    simp only
    rw [if_neg h]
  · rw [gE, q]
    simp only
    rw [if_neg h]
theorem gs_bad {os : List Int} {lim pos : Int} {seen : List Str} {r : Rw} {rs : List Rw} (h : enT os lim r = none ∨ r.off < pos ∨ r.nm ∈ seen) :
    gs os lim pos seen (r :: rs) = (("bad entry" : Str), r.off) :: gs os lim pos seen rs ∧ gE os lim pos seen (r :: rs) = gE os lim pos seen rs := by
  constructor
  · rw [gs]
    cases q : enT os lim r with
    | none => rfl
    | some e =>
      rw [q] at h
      simp only
      rw [if_pos (h.resolve_left (fun z => nomatch z))]
  · rw [gE]
    cases q : enT os lim r with
    | none => rfl
    | some e =>
      rw [q] at h
      simp only
      rw [if_pos (h.resolve_left (fun z => nomatch z))]
end AR
/-! The end of octets; archives of which one octet is another one. -/
namespace AR
open PySem PySem.Spec PyProof.Rows L2 DI
variable [DI.Nm]
end AR
/-! Archives whose directory or end has another octet, or with an octet more or less. -/
namespace AR
open PySem PySem.Spec PyProof.Rows L2 DI
variable [DI.Nm]
end AR
/-! What may be raised where data is asked for. -/
namespace AR
open PySem PySem.Spec PyProof.Rows L2 DI
variable [DI.Nm]
/-- no data: the first odd element, or none where it is no tuple -/
def noDat (ds : List D) (Z : Er → Prop) : Prop := (∃ xs i, ds = [.tup xs] ∧ (∀ x ∈ xs, tyOk x) ∧ oddAt 0 xs = .int i ∧ Z ("BadOctets", [("index", .int i)])) ∨ ∃ d t, ds = [d] ∧ tyD d = some t ∧ t ≠ "tuple" ∧ Z ("BadOctets", [("index", .non)])
theorem noDat.mono {ds : List D} {Z Z' : Er → Prop} (h : ∀ e, Z e → Z' e) : noDat ds Z → noDat ds Z' := Or.imp (fun ⟨xs, i, a, b, c, k⟩ => ⟨xs, i, a, b, c, h _ k⟩) fun ⟨d, t, a, b, c, k⟩ => ⟨d, t, a, b, c, h _ k⟩
/-! ### lists of faults -/
end AR
/-! Directories typed by hand. -/
namespace AR
open PySem PySem.Spec PyProof.Rows L2 DI
variable [DI.Nm]
theorem enT_eq {os : List Int} {k : Nat} {e : Pr} (h : enAt (os.drop k) = some e) (lim : Int) (nm : Str) (sz c : Int) : enT os lim ⟨nm, (k : Int), sz, c⟩ = if nm = e.1 ∧ (k : Int) + (entE e).length ≤ lim ∧ sz = e.2.length ∧ c = chk 7 e.2 then some e else none := by
  unfold enT
  rw [show ((⟨nm, (k : Int), sz, c⟩ : Rw).off).toNat = k from rfl, h]
end AR
/-! Two entries and a hole between them: what is told of rows in all orders. -/
namespace AR
open PySem PySem.Spec PyProof.Rows L2 DI
variable [DI.Nm]
theorem gs_end (os : List Int) (lim pos : Int) (seen : List Str) : gs os lim pos seen [] = if pos < lim then [(("gap" : Str), pos)] else [] := by
  rw [gs]
theorem gs_on {os : List Int} {lim pos : Int} {seen : List Str} {r : Rw} {rs : List Rw} {e : Pr} (q : enT os lim r = some e) (h : r.off = pos) (hn : r.nm ∉ seen) : gs os lim pos seen (r :: rs) = gs os lim (pos + (entE e).length) (seen ++ [r.nm]) rs := by
  rw [(gs_ok (pos := pos) (seen := seen) (rs := rs) q (fun z => z.elim (fun z => absurd z (by omega)) hn)).1, if_neg (by omega), h]
  rfl
theorem gs_gap {os : List Int} {lim pos : Int} {seen : List Str} {r : Rw} {rs : List Rw} {e : Pr} (q : enT os lim r = some e) (h : pos < r.off) (hn : r.nm ∉ seen) : gs os lim pos seen (r :: rs) = (("gap" : Str), pos) :: gs os lim (r.off + (entE e).length) (seen ++ [r.nm]) rs := by
  rw [(gs_ok (pos := pos) (seen := seen) (rs := rs) q (fun z => z.elim (fun z => absurd z (by omega)) hn)).1, if_pos h]
  rfl
/-- a row with three numbers -/
def rwR (e : Pr) (k : Nat) : Rw := ⟨e.1, (k : Int), (e.2.length : Int), chk 7 e.2⟩
theorem enT_row {os : List Int} {k : Nat} {e : Pr} {lim : Int} (h : enAt (os.drop k) = some e) (hl : (k : Int) + (entE e).length ≤ lim) : enT os lim (rwR e k) = some e := by
  unfold rwR
  rw [enT_eq h, if_pos ⟨rfl, hl, rfl, rfl⟩]
structure Two (os : List Int) (fl far last : Nat) (ea eb : Pr) : Prop where
  A : enAt (os.drop 0) = some ea
  lA : (entE ea).length = fl
  le : fl ≤ far
  B : enAt (os.drop far) = some eb
  lB : far + (entE eb).length = last
theorem entE_pos (e : Pr) : 0 < (entE e).length := by
  rw [ent_len]
  omega
namespace Two
variable {os : List Int} {fl far last : Nat} {ea eb : Pr} (h : Two os fl far last ea eb)
include h
theorem fl0 : 0 < fl := h.lA ▸ entE_pos ea
theorem tA : enT os (last : Int) (rwR ea 0) = some ea := enT_row h.A (by have := h.lA; have := h.le; have := h.lB; omega)
theorem tB : enT os (last : Int) (rwR eb far) = some eb := enT_row h.B (by have := h.lB; omega)
theorem lt : far < last := by have := entE_pos eb; have := h.lB; omega
theorem on_a (rs : List Rw) : gs os (last : Int) 0 [] (rwR ea 0 :: rs) = gs os (last : Int) (fl : Int) [ea.1] rs := by
  rw [gs_on h.tA (show (rwR ea 0).off = 0 from rfl) List.not_mem_nil, h.lA]
  show gs os _ (0 + (fl : Int)) ([] ++ [ea.1]) rs = _
  rw [Int.zero_add]
  rfl
def hl (fl far : Nat) : List (Str × Int) := if fl < far then [(("gap" : Str), (fl : Int))] else []
theorem on_b (ne : ea.1 ≠ eb.1) (rs : List Rw) : gs os (last : Int) (fl : Int) [ea.1] (rwR eb far :: rs) = hl fl far ++ gs os (last : Int) (last : Int) [ea.1, eb.1] rs := by
  have hn : eb.1 ∉ [ea.1] := fun m => ne (List.mem_singleton.mp m).symm
  have hB := h.lB
  have hle := h.le
  unfold hl
  by_cases c : fl < far
  · rw [if_pos c, gs_gap h.tB (show (fl : Int) < (far : Int) from by omega) hn]
    show _ :: gs os _ ((far : Int) + _) ([ea.1] ++ [eb.1]) rs = _
    rw [show (far : Int) + ((entE eb).length : Int) = (last : Int) from by omega]
    rfl
  · rw [if_neg c, gs_on h.tB (show (far : Int) = (fl : Int) from by omega) hn, show (fl : Int) + ((entE eb).length : Int) = (last : Int) from by omega]
    rfl
theorem e0 (seen : List Str) : gs os (last : Int) (last : Int) seen [] = [] := by rw [gs_end, if_neg (by omega)]
theorem eF (seen : List Str) : gs os (last : Int) (fl : Int) seen [] = [(("gap" : Str), (fl : Int))] := by rw [gs_end, if_pos (by have := h.lt; have := h.le; omega)]
theorem c1 (ne : ea.1 ≠ eb.1) : gs os (last : Int) 0 [] [rwR ea 0, rwR eb far] = hl fl far := by rw [h.on_a, h.on_b ne, h.e0, List.append_nil]
theorem c2 : gs os (last : Int) 0 [] [rwR ea 0] = [(("gap" : Str), (fl : Int))] := by rw [h.on_a, h.eF]
theorem c3 : gs os (last : Int) 0 [] [rwR eb far] = [(("gap" : Str), 0)] := by
  have := h.fl0
  have := h.le
  rw [gs_gap h.tB (show (0 : Int) < (far : Int) from by omega) List.not_mem_nil]
  show _ :: gs os _ ((far : Int) + _) ([] ++ [eb.1]) [] = _
  rw [show (far : Int) + ((entE eb).length : Int) = (last : Int) from by have := h.lB; omega, h.e0]
theorem c4 : gs os (last : Int) 0 [] [] = [(("gap" : Str), 0)] := by
  have := h.lt
  rw [gs_end, if_pos (by omega)]
theorem c5 : gs os (last : Int) 0 [] [rwR eb far, rwR ea 0] = [(("gap" : Str), 0), (("bad entry" : Str), 0)] := by
  have := h.fl0
  have := h.le
  have := h.lt
  rw [gs_gap h.tB (show (0 : Int) < (far : Int) from by omega) List.not_mem_nil]
  show _ :: gs os _ ((far : Int) + _) ([] ++ [eb.1]) [rwR ea 0] = _
  rw [show (far : Int) + ((entE eb).length : Int) = (last : Int) from by have := h.lB; omega, (gs_bad (.inr (.inl (show (0 : Int) < (last : Int) from by omega)))).1, h.e0]
  rfl
theorem c6 (ne : ea.1 ≠ eb.1) : gs os (last : Int) 0 [] [rwR ea 0, rwR ea 0, rwR eb far] = (("bad entry" : Str), 0) :: hl fl far := by
  have := h.fl0
  rw [h.on_a, (gs_bad (.inr (.inl (show (0 : Int) < (fl : Int) from by omega)))).1, h.on_b ne, h.e0, List.append_nil]
  rfl
theorem c7 (ne : ea.1 ≠ eb.1) : gs os (last : Int) 0 [] [rwR ea 0, rwR eb far, rwR eb far] = hl fl far ++ [(("bad entry" : Str), (far : Int))] := by
  have := h.lt
  rw [h.on_a, h.on_b ne, (gs_bad (.inr (.inl (show (far : Int) < (last : Int) from by omega)))).1, h.e0]
  rfl
theorem c8 {r : Rw} (hr : enT os (last : Int) r = none ∨ r.nm = ea.1) : gs os (last : Int) 0 [] [rwR ea 0, r] = [(("bad entry" : Str), r.off), (("gap" : Str), (fl : Int))] := by
  rw [h.on_a, (gs_bad (hr.imp id fun z => .inr (by rw [z]; exact List.mem_singleton_self _))).1, h.eF]
end Two
end AR
/-! Directories that are none. -/
namespace AR
open PySem PySem.Spec PyProof.Rows L2 DI
variable [DI.Nm]
end AR
/-! An entry alone has no end. -/
namespace AR
open PySem PySem.Spec PyProof.Rows L2 DI
variable [DI.Nm]
end AR
/-! What has no fault is the archive of its entries; archives that are cut; entries that stand alone. -/
namespace AR
open PySem PySem.Spec PyProof.Rows L2 DI
variable [DI.Nm]
/-! ### entries that stand apart, and no others -/
def offs (L : List (Nat × Pr)) : List Int := L.map fun x => (x.1 : Int)
/-! ### the words of faults -/
end AR
/-! What a law finds by its own going through directories. -/
namespace AR
open PySem PySem.Spec PyProof.Rows L2 DI
variable [DI.Nm]
/-! ### lists of lists of ints -/
/-! ### a list of rows is none -/
end AR
namespace K03
open PySem PySem.Spec PyProof.Rows L2 DI AR
variable [Nm]
def top (i : Nat) : Stmt := PySem.Challenge.pw_bookpack_k03_whole_beginnings_of_chapter.main.body.getD i (.Pass ⟨0, 0, 0, 0⟩)
structure Txt (K : PySem.W.Frag) (mg : Str → Option Value) : Prop where
  all : mg "all" = none
  isinstance : mg "isinstance" = none
  str : mg "str" = none
  len : mg "len" = none
  tuple : mg "tuple" = none
  enumerate : mg "enumerate" = none
  ord : mg "ord" = none
  int : mg "int" = none
  range : mg "range" = none
  min : mg "min" = none
  repr : mg "repr" = none
  list : mg "list" = none
structure Cn (K : PySem.W.Frag) (mg : Str → Option Value) : Prop where
  BOX_KINDS : Gc K mg "BOX_KINDS" (.tup [(.str "section"), (.str "quote"), (.str "list"), (.str "item")])
  LINE_KINDS : Gc K mg "LINE_KINDS" (.tup [(.str "head1"), (.str "head2"), (.str "head3"), (.str "para")])
  MOST_OPEN : Gc K mg "MOST_OPEN" (.int 12)
  MOST_TOKENS : Gc K mg "MOST_TOKENS" (.int 2000)
  _LETTERS : Gc K mg "_LETTERS" (.str "abcdefghijklmnopqrstuvwxyz")
  _LETTERS_AND_DIGITS : Gc K mg "_LETTERS_AND_DIGITS" (.str "abcdefghijklmnopqrstuvwxyz0123456789")
  _PERCENT : Gc K mg "_PERCENT" (.int 37)
abbrev SR : List (List Str) := [[], ["code"], ["slant"], ["strong"], ["code", "slant"], ["code", "strong"], ["slant", "strong"], ["code", "slant", "strong"]]
/-! ### what the defs say, on data -/
def loC (c : Nat) : Bool := decide (97 ≤ c) && decide (c ≤ 122)
def ldC (c : Nat) : Bool := loC c || (decide (48 ≤ c) && decide (c ≤ 57))
def headB (f : Nat → Bool) : List Nat → Bool
  | c :: _ => f c
  | [] => false
def idL (l : List Nat) : Bool := decide (1 ≤ l.length) && decide (l.length ≤ 16) && headB loC l && l.all ldC
def idB : D → Bool
  | .str z => idL z.cps.toList
  | _ => false
/-- a text of signs that there are, without the percent sign -/
def okZ (z : Str) : Prop := PyData.strOk z = true ∧ ¬ 37 ∈ z.cps.toList
/-- what a function of one value is asked of -/
structure OkS (d : D) : Prop where
  nd : tyD d ≠ none
  st : ∀ z, d = .str z → z.length ≤ 1000
  ok : ∀ z, d = .str z → okZ z
def fB (c : D → Prop) (g : D → Bool) : FT := ⟨fun ds n Q => ∃ d, ds = [d] ∧ c d ∧ Q (.bl (g d)) n, fun ds n P P' h ⟨d, e, k, q⟩ => ⟨d, e, k, h _ _ q⟩⟩
def F_is_id : FT := fB OkS idB
/-! ### comprehensions -/
section
variable {ge : D → List Sl → Option (List Sl)} {vs : List Nat} {te : W} {tt : WT} {env : List Sl}
theorem lcGo_map {g : D → D} {n : Nat} {P : List D → Nat → Prop} : ∀ (ds acc : List D), (∀ d ∈ ds, ∀ P : D → S → Prop, (∀ s, s.n = n → P (g d) s) → get (ge d (innE vs env)) fun env' => te.f ⟨env', n⟩ P) → acc.length + ds.length ≤ sizeLine → P (acc ++ ds.map g) n → lcGo ge vs wtYes te env ds acc n P
  | [], acc, _, _, q => by
    show P acc n
    simpa using q
  | d :: ds, acc, h, hz, q => by
    have k := h d List.mem_cons_self (fun y s2 => acc.length < sizeLine ∧ lcGo ge vs wtYes te env ds (acc ++ [y]) s2.n P) (fun s e => by
      rw [e]
      refine ⟨by simp only [List.length_cons] at hz; omega, lcGo_map ds _ (fun d' hd => h d' (List.mem_cons_of_mem _ hd)) (by simp only [List.length_append, List.length_cons, List.length_nil] at hz ⊢; omega) (by simpa using q)⟩)
    exact get_mono (fun env' q => by
      simp only [wtYes, if_true]
      exact q) k
theorem lcGo_filter {b : D → Bool} {g : D → D} {n : Nat} {P : List D → Nat → Prop} : ∀ (ds acc : List D), (∀ d ∈ ds, ∀ (Q : Bool → S → Prop), (∀ s, s.n = n → (b d = true → ∀ P : D → S → Prop, (∀ s', s'.n = n → P (g d) s') → te.f s P) → Q (b d) s) → get (ge d (innE vs env)) fun env' => tt.f ⟨env', n⟩ Q) → acc.length + ds.length ≤ sizeLine → P (acc ++ (ds.filter b).map g) n → lcGo ge vs tt te env ds acc n P
  | [], acc, _, _, q => by
    show P acc n
    simpa using q
  | d :: ds, acc, h, hz, q => by
    refine h d List.mem_cons_self _ fun s e k => ?_
    have hz' : acc.length < sizeLine := by simp only [List.length_cons] at hz; omega
    cases hb : b d with
    | true =>
      rw [if_pos rfl]
      refine k hb _ fun s' e' => ⟨hz', ?_⟩
      rw [e']
      exact lcGo_filter ds _ (fun d' hd => h d' (List.mem_cons_of_mem _ hd)) (by simp only [List.length_append, List.length_cons, List.length_nil] at hz ⊢; omega) (by simpa [List.filter_cons, hb] using q)
    | false =>
      rw [if_neg (by simp)]
      rw [e]
      exact lcGo_filter ds _ (fun d' hd => h d' (List.mem_cons_of_mem _ hd)) (by simp only [List.length_cons] at hz; omega) (by simpa [List.filter_cons, hb] using q)
/-- drawn things -/
theorem lcGo_draw {R : D → Prop} {c N : Nat} {P : List D → Nat → Prop} : ∀ (ds acc : List D) (n : Nat), (∀ d ∈ ds, ∀ n, n ≤ N → ∀ P : D → S → Prop, (∀ y s, R y → n ≤ s.n → s.n ≤ n + c → P y s) → get (ge d (innE vs env)) fun env' => te.f ⟨env', n⟩ P) → acc.length + ds.length ≤ sizeLine → n + c * ds.length ≤ N →
    (∀ ys m, ys.length = ds.length → (∀ y ∈ ys, R y) → n ≤ m → m ≤ n + c * ds.length → P (acc ++ ys) m) → lcGo ge vs wtYes te env ds acc n P
  | [], acc, n, _, _, _, q => by
    have z := q [] n rfl (fun _ h => nomatch h) (Nat.le_refl _) (by simp)
    rw [List.append_nil] at z
    exact z
  | d :: ds, acc, n, h, hz, hn, q => by
    simp only [List.length_cons, Nat.mul_add, Nat.mul_one] at hn hz
    have k := h d List.mem_cons_self n (by omega) (fun y s2 => acc.length < sizeLine ∧ lcGo ge vs wtYes te env ds (acc ++ [y]) s2.n P) (fun y s hy h1 h2 => by
      refine ⟨by omega, lcGo_draw ds _ _ (fun d' hd => h d' (List.mem_cons_of_mem _ hd)) (by simp only [List.length_append, List.length_cons, List.length_nil]; omega) (by omega) fun ys m e1 e2 e3 e4 => ?_⟩
      have z := q (y :: ys) m (by simp [e1]) (fun x hx => by
        cases List.mem_cons.mp hx with
        | inl e => rw [e]; exact hy
        | inr e => exact e2 x e) (by omega) (by simp only [List.length_cons, Nat.mul_add, Nat.mul_one]; omega)
      simpa using z)
    exact get_mono (fun env' q => by
      simp only [wtYes, if_true]
      exact q) k
end
abbrev S26 : Str := "abcdefghijklmnopqrstuvwxyz"
abbrev S36 : Str := "abcdefghijklmnopqrstuvwxyz0123456789"
theorem in26 (c : Nat) : inStr ⟨#[c]⟩ S26 = loC c := by
  unfold inStr loC
  rw [StrLaws.found_one]
  have e : S26.cps.toList = [97, 98, 99, 100, 101, 102, 103, 104, 105, 106, 107, 108, 109, 110, 111, 112, 113, 114, 115, 116, 117, 118, 119, 120, 121, 122] := by decide +kernel
  rw [e]
  simp only [List.mem_cons, List.not_mem_nil, or_false, ← Bool.decide_and]
  exact decide_eq_decide.mpr (by omega)
theorem in36 (c : Nat) : inStr ⟨#[c]⟩ S36 = ldC c := by
  unfold inStr ldC loC
  rw [StrLaws.found_one]
  have e : S36.cps.toList = [97, 98, 99, 100, 101, 102, 103, 104, 105, 106, 107, 108, 109, 110, 111, 112, 113, 114, 115, 116, 117, 118, 119, 120, 121, 122, 48, 49, 50, 51, 52, 53, 54, 55, 56, 57] := by decide +kernel
  rw [e]
  simp only [List.mem_cons, List.not_mem_nil, or_false, ← Bool.decide_and, ← Bool.decide_or]
  exact decide_eq_decide.mpr (by omega)
theorem blsOf_map {α : Type} (f : α → Bool) : ∀ l : List α, blsOf (l.map fun x => D.bl (f x)) = some (l.map f)
  | [] => rfl
  | a :: l => by
    show (blsOf (l.map fun x => D.bl (f x))).map (f a :: ·) = _
    rw [blsOf_map f l]
    rfl
theorem slen (z : Str) : z.length = z.cps.toList.length := by show z.cps.size = _; simp
theorem line1000 : (1000 : Nat) ≤ sizeLine := by decide
theorem atI0 {α : Type} (a : α) (l : List α) : atI (a :: l) 0 = some a := by
  unfold atI ixN
  simp
theorem chrs_eq (z : Str) : chrs z = z.cps.toList.map fun c => .str ⟨#[c]⟩ := rfl
theorem all_map' {α : Type} (f : α → Bool) (l : List α) : (l.map f).all (fun b => b) = l.all f := by
  rw [List.all_map]
  rfl
/-- one sign is compared -/
theorem le_one (a b : Nat) : strLt ⟨#[a]⟩ ⟨#[b]⟩ = decide (a < b) := by
  unfold strLt
  refine decide_eq_decide.mpr ?_
  rw [List.cons_lt_cons_iff]
  simp
def plC (c : Nat) : Bool := decide (32 ≤ c) && decide (c ≤ 126) && decide (c ≠ 37)
/-- one sign -/
def F__is_plain : FT := ⟨fun ds n Q => ∃ c, ds = [.str ⟨#[c]⟩] ∧ Q (.bl (plC c)) n, fun ds n P P' h ⟨d, e, q⟩ => ⟨d, e, h _ _ q⟩⟩
def boxes : List Str := ["section", "quote", "list", "item"]
def lines : List Str := ["head1", "head2", "head3", "para"]
theorem eqD_str (x y : Str) : eqD (.str x) (.str y) = decide (x = y) := by
  unfold eqD
  simp only [toPy, PyData.eqv]
  by_cases h : x = y
  · subst h
    simp
  · simp [h]
theorem inD_strs (x : Str) : ∀ ys : List Str, inD (.str x) (ys.map D.str) = decide (x ∈ ys)
  | [] => rfl
  | y :: ys => by
    have h := inD_strs x ys
    unfold inD at h ⊢
    rw [List.map_cons, List.any_cons, h, eqD_str]
    by_cases e : y = x
    · subst e
      simp
    · have e' : ¬ x = y := fun z => e z.symm
      simp [e, e']
def kindD : D → D
  | .str x => if x ∈ boxes then .str "box" else if x ∈ lines then .str "line" else .non
  | _ => .non
def F_sort_of : FT := ⟨fun ds n Q => ∃ d, ds = [d] ∧ OkS d ∧ Q (kindD d) n, fun ds n P P' h ⟨d, e, k, q⟩ => ⟨d, e, k, h _ _ q⟩⟩
def rows : List (List Str) := [[], ["code"], ["slant"], ["strong"], ["code", "slant"], ["code", "strong"], ["slant", "strong"], ["code", "slant", "strong"]]
/-- a tuple that is asked after is one of texts -/
structure OkT (d : D) : Prop where
  s : OkS d
  t : ∀ es, d = .tup es → ∃ zs : List Str, es = zs.map D.str ∧ zs.length ≤ 20 ∧ ∀ z ∈ zs, PyData.strOk z = true
def tupS (zs : List Str) : D := .tup (zs.map D.str)
def stylB : D → Bool
  | .tup es => inD (.tup es) (rows.map tupS)
  | _ => false
def F_are_styles : FT := ⟨fun ds n Q => ∃ zs : List Str, ds = [.tup (zs.map D.str)] ∧ zs.length ≤ 20 ∧ Q (.bl (stylB (.tup (zs.map D.str)))) n, fun ds n P P' h ⟨d, e, k, q⟩ => ⟨d, e, k, h _ _ q⟩⟩
def outL (l : List Nat) : Bool := decide (1 ≤ l.length) && decide (l.length ≤ 20) && l.all fun c => plC c && !decide (c ∈ ([32, 60, 62, 38] : List Nat))
def linkL (z : Str) : Bool := if Txt.startswith z "out:" then outL (cutS z (some 4) none).cps.toList else idL (Txt.partition z "#").1.cps.toList && idL (Txt.partition z "#").2.2.cps.toList
def linkB : D → Bool
  | .str z => linkL z
  | _ => false
def F_is_link : FT := fB OkS linkB
def signB : D → Bool
  | .str z => match z.cps.toList with
    | [c] => plC c
    | _ => false
  | _ => false
def nonD : D → Bool
  | .non => true
  | _ => false
def charB (c s l : D) : Bool := signB c && stylB s && (nonD l || linkB l)
def F__is_char : FT := ⟨fun ds n Q => ∃ c s l, ds = [c, s, l] ∧ OkS c ∧ OkT s ∧ OkS l ∧ Q (.bl (charB c s l)) n, fun ds n P P' h ⟨c, s, l, e, h1, h2, h3, q⟩ => ⟨c, s, l, e, h1, h2, h3, h _ _ q⟩⟩
/-- what is asked whether it is a token -/
structure OkK (d : D) : Prop where
  s : OkS d
  t : ∀ es, d = .tup es → es.length ≤ 20 ∧ ∀ e ∈ es, OkT e
def kinB (d : D) : Bool := !DI.isNon (kindD d)
def tokB : D → Bool
  | .tup (.str x :: es) => if x = "char" then (match es with | [c, s, l] => charB c s l | _ => false) else match es with
    | [y] => if x = "open" ∨ x = "close" then kinB y else (decide (x = "anchor") || decide (x = "image")) && idB y
    | _ => false
  | _ => false
def F_is_token : FT := fB OkK tokB
def F__law_next : FT := fNext
def F__law_mixed : FT := fMix
theorem ch_sp : (" " : Str) = ⟨#[32]⟩ := by decide +kernel
theorem ch_ti : ("~" : Str) = ⟨#[126]⟩ := by decide +kernel
theorem ch_a : ("a" : Str) = ⟨#[97]⟩ := by decide +kernel
theorem ch_z : ("z" : Str) = ⟨#[122]⟩ := by decide +kernel
theorem ch_0 : ("0" : Str) = ⟨#[48]⟩ := by decide +kernel
theorem ch_9 : ("9" : Str) = ⟨#[57]⟩ := by decide +kernel
theorem ch_ex : ("!" : Str) = ⟨#[33]⟩ := by decide +kernel
theorem eqD_int (x y : Int) : eqD (.int x) (.int y) = decide (x = y) := by
  unfold eqD
  simp only [toPy, PyData.eqv]
  by_cases h : x = y
  · subst h
    simp
  · simp [h]
theorem plainA_strs : ∀ zs : List Str, plainA (zs.map D.str) = true
  | [] => rfl
  | z :: zs => by
    rw [List.map_cons]
    simp only [plainA, DI.plain, plainA_strs zs, Bool.true_and]
theorem lay_strs : ∀ zs : List Str, (∀ z ∈ zs, PyData.strOk z = true) → PyData.canLayAll0 (toPyA (zs.map D.str)) = true
  | [], _ => by simp only [List.map_nil, toPyA, PyData.canLayAll0]
  | z :: zs, h => by
    rw [List.map_cons]
    simp only [toPyA, toPy, PyData.canLayAll0, PyData.canLay0, h z List.mem_cons_self, lay_strs zs (fun y hy => h y (List.mem_cons_of_mem _ hy)), Bool.true_and]
theorem depth_strs : ∀ zs : List Str, PyData.depthAll (toPyA (zs.map D.str)) = 0
  | [] => by simp only [List.map_nil, toPyA, PyData.depthAll]
  | z :: zs => by
    rw [List.map_cons]
    simp [toPyA, toPy, PyData.depthAll, PyData.depth, depth_strs zs]
theorem shp_tupS (zs : List Str) (h : ∀ z ∈ zs, PyData.strOk z = true) : shp (.tup (zs.map D.str)) := by
  refine ⟨by simp only [DI.plain, plainA_strs], ?_⟩
  unfold SeqAt.shaped
  simp only [toPy, PyData.canLay0, lay_strs zs h, PyData.depth, depth_strs]
  rfl
theorem rows_eq : [D.tup [], .tup [.str "code"], .tup [.str "slant"], .tup [.str "strong"], .tup [.str "code", .str "slant"], .tup [.str "code", .str "strong"], .tup [.str "slant", .str "strong"], .tup [.str "code", .str "slant", .str "strong"]] = rows.map tupS := rfl
theorem shp_rows : shp (.tup (rows.map tupS)) := ⟨by decide +kernel, by decide +kernel⟩
theorem shp_rowsL : shp (.lst (rows.map tupS)) := ⟨by decide +kernel, by decide +kernel⟩
theorem one_of {z : Str} (h : z.length = 1) : ∃ c, z = ⟨#[c]⟩ := by
  obtain ⟨a⟩ := z
  obtain ⟨l⟩ := a
  cases l with
  | nil => cases h
  | cons c l =>
    cases l with
    | nil => exact ⟨c, rfl⟩
    | cons d l => simp [Str.length] at h
theorem signB_of {z : Str} (h : z.length ≠ 1) : signB (.str z) = false := by
  obtain ⟨a⟩ := z
  obtain ⟨l⟩ := a
  cases l with
  | nil => rfl
  | cons c l =>
    cases l with
    | nil => exact absurd rfl h
    | cons d l => rfl
theorem signB_one (c : Nat) : signB (.str ⟨#[c]⟩) = plC c := rfl
theorem in4 (c : Nat) : inStr ⟨#[c]⟩ " <>&" = decide (c ∈ ([32, 60, 62, 38] : List Nat)) := by
  unfold inStr
  rw [StrLaws.found_one]
  have e : (" <>&" : Str).cps.toList = [32, 60, 62, 38] := by decide +kernel
  rw [e]
theorem cutS_len (z : Str) (lo hi : Option Int) : (cutS z lo hi).cps.toList.length ≤ z.length := by
  unfold cutS
  simp only [List.length_take, List.length_drop, slen]
  omega
theorem app_len (a b : Str) : (a ++ b).length = a.length + b.length := by
  show (a.cps ++ b.cps).size = _
  rw [Array.size_append]
  rfl
theorem part_len {z a b c : Str} (h : a ++ b ++ c = z) : a.length ≤ z.length ∧ c.length ≤ z.length := by
  have e := congrArg Str.length h
  rw [app_len, app_len] at e
  omega
theorem okS_str {z : Str} (h : z.length ≤ 1000) (k : okZ z) : OkS (.str z) := OkS.mk (fun z => nomatch z) (fun y e => by cases e; exact h) (fun y e => by cases e; exact k)
theorem app_ok (a b : Str) : PyData.strOk (a ++ b) = (PyData.strOk a && PyData.strOk b) := by
  show (a.cps ++ b.cps).all _ = _
  rw [Array.all_append]
  rfl
theorem app_cps (a b : Str) : (a ++ b).cps.toList = a.cps.toList ++ b.cps.toList := by
  show (a.cps ++ b.cps).toList = _
  rw [Array.toList_append]
theorem okZ_app {a b : Str} : okZ (a ++ b) ↔ okZ a ∧ okZ b := by
  unfold okZ
  rw [app_ok, app_cps, Bool.and_eq_true, List.mem_append]
  constructor
  · rintro ⟨⟨h1, h2⟩, h3⟩
    exact ⟨⟨h1, fun z => h3 (.inl z)⟩, h2, fun z => h3 (.inr z)⟩
  · rintro ⟨⟨h1, h3⟩, h2, h4⟩
    exact ⟨⟨h1, h2⟩, fun z => z.elim h3 h4⟩
theorem part_ok {z a b c : Str} (h : a ++ b ++ c = z) (k : okZ z) : okZ a ∧ okZ c := by
  rw [← h, okZ_app, okZ_app] at k
  exact ⟨k.1.1, k.2⟩
theorem ok_list (z : Str) : PyData.strOk z = z.cps.toList.all fun c => decide (c < 1114112) := by
  show z.cps.all _ = _
  rw [← Array.all_toList]
theorem ok_one (c : Nat) : PyData.strOk ⟨#[c]⟩ = decide (c < 1114112) := by
  rw [ok_list]
  simp
theorem shp_lstS (zs : List Str) (h : ∀ z ∈ zs, PyData.strOk z = true) : shp (.lst (zs.map D.str)) := by
  refine ⟨by simp only [DI.plain, plainA_strs], ?_⟩
  unfold SeqAt.shaped
  simp only [toPy, PyData.canLay0, lay_strs zs h, PyData.depth, depth_strs]
  rfl
theorem eqD_nil (zs : List Str) : eqD (.lst (zs.map D.str)) (.lst []) = zs.isEmpty := by
  unfold eqD
  cases zs with
  | nil => simp [toPy, toPyA, PyData.eqv, PyData.eqvAll]
  | cons z zs => simp [toPy, toPyA, PyData.eqv, PyData.eqvAll]
theorem loC_law (c : Nat) : (!strLt ⟨#[c]⟩ "a" && !strLt "z" ⟨#[c]⟩) = loC c := by
  rw [ch_a, ch_z, le_one, le_one]
  unfold loC
  rw [← decide_not, ← decide_not]
  congr 1
  · exact decide_eq_decide.mpr (by omega)
  · exact decide_eq_decide.mpr (by omega)
theorem dgC_law (c : Nat) : (!strLt ⟨#[c]⟩ "0" && !strLt "9" ⟨#[c]⟩) = (decide (48 ≤ c) && decide (c ≤ 57)) := by
  rw [ch_0, ch_9, le_one, le_one]
  rw [← decide_not, ← decide_not]
  congr 1
  · exact decide_eq_decide.mpr (by omega)
  · exact decide_eq_decide.mpr (by omega)
def F__law_is_id : FT := fB OkS idB
theorem isi_str (d : D) (h : ∀ z, d ≠ .str z) {t : String} (e : tyD d = some t) : isT "str" t = false := by
  cases d <;> cases e <;> first | rfl | exact absurd rfl (h _)
theorem len20 {n : Nat} (h : n ≤ 20) : n ≤ sizeLine := Nat.le_trans h (by decide)
theorem cm_mod {a b m : Int} (h0 : 0 < m) (h1 : m ≤ 2 ^ 64) : CMul (a % m) b := by
  have h2 := Int.emod_nonneg a (Int.ne_of_gt h0)
  have h3 := Int.emod_lt_of_pos a h0
  exact .inl ⟨by omega, by omega⟩
theorem atI_lt {α : Type} {xs : List α} {i : Int} (h0 : 0 ≤ i) (h1 : i < (xs.length : Int)) : ∃ a, atI xs i = some a ∧ a ∈ xs := by
  have h2 : i.toNat < xs.length := by omega
  refine ⟨xs[i.toNat], ?_, List.getElem_mem h2⟩
  unfold atI ixN
  have e : (if i < 0 then i + (xs.length : Int) else i) = i := if_neg (by omega)
  simp [h0, h1, h2]
  try omega

abbrev hash : Str := "#"
theorem ch_hash : hash = ⟨#[35]⟩ := by decide +kernel
theorem zsz (z : Str) : z.length = z.cps.size := rfl
theorem At_hash (z : Str) (i : Nat) : StrLaws.At z hash z.length i ↔ z.cps.toList[i]? = some 35 := by
  rw [ch_hash]
  unfold StrLaws.At Builtin.Str.subAt
  show i + 1 ≤ z.cps.size ∧ (z.cps.extract i (i + 1) == #[35]) = true ↔ _
  constructor
  · rintro ⟨h1, h2⟩
    have h3 : i < z.cps.size := h1
    have h4 : z.cps.extract i (i + 1) = #[35] := by simpa using h2
    have h5 : (z.cps.extract i (i + 1))[0]? = some 35 := by rw [h4]; rfl
    rw [Array.getElem?_extract] at h5
    have h6 : 0 < min (i + 1) z.cps.size - i := by omega
    rw [if_pos h6] at h5
    simpa using h5
  · intro h
    have h1 : i < z.cps.size := by
      have := (List.getElem?_eq_some_iff.mp h).1
      simpa using this
    refine ⟨h1, ?_⟩
    have e : z.cps.extract i (i + 1) = #[35] := by
      apply Array.ext
      · simp; omega
      · intro k k1 k2
        have k0 : k = 0 := by simp at k2; omega
        subst k0
        have := (List.getElem?_eq_some_iff.mp h).2
        simpa using this
    rw [e]
    rfl
theorem kind_le (z : Str) : ¬ Builtin.Str.strKind z < Builtin.Str.strKind hash := by
  have e : Builtin.Str.strKind hash = 1 := by decide +kernel
  rw [e]
  unfold Builtin.Str.strKind
  split
  · omega
  · split <;> omega
theorem idL_nil : idL [] = false := rfl
theorem idL_hash {l : List Nat} (h : 35 ∈ l) : idL l = false := by
  unfold idL
  have : l.all ldC = false := by
    rw [List.all_eq_false]
    exact ⟨35, h, by decide⟩
  rw [this, Bool.and_false]
/-- the law's way of telling a link apart is the program's -/
theorem cut_hash (z : Str) : (Txt.count z hash = 1 ∧ Txt.split z hash = [(Txt.partition z hash).1, (Txt.partition z hash).2.2]) ∨ (Txt.count z hash ≠ 1 ∧ (idL (Txt.partition z hash).1.cps.toList && idL (Txt.partition z hash).2.2.cps.toList) = false) := by
  have hl : hash.length = 1 := by decide +kernel
  obtain ⟨f, hc, hf⟩ := StrLaws.occ_tight z hash (Nat.le_of_eq hl.symm)
  unfold Txt.count Txt.split Txt.partition
  rcases StrLaws.occ_head z hash 1 (Nat.le_refl 1) with ⟨e1, n1⟩ | ⟨i, r, e1, a1, n1⟩
  · right
    rcases StrLaws.occ_head z hash (z.length + 1) (by omega) with ⟨e2, n2⟩ | ⟨j, r, e2, a2, n2⟩
    · rw [e1, e2]
      refine ⟨by simp, ?_⟩
      show (idL z.cps.toList && idL []) = false
      rw [idL_nil, Bool.and_false]
    · exact absurd a2 (n1 j)
  · rcases StrLaws.occ_head z hash (z.length + 1) (by omega) with ⟨e2, n2⟩ | ⟨j, s, e2, a2, n2⟩
    · exact absurd a1 (n2 i)
    · have hij : i = j := by
        rcases Nat.lt_trichotomy i j with h | h | h
        · exact absurd a1 (n2 i h)
        · exact h
        · exact absurd a2 (n1 j h)
      subst hij
      rw [e2] at hc
      rw [e1, e2]
      have hi : i + 1 ≤ z.length := by
        have := a1.1
        rw [hl] at this
        exact this
      cases s with
      | nil =>
        left
        refine ⟨by simp, ?_⟩
        rw [if_neg (by
          simp only [Bool.or_eq_true, decide_eq_true_eq, hl]
          rintro (h | h)
          · omega
          · exact kind_le z h), if_neg (by simp)]
        simp [Builtin.Str.partsBetween, hl]
      | cons k s =>
        right
        refine ⟨by simp only [List.length_cons]; omega, ?_⟩
        simp only [StrLaws.ChainG, hl] at hc
        have hk : i + 1 ≤ k := hc.2.2.2.1
        have ak := (At_hash z k).mp hc.2.2.2.2.1
        show (idL _ && idL (Builtin.Str.strSub z (i + hash.length) z.length).cps.toList) = false
        rw [hl]
        have : 35 ∈ (Builtin.Str.strSub z (i + 1) z.length).cps.toList := by
          show 35 ∈ (z.cps.extract (i + 1) z.cps.size).toList
          rw [Array.toList_extract]
          rw [List.mem_iff_getElem?]
          have hk2 : k < z.cps.toList.length := (List.getElem?_eq_some_iff.mp ak).1
          rw [Array.length_toList] at hk2
          refine ⟨k - (i + 1), ?_⟩
          rw [List.extract_eq_take_drop, List.getElem?_take, if_pos (by omega), List.getElem?_drop]
          rw [show i + 1 + (k - (i + 1)) = k from by omega]
          exact ak
        rw [idL_hash this, Bool.and_false]
theorem out_cps : ("out:" : Str).cps = #[111, 117, 116, 58] := by decide +kernel
theorem out_law (z : Str) : decide (cutS z none (some 4) = "out:") = Txt.startswith z "out:" := by
  unfold Txt.startswith Builtin.Str.subAt cutS HT.sIx
  have e : ("out:" : Str).length = 4 := by decide +kernel
  rw [e]
  have key : (cutS z none (some 4) = "out:") ↔ z.cps.toList.take 4 = [111, 117, 116, 58] := by
    unfold cutS HT.sIx
    constructor
    · intro h
      have h2 := congrArg (fun s => s.cps.toList) h
      simp only [out_cps] at h2
      rw [slen] at h2
      simp at h2
      by_cases h4 : 4 ≤ z.cps.size
      · simpa [Nat.min_eq_left h4] using h2
      · rw [Nat.min_eq_right (by omega)] at h2
        rw [List.take_of_length_le (by simp; omega)]
        rw [List.take_of_length_le (by simp)] at h2
        exact h2
    · intro h
      have h4 : 4 ≤ z.cps.toList.length := by
        have := congrArg List.length h
        simp at this
        simp
        omega
      have h5 : (⟨#[111, 117, 116, 58]⟩ : Str) = "out:" := by decide +kernel
      rw [← h5]
      congr 1
      rw [slen]
      simp only [Int.reduceNeg, Int.reduceLT, if_false, Int.reduceToNat]
      rw [Nat.min_eq_left h4]
      simp [h]
  have key2 : ((decide (0 + 4 ≤ z.length) && (z.cps.extract 0 (0 + 4) == ("out:" : Str).cps)) = true) ↔ z.cps.toList.take 4 = [111, 117, 116, 58] := by
    rw [out_cps]
    simp only [Bool.and_eq_true, decide_eq_true_eq, beq_iff_eq]
    constructor
    · rintro ⟨h1, h2⟩
      have h3 := congrArg Array.toList h2
      rw [Array.toList_extract, List.extract_eq_take_drop] at h3
      simpa using h3
    · intro h
      have h4 : 4 ≤ z.cps.toList.length := by
        have := congrArg List.length h
        simp at this
        simp
        omega
      refine ⟨by rw [slen]; omega, ?_⟩
      apply Array.toList_inj.mp
      rw [Array.toList_extract, List.extract_eq_take_drop]
      simpa using h
  rw [Bool.eq_iff_iff, decide_eq_true_eq]
  exact key.trans key2.symm

def F__law_is_link : FT := fB OkS linkB
theorem cutS_ok {z : Str} (lo hi : Option Int) (k : okZ z) : okZ (cutS z lo hi) := by
  unfold okZ at k ⊢
  rw [ok_list] at k ⊢
  have sub : ∀ c, c ∈ (cutS z lo hi).cps.toList → c ∈ z.cps.toList := fun c h => by
    unfold cutS at h
    exact List.mem_of_mem_drop (List.mem_of_mem_take h)
  exact ⟨List.all_eq_true.mpr fun c h => List.all_eq_true.mp k.1 c (sub c h), fun h => k.2 (sub _ h)⟩
theorem in3 (c : Nat) : inStr ⟨#[c]⟩ "<>&" = decide (c ∈ ([60, 62, 38] : List Nat)) := by
  unfold inStr
  rw [StrLaws.found_one]
  have e : ("<>&" : Str).cps.toList = [60, 62, 38] := by decide +kernel
  rw [e]
theorem exti (c : Nat) : (!strLt ⟨#[c]⟩ "!" && !strLt "~" ⟨#[c]⟩) = (decide (33 ≤ c) && decide (c ≤ 126)) := by
  rw [ch_ex, ch_ti, le_one, le_one]
  rw [← decide_not, ← decide_not]
  congr 1
  · exact decide_eq_decide.mpr (by omega)
  · exact decide_eq_decide.mpr (by omega)
def outC (c : Nat) : Bool := plC c && !decide (c ∈ ([32, 60, 62, 38] : List Nat))
theorem outC_law {c : Nat} (h : c ≠ 37) : ((!(!strLt ⟨#[c]⟩ "!" && !strLt "~" ⟨#[c]⟩)) || inStr ⟨#[c]⟩ "<>&") = !outC c := by
  rw [exti, in3]
  unfold outC plC
  rw [Bool.eq_iff_iff]
  simp only [Bool.or_eq_true, Bool.not_eq_true', Bool.and_eq_false_iff, decide_eq_true_eq, decide_eq_false_iff_not, List.mem_cons, List.not_mem_nil, or_false, Bool.not_eq_false']
  omega
theorem filter_all {α : Type} (f : α → Bool) : ∀ m : List α, (m.filter fun c => !f c).isEmpty = m.all f
  | [] => rfl
  | a :: m => by
    have ih := filter_all f m
    rw [List.filter_cons, List.all_cons]
    cases h : f a
    · simp
    · simpa using ih
theorem atI1 {α : Type} (a b : α) (l : List α) : atI (a :: b :: l) 1 = some b := by
  unfold atI ixN
  simp
  rw [if_pos (by omega)]
  rfl
def F__law_is_token : FT := fB OkK tokB
theorem plC_law {c : Nat} (h : c ≠ 37) : (!strLt ⟨#[c]⟩ " " && !strLt "~" ⟨#[c]⟩) = plC c := by
  rw [ch_sp, ch_ti, le_one, le_one]
  unfold plC
  rw [← decide_not, ← decide_not, decide_eq_true h, Bool.and_true]
  congr 1
  · exact decide_eq_decide.mpr (by omega)
  · exact decide_eq_decide.mpr (by omega)
theorem kinB_str (x : Str) : kinB (.str x) = decide (x ∈ boxes ++ lines) := by
  show (!DI.isNon (if x ∈ boxes then .str "box" else if x ∈ lines then .str "line" else .non)) = _
  by_cases h1 : x ∈ boxes
  · rw [if_pos h1]
    simp [h1, DI.isNon]
  · rw [if_neg h1]
    by_cases h2 : x ∈ lines
    · rw [if_pos h2]
      simp [h1, h2, DI.isNon]
    · rw [if_neg h2]
      simp [h1, h2, DI.isNon]
theorem atI2 {α : Type} (a b c : α) (l : List α) : atI (a :: b :: c :: l) 2 = some c := by
  unfold atI ixN
  simp
  rw [if_pos (by omega)]
  rfl
theorem atI3 {α : Type} (a b c d : α) (l : List α) : atI (a :: b :: c :: d :: l) 3 = some d := by
  unfold atI ixN
  simp
  rw [if_pos (by omega)]
  rfl
theorem rowsL_eq : [D.tup [], .tup [.str "code"], .tup [.str "slant"], .tup [.str "strong"], .tup [.str "code", .str "slant"], .tup [.str "code", .str "strong"], .tup [.str "slant", .str "strong"]] ++ [.tup [.str "code", .str "slant", .str "strong"]] = rows.map tupS := rfl
/-- something drawn -/
def fDraw (c : Nat) (R : D → Prop) : FT := ⟨fun ds n Q => ds = [.drw] ∧ n < 2 ^ 50 ∧ ∀ d m, R d → n ≤ m → m ≤ n + c → Q d m, fun ds n P P' h ⟨e, k, q⟩ => ⟨e, k, fun d m r a b => h _ _ (q d m r a b)⟩⟩
/-- a text of at most so many signs -/
def TxtD (k : Nat) (d : D) : Prop := ∃ z, d = .str z ∧ z.length ≤ k ∧ okZ z
def F__law_word : FT := fDraw 60 (TxtD 40)
theorem next_of {b : Int} {n : Nat} {Q : D → Nat → Prop} (h : n < 2 ^ 60) (h0 : 0 < b) (h1 : b < 1073741824) (q : ∀ r : Int, 0 ≤ r → r < b → Q (.int r) (n + 2)) : F__law_next.f [.drw, .int b] n Q := ⟨b, rfl, h, h0, h1, q⟩
instance (z : Str) : Decidable (okZ z) := by unfold okZ; infer_instance
/-- one of a list by a drawn place -/
theorem pick_of {xs : List D} {P : D → Prop} {r : Int} {Q : D → Prop} (h0 : 0 ≤ r) (h1 : r < (xs.length : Int)) (h : ∀ x ∈ xs, P x) (q : ∀ x, P x → Q x) : get (atI xs r) Q := by
  obtain ⟨a, e, m⟩ := atI_lt h0 h1
  rw [e]
  exact q a (h a m)
theorem strsOf_map : ∀ ys : List Str, strsOf (ys.map D.str) = some ys
  | [] => rfl
  | y :: ys => by
    show (strsOf (ys.map D.str)).map (y :: ·) = _
    rw [strsOf_map ys]
    rfl
theorem pick_map {α : Type} {xs : List α} {f : α → D} {P : α → Prop} {r : Int} {Q : D → Prop} (h0 : 0 ≤ r) (h1 : r < (xs.length : Int)) (h : ∀ x ∈ xs, P x) (q : ∀ x, P x → Q (f x)) : get (Option.map f (atI xs r)) Q := by
  obtain ⟨a, e, m⟩ := atI_lt h0 h1
  rw [e]
  exact q a (h a m)
/-- a drawn sign of a written text -/
theorem pick_sign {z : Str} {r : Int} {Q : D → Prop} (h0 : 0 ≤ r) (h1 : r < (z.length : Int)) (h : okZ z) (q : ∀ y, y.length = 1 → okZ y → Q (.str y)) : get (Option.map (fun c => D.str ⟨#[c]⟩) (atI z.cps.toList r)) Q := by
  refine pick_map (P := fun c => okZ ⟨#[c]⟩) h0 (by rw [← slen]; exact h1) (fun c hc => ?_) fun c hc => q _ rfl hc
  refine ⟨?_, fun m => h.2 ?_⟩
  · have := h.1
    rw [ok_list] at this
    rw [ok_one]
    exact List.all_eq_true.mp this c hc
  · have e : 37 = c := List.mem_singleton.mp m
    rw [e]
    exact hc
theorem strs_all {k : Nat} : ∀ ys : List D, (∀ y ∈ ys, TxtD k y) → ∃ zs : List Str, ys = zs.map D.str ∧ ∀ z ∈ zs, z.length ≤ k ∧ okZ z
  | [], _ => ⟨[], rfl, fun _ h => nomatch h⟩
  | y :: ys, h => by
    obtain ⟨zs, e, hz⟩ := strs_all ys fun x hx => h x (List.mem_cons_of_mem _ hx)
    obtain ⟨z, rfl, h1, h2⟩ := h y List.mem_cons_self
    refine ⟨z :: zs, by rw [e]; rfl, fun x hx => ?_⟩
    cases List.mem_cons.mp hx with
    | inl e => rw [e]; exact ⟨h1, h2⟩
    | inr e => exact hz x e
theorem fold_ok : ∀ (l : List Str) (a : Array Nat), (∀ z ∈ l, z.length ≤ 1 ∧ okZ z) → okZ ⟨a⟩ → okZ ⟨List.foldl (fun acc (p : Str) => acc ++ ("" : Str).cps ++ p.cps) a l⟩ ∧ (List.foldl (fun acc (p : Str) => acc ++ ("" : Str).cps ++ p.cps) a l).size ≤ a.size + l.length
  | [], a, _, ha => ⟨ha, Nat.le_refl _⟩
  | z :: l, a, h, ha => by
    obtain ⟨h1, h2⟩ := h z List.mem_cons_self
    have e : ("" : Str).cps = #[] := by decide +kernel
    have := fold_ok l (a ++ ("" : Str).cps ++ z.cps) (fun y hy => h y (List.mem_cons_of_mem _ hy)) (by
      rw [e, Array.append_empty]
      exact okZ_app (a := ⟨a⟩) (b := z) |>.mpr ⟨ha, h2⟩)
    refine ⟨this.1, Nat.le_trans this.2 ?_⟩
    rw [e, Array.append_empty, Array.size_append, List.length_cons]
    have : z.cps.size ≤ 1 := h1
    omega
theorem join_ok {zs : List Str} (h : ∀ z ∈ zs, z.length ≤ 1 ∧ okZ z) : okZ (Txt.join "" zs) ∧ (Txt.join "" zs).length ≤ zs.length := by
  unfold Txt.join Builtin.Str.glued
  cases zs with
  | nil => exact ⟨by decide +kernel, by decide +kernel⟩
  | cons z zs =>
    obtain ⟨h1, h2⟩ := h z List.mem_cons_self
    have := fold_ok zs z.cps (fun y hy => h y (List.mem_cons_of_mem _ hy)) h2
    refine ⟨this.1, Nat.le_trans this.2 ?_⟩
    have : z.cps.size ≤ 1 := h1
    rw [List.length_cons]
    omega
theorem sum_le {zs : List Str} (h : ∀ z ∈ zs, z.length ≤ 1 ∧ okZ z) : (zs.map (·.length)).sum ≤ zs.length := by
  induction zs with
  | nil => exact Nat.le_refl _
  | cons z zs ih =>
    have h1 := (h z List.mem_cons_self).1
    have := ih fun y hy => h y (List.mem_cons_of_mem _ hy)
    simp only [List.map_cons, List.sum_cons, List.length_cons]
    omega
theorem cJoin_ok {zs : List Str} (h : ∀ z ∈ zs, z.length ≤ 1 ∧ okZ z) (hl : zs.length ≤ 1000) : cJoin "" (.lst (zs.map D.str)) := by
  intro ys e
  have e2 : some zs = some ys := by
    rw [← e]
    exact (strsOf_map zs).symm
  cases e2
  have := sum_le h
  have e0 : ("" : Str).length = 0 := by decide +kernel
  rw [e0]
  omega
theorem gJoin_eq (zs : List Str) : gJoin "" (.lst (zs.map D.str)) = some (.str (Txt.join "" zs)) := by
  show (strsOf (zs.map D.str)).map _ = _
  rw [strsOf_map]
  rfl
theorem line2 {n : Nat} (h : n ≤ 1000) : n ≤ sizeLine := Nat.le_trans h line1000
theorem rng_len (lo : Int) (n : Nat) : (rngD lo n).length = n := by
  unfold rngD
  simp
theorem cut_len (z : Str) (lo hi : Option Int) : (cutS z lo hi).length ≤ z.length := by
  rw [slen]
  exact cutS_len z lo hi
def fDraw2 (c : Nat) (R : D → Prop) : FT := ⟨fun ds n Q => ds = [.drw] ∧ n < 2 ^ 49 ∧ ∀ d m, R d → n ≤ m → m ≤ n + c → Q d m, fun ds n P P' h ⟨e, k, q⟩ => ⟨e, k, fun d m r a b => h _ _ (q d m r a b)⟩⟩
def F__law_text : FT := fDraw2 200 (TxtD 100)
theorem word_of {n : Nat} {Q : D → Nat → Prop} (h : n < 2 ^ 50) (q : ∀ z m, z.length ≤ 40 → okZ z → n ≤ m → m ≤ n + 60 → Q (.str z) m) : F__law_word.f [.drw] n Q :=
  ⟨rfl, h, fun d m ⟨z, e, h1, h2⟩ a b => by
    subst e
    exact q z m h1 h2 a b⟩
/-- a drawn thing -/
def F__law_value : FT := fDraw2 100 OkK
theorem okS_of {d : D} (h : tyD d ≠ none) (n : ∀ z, d ≠ .str z) : OkS d := OkS.mk h (fun z e => absurd e (n z)) (fun z e => absurd e (n z))
theorem okT_str {z : Str} (h : z.length ≤ 1000) (k : okZ z) : OkT (.str z) := ⟨okS_str h k, fun es e => nomatch e⟩
theorem okT_tup (zs : List Str) (h : zs.length ≤ 20) (k : ∀ z ∈ zs, PyData.strOk z = true) : OkT (.tup (zs.map D.str)) := ⟨okS_of (fun z => nomatch z) (fun _ z => nomatch z), fun es e => by cases e; exact ⟨zs, rfl, h, k⟩⟩
theorem okT_non : OkT .non := ⟨okS_of (fun z => nomatch z) (fun _ z => nomatch z), fun es e => nomatch e⟩
theorem okT_int (i : Int) : OkT (.int i) := ⟨okS_of (fun z => nomatch z) (fun _ z => nomatch z), fun es e => nomatch e⟩
theorem okT_bl (i : Bool) : OkT (.bl i) := ⟨okS_of (fun z => nomatch z) (fun _ z => nomatch z), fun es e => nomatch e⟩
theorem okT_dic : OkT .dic0 := ⟨okS_of (fun z => nomatch z) (fun _ z => nomatch z), fun es e => nomatch e⟩
theorem okT_lst (es : List D) : OkT (.lst es) := ⟨okS_of (fun z => nomatch z) (fun _ z => nomatch z), fun es e => nomatch e⟩
theorem okT_txt {k : Nat} {d : D} (hk : k ≤ 1000) (h : TxtD k d) : OkT d := by
  obtain ⟨z, rfl, h1, h2⟩ := h
  exact okT_str (Nat.le_trans h1 hk) h2
theorem okK_tup {es : List D} (h : es.length ≤ 20) (k : ∀ e ∈ es, OkT e) : OkK (.tup es) := ⟨okS_of (fun z => nomatch z) (fun _ z => nomatch z), fun es' e => by cases e; exact ⟨h, k⟩⟩
theorem okK_lst (es : List D) : OkK (.lst es) := ⟨okS_of (fun z => nomatch z) (fun _ z => nomatch z), fun es e => nomatch e⟩
theorem okK_s {d : D} (h : OkS d) (k : ∀ es, d ≠ .tup es) : OkK d := ⟨h, fun es e => absurd e (k es)⟩
theorem value_tail {es : List D} (hl : es.length ≤ 10) (he : ∀ e ∈ es, OkT e) {n : Nat} (hn : n < 2 ^ 59) {Q : D → Nat → Prop} (q : ∀ d m, OkK d → n ≤ m → m ≤ n + 4 → Q d m) :
    F__law_next.f [.drw, .int 3] n fun d m => get (gIx (.lst [.non, .tup [], .str "x"]) d) fun d => 1 ≤ sizeLine ∧ cAdd (.tup es) (.tup [d]) ∧ get (gAdd (.tup es) (.tup [d])) fun d => cSl (.tup es) ∧ get (gSl (.tup es) none (some (-1))) fun z => get (gList [.tup es]) fun d1 =>
      6 ≤ sizeLine ∧ F__law_next.f [.drw, .int 6] m fun d2 m => get (gIx (.lst [.tup es, .tup es, .tup es, d, z, d1]) d2) fun d => Q d m := by
  refine next_of (by omega) (by decide) (by decide) fun r r0 r1 => ?_
  refine pick_of (P := OkT) r0 (by simpa using r1) (by
    intro x hx
    simp only [List.mem_cons, List.not_mem_nil, or_false] at hx
    rcases hx with rfl | rfl | rfl
    · exact okT_non
    · exact okT_tup [] (by decide) (by decide +kernel)
    · exact okT_str (by decide +kernel) (by decide +kernel)) ?_
  intro more hmore
  refine ⟨by decide, line2 (by simp only [List.length_cons, List.length_nil]; omega), trivial, by decide, ?_⟩
  refine next_of (by omega) (by decide) (by decide) fun r r0 r1 => ?_
  refine pick_of (P := OkK) r0 (by simpa using r1) (by
    intro x hx
    simp only [List.mem_cons, List.not_mem_nil, or_false] at hx
    have h0 : OkK (.tup es) := okK_tup (by omega) he
    rcases hx with rfl | rfl | rfl | rfl | rfl | rfl
    · exact h0
    · exact h0
    · exact h0
    · refine okK_tup (by simp only [List.length_append, List.length_cons, List.length_nil]; omega) fun e h => ?_
      rcases List.mem_append.mp h with h | h
      · exact he e h
      · rw [List.mem_singleton.mp h]
        exact hmore
    · refine okK_tup ?_ fun e h => he e (List.mem_of_mem_drop (List.mem_of_mem_take h))
      unfold cutL
      simp only [List.length_take, List.length_drop]
      omega
    · exact okK_lst _) fun d hd => ?_
  exact q d _ hd (by omega) (by omega)
theorem text_of {n : Nat} {Q : D → Nat → Prop} (h : n < 2 ^ 49) (q : ∀ z m, z.length ≤ 100 → okZ z → n ≤ m → m ≤ n + 200 → Q (.str z) m) : F__law_text.f [.drw] n Q :=
  ⟨rfl, h, fun d m ⟨z, e, h1, h2⟩ a b => by
    subst e
    exact q z m h1 h2 a b⟩
theorem value_of {n : Nat} {Q : D → Nat → Prop} (h : n < 2 ^ 49) (q : ∀ d m, OkK d → n ≤ m → m ≤ n + 100 → Q d m) : F__law_value.f [.drw] n Q := ⟨rfl, h, q⟩
theorem okK_str {z : Str} (h : z.length ≤ 1000) (k : okZ z) : OkK (.str z) := okK_s (okS_str h k) fun es e => nomatch e
theorem eqA_strs : ∀ (a b : List Str), PyData.eqvAll (toPyA (a.map D.str)) (toPyA (b.map D.str)) = decide (a = b)
  | [], [] => by simp [toPyA, PyData.eqvAll]
  | [], y :: t => by simp [toPyA, PyData.eqvAll]
  | x :: t, [] => by simp [toPyA, PyData.eqvAll]
  | x :: s, y :: t => by
    rw [List.map_cons, List.map_cons]
    simp only [toPyA, PyData.eqvAll, toPy, PyData.eqv, eqA_strs s t, List.cons.injEq]
    by_cases h : x = y
    · subst h
      simp
    · simp [h]
theorem in_rows (zs : List Str) : stylB (.tup (zs.map D.str)) = decide (zs ∈ rows) := by
  have go : ∀ l : List (List Str), inD (.tup (zs.map D.str)) (l.map tupS) = decide (zs ∈ l) := fun l => by
    induction l with
    | nil => rfl
    | cons y t ih =>
      rw [List.map_cons]
      unfold inD at ih ⊢
      have e : eqD (D.tup (y.map D.str)) (D.tup (zs.map D.str)) = decide (y = zs) := by
        unfold eqD
        simp only [toPy, PyData.eqv, eqA_strs]
      simp only [List.any_cons, ih, tupS, e]
      by_cases h : y = zs
      · subst h
        simp
      · have h2 : ¬ zs = y := fun e => h e.symm
        simp [h, h2]
  exact go rows
/-! ### rows of tokens -/
def preT : List D → Nat
  | [] => 0
  | t :: ts => if tokB t = true then preT ts + 1 else 0
def LinkP (d : D) : Prop := nonD d = true ∨ linkB d = true
def PairP (d : D) : Prop := tokB d = true
def CharK (k : Key) : Prop := ∃ z : Str, k = Sum.inr z ∧ signB (.str z) = true
def F_count_tokens : FT := ⟨fun ds n Q => ∃ ts : List D, ds = [.tup ts] ∧ ts.length ≤ 3000 ∧ (∀ t ∈ ts, OkK t) ∧ Q (.int (preT ts)) n, fun ds n P P' h ⟨d, e, k, l, q⟩ => ⟨d, e, k, l, h _ _ q⟩⟩
def wordD : D → Str
  | .tup (.str w :: _) => w
  | _ => ""
def nameD : D → Str
  | .tup [_, .str y] => y
  | _ => ""
/-- where a row of tokens stops being the beginning of a chapter: ks the open kinds, e the index below which glyphs may stand, i where we are -/
def misT (ks : List Str) (e : Int) (i : Nat) : List D → Option Nat
  | [] => if 1 < ks.length + 1 then some i else none
  | t :: ts =>
    if wordD t = "char" then (if (i : Int) ≥ e then some i else misT ks e (i + 1) ts)
    else if wordD t = "open" then
      if e > 0 ∨ ((ks.length + 1 : Nat) : Int) > 12 ∨ (i : Int) + 1 + ((ks.length + 1 : Nat) : Int) > 2000 then some i
      else if (decide (nameD t = "item")) ≠ (decide (ks.getLast? = some ("list" : Str))) then some i
      else misT (ks ++ [nameD t]) (if nameD t ∈ lines then 2000 - ((ks.length + 2 : Nat) : Int) + 1 else 0) (i + 1) ts
    else if wordD t = "close" then (if ks.getLast? ≠ some (nameD t) then some i else misT ks.dropLast 0 (i + 1) ts)
    else if (i : Int) ≥ e then some i else misT ks e (i + 1) ts
def optD : Option Nat → D
  | some i => .int i
  | none => .non
def F_first_misplaced : FT := ⟨fun ds n Q => ∃ ts : List D, ds = [.tup ts] ∧ ts.length ≤ 3000 ∧ (∀ t ∈ ts, tokB t = true) ∧ Q (optD (misT [] 0 0 ts)) n, fun ds n P P' h ⟨d, e, k, l, q⟩ => ⟨d, e, k, l, h _ _ q⟩⟩
def badT (ts : List D) : Option Nat := match misT [] 0 0 (ts.take (preT ts)) with
  | some i => some i
  | none => if preT ts < ts.length then some (preT ts) else none
/-- of any data -/
def F_first_bad : FT := ⟨fun ds n Q => ∃ d : D, ds = [d] ∧ ((∃ ts : List D, d = .tup ts ∧ ts.length ≤ 3000 ∧ (∀ t ∈ ts, OkK t) ∧ Q (optD (badT ts)) n) ∨ (tyD d ≠ none ∧ (∀ es, d ≠ .tup es) ∧ Q (.int (-1)) n)), fun ds n P P' h ⟨d, e, q⟩ => ⟨d, e, q.imp (fun ⟨ts, a, b, c, q⟩ => ⟨ts, a, b, c, h _ _ q⟩) (fun ⟨a, b, q⟩ => ⟨a, b, h _ _ q⟩)⟩⟩
/-- of a chapter: nothing happens -/
def F_require_chapter : FT := ⟨fun ds n Q => ∃ ts : List D, ds = [.tup ts] ∧ ts.length ≤ 3000 ∧ (∀ t ∈ ts, OkK t) ∧ badT ts = none ∧ Q .non n, fun ds n P P' h ⟨d, e, k, l, m, q⟩ => ⟨d, e, k, l, m, h _ _ q⟩⟩
theorem tok_form {t : D} (h : tokB t = true) : (∃ z s l, t = .tup [.str "char", .str z, s, l] ∧ signB (.str z) = true ∧ (l = .non ∨ ∃ y, l = .str y ∧ linkB (.str y) = true)) ∨ (∃ x y : Str, x ≠ "char" ∧ t = .tup [.str x, .str y]) := by
  unfold tokB at h
  split at h
  · rename_i x es
    split at h
    · rename_i hx
      subst hx
      split at h
      · rename_i c s l
        simp only [charB, Bool.and_eq_true, Bool.or_eq_true] at h
        obtain ⟨⟨h1, h2⟩, h3⟩ := h
        cases c <;> try (simp [signB] at h1)
        rename_i z
        refine .inl ⟨z, s, l, rfl, by simpa [signB] using h1, ?_⟩
        rcases h3 with h3 | h3
        · cases l <;> simp [nonD] at h3
          exact .inl rfl
        · cases l <;> simp [linkB] at h3
          exact .inr ⟨_, rfl, by simpa [linkB] using h3⟩
      · cases h
    · rename_i hx
      split at h
      · rename_i y
        refine .inr ?_
        split at h
        · cases y <;> simp [kinB, kindD, DI.isNon] at h
          exact ⟨x, _, hx, rfl⟩
        · cases y <;> simp [idB] at h
          exact ⟨x, _, hx, rfl⟩
      · cases h
  · cases h
def sndD : D → D
  | .tup (_ :: y :: _) => y
  | _ => .non
/-- what a token costs that stands for another; none: it can't -/
def cost1 (a b : D) : Option Nat :=
  if eqD a b = true then some 0
  else if wordD a ≠ wordD b then none
  else if wordD a = "char" then (if eqD (sndD a) (sndD b) = true then some 1 else none)
  else if (wordD a = "open" ∨ wordD a = "close") ∧ eqD (kindD (sndD a)) (kindD (sndD b)) = true then some 1 else none
def F_fits : FT := ⟨fun ds n Q => ∃ x y z : Str, ds = [.tup [.str x, .str y], .str "kind", .str z] ∧ OkS (.str y) ∧ OkS (.str z) ∧ Q (.bl (decide ((x = "open" ∨ x = "close") ∧ eqD (kindD (.str y)) (kindD (.str z)) = true))) n, fun ds n P P' h ⟨x, y, z, e, k, l, q⟩ => ⟨x, y, z, e, k, l, h _ _ q⟩⟩
/-- two tokens -/
def F_step_cost : FT := ⟨fun ds n Q => ∃ a b : D, ds = [a, b] ∧ (tokB a = true ∧ OkK a ∧ shp a) ∧ (tokB b = true ∧ OkK b ∧ shp b) ∧ Q (optD (cost1 a b)) n, fun ds n P P' h ⟨a, b, e, k, l, q⟩ => ⟨a, b, e, k, l, h _ _ q⟩⟩
/-- the row of heights above one, for a token: from the right -/
def rowUp (t : D) : List D → List Int → List Int
  | [], b :: _ => [b + 1]
  | o :: os, b :: bs =>
    let r := rowUp t os bs
    let x0 := r.headD 0 + 1
    let x1 := if b + 1 < x0 then b + 1 else x0
    let x2 := match cost1 t o with
      | some c => if bs.headD 0 + (c : Int) < x1 then bs.headD 0 + (c : Int) else x1
      | none => x1
    x2 :: r
  | _, [] => []
structure OkTok (t : D) : Prop where
  a : tokB t = true
  b : OkK t
  c : shp t
def F__row_above : FT := ⟨fun ds n Q => ∃ (t : D) (os : List D) (bs : List Int), ds = [t, .tup os, .tup (bs.map .int)] ∧ OkTok t ∧ (∀ o ∈ os, OkTok o) ∧ os.length ≤ 3000 ∧ bs.length = os.length + 1 ∧ Q (.tup ((rowUp t os bs).map .int)) n, fun ds n P P' h ⟨t, os, bs, e, k1, k2, k3, k4, q⟩ => ⟨t, os, bs, e, k1, k2, k3, k4, h _ _ q⟩⟩
/-- the lowest row: of the tokens left of the other one -/
def baseR : List D → List Int
  | [] => [0]
  | y :: ys => ((ys.length : Int) + 1) :: baseR ys
/-- the rows of a table, from the top -/
def tabUp : List D → List D → List (List Int)
  | [], ys => [baseR ys]
  | x :: xs, ys => rowUp x ys ((tabUp xs ys).headD []) :: tabUp xs ys
def tabD (xs ys : List D) : D := .tup ((tabUp xs ys).map fun r => .tup (r.map .int))
def F_heights : FT := ⟨fun ds n Q => ∃ xs ys : List D, ds = [.tup xs, .tup ys] ∧ (∀ o ∈ xs, OkTok o) ∧ (∀ o ∈ ys, OkTok o) ∧ xs.length ≤ 300 ∧ ys.length ≤ 300 ∧ badT xs = none ∧ badT ys = none ∧ Q (tabD xs ys) n, fun ds n P P' h ⟨t, os, e, k1, k2, k3, k4, k5, k6, q⟩ => ⟨t, os, e, k1, k2, k3, k4, k5, k6, h _ _ q⟩⟩
theorem rowUp_len {t : D} : ∀ {os : List D} {bs : List Int}, bs.length = os.length + 1 → (rowUp t os bs).length = os.length + 1
  | [], b :: bs, _ => rfl
  | o :: os, b :: bs, h => by
    have := rowUp_len (t := t) (os := os) (bs := bs) (by simpa using h)
    simp [rowUp, this]
  | [], [], h => by cases h
  | o :: os, [], h => by cases h
theorem at_nat {l : List D} {j : Nat} {d : D} {z : Int} (hz : z = (j : Int)) (h : l[j]? = some d) : atI l z = some d := by
  subst hz
  have hj := (List.getElem?_eq_some_iff.mp h).1
  unfold atI ixN
  rw [if_pos (by omega), if_pos (by omega)]
  simpa using h
/-! ### drawn tokens and chapters -/
abbrev GId (z : Str) : Prop := idL z.cps.toList = true
def GKind (y : Str) : Prop := y ∈ boxes ∨ y ∈ lines
instance (y : Str) : Decidable (GKind y) := by unfold GKind; infer_instance
def GLink (l : D) : Prop := l = .non ∨ ∃ z, l = .str z ∧ linkL z = true ∧ z.length ≤ 40 ∧ okZ z
inductive GTok : D → Prop
  | char (c : Nat) (zs : List Str) (l : D) : plC c = true → zs ∈ rows → GLink l → GTok (.tup [.str "char", .str ⟨#[c]⟩, .tup (zs.map .str), l])
  | opn (y : Str) : GKind y → GTok (.tup [.str "open", .str y])
  | cls (y : Str) : GKind y → GTok (.tup [.str "close", .str y])
  | anc (z : Str) : GId z → GTok (.tup [.str "anchor", .str z])
  | img (z : Str) : GId z → GTok (.tup [.str "image", .str z])
theorem id_spec {z : Str} (h : GId z) : z.length ≤ 16 ∧ okZ z ∧ ∀ c ∈ z.cps.toList, ldC c = true := by
  unfold GId idL at h
  simp only [Bool.and_eq_true, decide_eq_true_eq, List.all_eq_true] at h
  obtain ⟨⟨⟨h1, h2⟩, h3⟩, h4⟩ := h
  refine ⟨by rw [slen]; exact h2, ⟨?_, fun m => ?_⟩, h4⟩
  · rw [ok_list]
    refine List.all_eq_true.mpr fun c hc => ?_
    have := h4 c hc
    simp only [ldC, loC, Bool.or_eq_true, Bool.and_eq_true, decide_eq_true_eq] at this
    exact decide_eq_true (by omega)
  · have := h4 37 m
    simp [ldC, loC] at this
theorem rows_spec {zs : List Str} (h : zs ∈ rows) : zs.length ≤ 3 ∧ ∀ z ∈ zs, PyData.strOk z = true := by
  have e : ∀ zs ∈ rows, zs.length ≤ 3 ∧ ∀ z ∈ zs, PyData.strOk z = true := by decide +kernel
  exact e zs h
theorem plC_ok {c : Nat} (h : plC c = true) : okZ ⟨#[c]⟩ := by
  simp only [plC, Bool.and_eq_true, decide_eq_true_eq] at h
  refine ⟨by rw [ok_one]; exact decide_eq_true (by omega), fun m => ?_⟩
  have : 37 = c := List.mem_singleton.mp m
  omega
theorem kind_spec {y : Str} (h : GKind y) : y.length ≤ 7 ∧ okZ y ∧ DI.isNon (kindD (.str y)) = false := by
  have e : ∀ y ∈ boxes ++ lines, y.length ≤ 7 ∧ okZ y ∧ DI.isNon (kindD (.str y)) = false := by decide +kernel
  exact e y (List.mem_append.mpr h)
theorem okT_link {l : D} (h : GLink l) : OkT l := by
  rcases h with rfl | ⟨z, rfl, _, h2, h3⟩
  · exact okT_non
  · exact okT_str (Nat.le_trans h2 (by decide)) h3
theorem link_bool {l : D} (h : GLink l) : (nonD l || linkB l) = true := by
  rcases h with rfl | ⟨z, rfl, h1, _⟩
  · rfl
  · simp [linkB, h1]
theorem shp_two (x y : Str) (hx : okZ x) (hy : okZ y) : shp (.tup [.str x, .str y]) := shp_tupS [x, y] (fun z hz => by
  simp only [List.mem_cons, List.not_mem_nil, or_false] at hz
  rcases hz with rfl | rfl
  · exact hx.1
  · exact hy.1)
theorem tok_twos {x y : Str} (hx : okZ x) (hy : okZ y) (h1 : x.length ≤ 1000) (h2 : y.length ≤ 1000) (ht : tokB (.tup [.str x, .str y]) = true) : OkTok (.tup [.str x, .str y]) :=
  ⟨ht, okK_tup (by simp) (fun e he => by
    simp only [List.mem_cons, List.not_mem_nil, or_false] at he
    rcases he with rfl | rfl
    · exact okT_str h1 hx
    · exact okT_str h2 hy), shp_two x y hx hy⟩
theorem GTok.ok {t : D} (h : GTok t) : OkTok t := by
  cases h with
  | char c zs l h1 h2 h3 =>
    obtain ⟨r1, r2⟩ := rows_spec h2
    refine ⟨?_, okK_tup (by simp) (fun e he => ?_), ?_, ?_⟩
    · simp only [tokB, if_true, charB, signB_one, in_rows, link_bool h3, h1, h2, decide_true, Bool.and_true]
    · simp only [List.mem_cons, List.not_mem_nil, or_false] at he
      rcases he with rfl | rfl | rfl | rfl
      · exact okT_str (by decide +kernel) (by decide +kernel)
      · exact okT_str (by show (1 : Nat) ≤ 1000; decide) (plC_ok h1)
      · exact okT_tup zs (by omega) r2
      · exact okT_link h3
    · rcases h3 with rfl | ⟨z, rfl, _, _⟩
      · simp only [DI.plain, plainA, plainA_strs, Bool.true_and, Bool.and_true]
      · simp only [DI.plain, plainA, plainA_strs, Bool.true_and, Bool.and_true]
    · have e1 : PyData.strOk "char" = true := by decide +kernel
      have e2 := (plC_ok h1).1
      have e3 := lay_strs zs r2
      have e4 := depth_strs zs
      rcases h3 with rfl | ⟨z, rfl, _, _, hz⟩
      · unfold SeqAt.shaped
        simp only [toPy, toPyA, PyData.canLay0, PyData.canLayAll0, e1, e2, e3, PyData.depth, PyData.depthAll, e4, Bool.true_and, Bool.and_true]
        decide
      · unfold SeqAt.shaped
        simp only [toPy, toPyA, PyData.canLay0, PyData.canLayAll0, e1, e2, e3, hz.1, PyData.depth, PyData.depthAll, e4, Bool.true_and, Bool.and_true]
        decide
  | opn y h =>
    obtain ⟨h1, h2, h3⟩ := kind_spec h
    refine tok_twos (by decide +kernel) h2 (by decide +kernel) (by omega) ?_
    have e : (("open" : Str) = "char") = False := by decide +kernel
    simp [tokB, e, kinB, h3]
  | cls y h =>
    obtain ⟨h1, h2, h3⟩ := kind_spec h
    refine tok_twos (by decide +kernel) h2 (by decide +kernel) (by omega) ?_
    have e : (("close" : Str) = "char") = False := by decide +kernel
    simp [tokB, e, kinB, h3]
  | anc y h =>
    obtain ⟨h1, h2, _⟩ := id_spec h
    refine tok_twos (by decide +kernel) h2 (by decide +kernel) (by omega) ?_
    have e : (("anchor" : Str) = "char") = False := by decide +kernel
    have e1 : (("anchor" : Str) = "open") = False := by decide +kernel
    have e2 : (("anchor" : Str) = "close") = False := by decide +kernel
    simp [tokB, e, e1, e2, idB, h]
  | img y h =>
    obtain ⟨h1, h2, _⟩ := id_spec h
    refine tok_twos (by decide +kernel) h2 (by decide +kernel) (by omega) ?_
    have e : (("image" : Str) = "char") = False := by decide +kernel
    have e1 : (("image" : Str) = "open") = False := by decide +kernel
    have e2 : (("image" : Str) = "close") = False := by decide +kernel
    have e3 : (("image" : Str) = "anchor") = False := by decide +kernel
    simp [tokB, e, e1, e2, e3, idB, h]
/-- a link of two ids -/
theorem link_two {a b : Str} (ha : GId a) (hb : GId b) : GLink (.str (a ++ "#" ++ b)) := by
  obtain ⟨a1, a2, a3⟩ := id_spec ha
  obtain ⟨b1, b2, b3⟩ := id_spec hb
  have e1 : ("#" : Str).length = 1 := by decide +kernel
  have ec : ("#" : Str).cps.toList = [35] := by decide +kernel
  refine .inr ⟨_, rfl, ?_, by rw [app_len, app_len, e1]; omega, okZ_app.mpr ⟨okZ_app.mpr ⟨a2, by decide +kernel⟩, b2⟩⟩
  have ns : Txt.startswith (a ++ "#" ++ b) "out:" = false := by
    rw [← out_law]
    refine decide_eq_false fun z => ?_
    have m : (58 : Nat) ∈ (cutS (a ++ "#" ++ b) none (some 4)).cps.toList := by
      rw [z]
      decide +kernel
    have m2 : (58 : Nat) ∈ (a ++ "#" ++ b).cps.toList := by
      unfold cutS at m
      simp only at m
      exact List.mem_of_mem_drop (List.mem_of_mem_take m)
    rw [app_cps, app_cps, ec, List.mem_append, List.mem_append] at m2
    rcases m2 with (h | h) | h
    · have := a3 58 h
      simp [ldC, loC] at this
    · simp at h
    · have := b3 58 h
      simp [ldC, loC] at this
  have pt : Txt.partition (a ++ "#" ++ b) "#" = (a, ("#" : Str), b) := TL.partition_app (s := 35) (S := []) ec (fun h => by
    have := a3 35 h
    simp [ldC, loC] at this)
  unfold linkL
  rw [ns, pt]
  simp only [Bool.false_eq_true, if_false]
  rw [ha, hb]
  rfl
theorem link_out : GLink (.str "out:a") := .inr ⟨_, rfl, by decide +kernel, by decide +kernel, by decide +kernel⟩
/-! ### chapters -/
/-- whether a row of tokens closes the open kinds ks -/
def okR (ks : List Str) : List D → Bool
  | [] => ks.isEmpty
  | t :: ts =>
    if wordD t = "close" then decide (ks.getLast? = some (nameD t)) && okR ks.dropLast ts
    else if wordD t = "open" then !(ks.getLast?.any fun y => decide (y ∈ lines)) && (decide (nameD t = "item") == decide (ks.getLast? = some ("list" : Str))) && decide (ks.length ≠ 12) && okR (ks ++ [nameD t]) ts
    else (ks.getLast?.any fun y => decide (y ∈ lines)) && okR ks ts
theorem okR_len : ∀ {ts : List D} {ks : List Str}, okR ks ts = true → ks.length ≤ ts.length
  | [], ks, h => by
    simp only [okR, List.isEmpty_iff] at h
    subst h
    exact Nat.le_refl _
  | t :: ts, ks, h => by
    simp only [okR] at h
    split at h
    · simp only [Bool.and_eq_true] at h
      have := okR_len h.2
      simp only [List.length_dropLast] at this
      simp only [List.length_cons]
      omega
    · split at h
      · simp only [Bool.and_eq_true] at h
        have := okR_len h.2
        simp only [List.length_append, List.length_cons, List.length_nil] at this ⊢
        omega
      · simp only [Bool.and_eq_true] at h
        have := okR_len h.2
        simp only [List.length_cons]
        omega
/-- the mark of the glyphs -/
def glE (ks : List Str) : Int := if (ks.getLast?.any fun y => decide (y ∈ lines)) = true then 2000 - (ks.length : Int) else 0
/-- lines stand at the end alone -/
def NoLn (ks : List Str) : Prop := ∀ y ∈ ks.dropLast, y ∉ lines
theorem noLn_drop {ks : List Str} (h : NoLn ks) : NoLn ks.dropLast := fun y hy => h y (List.dropLast_subset _ hy)
theorem noLn_line {ks : List Str} (h : NoLn ks) : (ks.dropLast.getLast?.any fun y => decide (y ∈ lines)) = false := by
  cases e : ks.dropLast.getLast? with
  | none => rfl
  | some y => simpa using h y (List.mem_of_getLast? e)
theorem noLn_push {ks : List Str} {z : Str} (h : NoLn ks) (hl : (ks.getLast?.any fun y => decide (y ∈ lines)) = false) : NoLn (ks ++ [z]) := fun y hy => by
  rw [List.dropLast_concat] at hy
  cases ks with
  | nil => cases hy
  | cons a l =>
    rw [← List.dropLast_concat_getLast (l := a :: l) (by simp)] at hy
    rcases List.mem_append.mp hy with hy | hy
    · exact h y hy
    · rw [List.mem_singleton] at hy
      subst hy
      rw [List.getLast?_eq_some_getLast (by simp)] at hl
      simpa using hl
theorem misT_of : ∀ {ts : List D} {ks : List Str} {i : Nat}, okR ks ts = true → NoLn ks → ks.length ≤ 12 → i + ts.length ≤ 2000 → misT ks (glE ks) i ts = none
  | [], ks, i, h, _, _, _ => by
    simp only [okR, List.isEmpty_iff] at h
    subst h
    rfl
  | t :: ts, ks, i, h, hn, h12, hl => by
    have ece : (("close" : Str) = "open") = False := by decide +kernel
    have ecc : (("close" : Str) = "char") = False := by decide +kernel
    have eoc : (("open" : Str) = "char") = False := by decide +kernel
    simp only [List.length_cons] at hl
    simp only [okR] at h
    split at h
    · rename_i hw
      simp only [Bool.and_eq_true, decide_eq_true_eq] at h
      have hr := misT_of (i := i + 1) h.2 (noLn_drop hn) (by rw [List.length_dropLast]; omega) (by omega)
      have e0 : glE ks.dropLast = 0 := by
        unfold glE
        rw [noLn_line hn]
        rfl
      rw [e0] at hr
      simp only [misT, hw, ece, ecc, if_false, if_true, h.1, ne_eq, not_true_eq_false]
      exact hr
    · rename_i hw1
      split at h
      · rename_i hw
        simp only [Bool.and_eq_true, decide_eq_true_eq, Bool.not_eq_true', beq_iff_eq] at h
        obtain ⟨⟨⟨h1, h2⟩, h3⟩, h4⟩ := h
        have hlen := okR_len h4
        simp only [List.length_append, List.length_cons, List.length_nil] at hlen
        have hr := misT_of (i := i + 1) h4 (noLn_push hn h1) (by simp only [List.length_append, List.length_cons, List.length_nil]; omega) (by omega)
        have e0 : glE ks = 0 := by
          unfold glE
          rw [h1]
          rfl
        have e1 : glE (ks ++ [nameD t]) = if nameD t ∈ lines then 2000 - ((ks.length + 2 : Nat) : Int) + 1 else 0 := by
          unfold glE
          rw [List.getLast?_concat]
          simp only [Option.any_some, decide_eq_true_eq, List.length_append, List.length_cons, List.length_nil]
          split
          · omega
          · rfl
        rw [e1] at hr
        simp only [misT, hw, eoc, if_false, if_true]
        rw [if_neg (by rw [e0]; omega), if_neg (by rw [h2]; simp), hr]
      · rename_i hw2
        simp only [Bool.and_eq_true] at h
        have hlen := okR_len h.2
        have hr := misT_of (i := i + 1) h.2 hn h12 (by omega)
        have e0 : (i : Int) < glE ks := by
          unfold glE
          rw [if_pos h.1]
          omega
        have e3 : ¬ (i : Int) ≥ glE ks := by omega
        simp only [misT, hw1, hw2, if_false, e3, hr, ite_self]
/-- a chapter, as it is drawn -/
structure Chap (ts : List D) : Prop where
  t : ∀ t ∈ ts, GTok t
  r : okR [] ts = true
theorem preT_all : ∀ {ts : List D}, (∀ t ∈ ts, tokB t = true) → preT ts = ts.length
  | [], _ => rfl
  | t :: ts, h => by
    rw [preT, if_pos (h t List.mem_cons_self), preT_all fun x hx => h x (List.mem_cons_of_mem _ hx)]
    rfl
theorem Chap.bad {ts : List D} (h : Chap ts) (hl : ts.length ≤ 2000) : badT ts = none := by
  have e := preT_all fun t ht => (h.t t ht).ok.a
  unfold badT
  rw [e, List.take_length]
  have z := misT_of (i := 0) h.r (fun y hy => nomatch hy) (by simp) (by omega)
  have e0 : glE [] = 0 := rfl
  rw [e0] at z
  rw [z]
  simp
/-! ### what the law's defs give -/
def fDr (c : Nat) (pre : List D → Prop) (R : List D → D → Prop) : FT := ⟨fun ds n Q => pre ds ∧ n + c < 2 ^ 49 ∧ ∀ d m, R ds d → n ≤ m → m ≤ n + c → Q d m, fun ds n P P' h ⟨a, b, q⟩ => ⟨a, b, fun d m r x y => h _ _ (q d m r x y)⟩⟩
abbrev idsD (zs : List Str) : D := .lst (zs.map .str)
def Glyph (t : D) : Prop := GTok t ∧ wordD t ≠ "open" ∧ wordD t ≠ "close"
def F__law_ids : FT := fDr 60 (fun ds => ∃ k : Nat, ds = [.drw, .int k] ∧ k ≤ 26) (fun ds d => ∃ zs : List Str, ds = [.drw, .int zs.length] ∧ d = idsD zs ∧ ∀ z ∈ zs, GId z)
def F__law_styles : FT := fDr 4 (fun ds => ds = [.drw]) (fun _ d => ∃ zs ∈ rows, d = .tup (zs.map .str))
def F__law_char : FT := fDr 10 (fun ds => ∃ l, ds = [.drw, l] ∧ GLink l) (fun _ d => Glyph d)
def F__law_glyph : FT := fDr 20 (fun ds => ∃ a b, ds = [.drw, idsD a, idsD b] ∧ (∀ z ∈ a, GId z) ∧ (∀ z ∈ b, GId z) ∧ a.length ≤ 1000 ∧ b.length ≤ 1000) (fun _ d => Glyph d)
def F__law_opened : FT := fDr 4 (fun ds => ∃ ks, ds = [.drw, idsD ks] ∧ ks.length ≤ 12 ∧ ∀ y ∈ ks, GKind y) (fun ds d => ∃ ks y, ds = [.drw, idsD ks] ∧ d = .tup [.str "open", .str y] ∧ GKind y ∧ (y = "item" ↔ ks.getLast? = some ("list" : Str)))
def F__law_chapter : FT := fDr 4000 (fun ds => ∃ (most : Nat) (a b : List Str), ds = [.drw, .int most, idsD a, idsD b] ∧ most ≤ 100 ∧ (∀ z ∈ a, GId z) ∧ (∀ z ∈ b, GId z) ∧ a.length ≤ 1000 ∧ b.length ≤ 1000) (fun ds d => ∃ (most : Nat) (a b : D) (ts : List D), ds = [.drw, .int most, a, b] ∧ d = .tup ts ∧ Chap ts ∧ ts.length ≤ most)
def F__law_linked : FT := fDr 1000 (fun ds => ∃ (ts : List D) (zs : List Str), ds = [.drw, .tup ts, idsD zs] ∧ Chap ts ∧ ts.length ≤ 100 ∧ (∀ z ∈ zs, GLink (.str z)) ∧ zs.length ≤ 100) (fun ds d => ∃ (ts : List D) (z : D) (ts' : List D), ds = [.drw, .tup ts, z] ∧ d = .tup ts' ∧ Chap ts' ∧ ts'.length = ts.length)
def F__law_is_chapter : FT := ⟨fun ds n Q => ∃ ts : List D, ds = [.tup ts] ∧ (∀ t ∈ ts, GTok t) ∧ ts.length ≤ 2000 ∧ Q (.bl (okR [] ts)) n, fun ds n P P' h ⟨ts, e, k, l, q⟩ => ⟨ts, e, k, l, h _ _ q⟩⟩
def F__law_node : FT := ⟨fun ds n Q => ∃ (ts : List D) (i : Nat) (t : D), ds = [.tup ts, .int i] ∧ Chap ts ∧ ts.length ≤ 2000 ∧ ts[i]? = some t ∧ (wordD t = "open" ∨ wordD t = "close") ∧ ∀ (lo hi : Nat) (y : Str), lo < hi → hi < ts.length → ts[lo]? = some (.tup [.str "open", .str y]) → Q (.tup [.int lo, .int hi]) n, fun ds n P P' h ⟨ts, i, t, e, k1, k2, k3, k4, q⟩ => ⟨ts, i, t, e, k1, k2, k3, k4, fun lo hi y a b c => h _ _ (q lo hi y a b c)⟩⟩
def F__law_glyph_near : FT := fDr 50 (fun ds => ∃ (ts : List D) (i : Nat) (t : D) (a b c : Str), ds = [.drw, .tup ts, .int i, idsD [a, b, c]] ∧ (∀ t ∈ ts, GTok t) ∧ ts.length ≤ 200 ∧ ts[i]? = some t ∧ Glyph t ∧ GId a ∧ GId b ∧ GId c)
  (fun ds d => ∃ (ts : List D) (x y : D) (ts' : List D), ds = [.drw, .tup ts, x, y] ∧ d = .tup ts' ∧ (∀ t ∈ ts', GTok t) ∧ ts'.length ≤ ts.length + 2)
def F__law_node_near : FT := fDr 10 (fun ds => ∃ (ts : List D) (i : Nat) (t : D), ds = [.drw, .tup ts, .int i] ∧ Chap ts ∧ ts.length ≤ 200 ∧ ts[i]? = some t ∧ (wordD t = "open" ∨ wordD t = "close"))
  (fun ds d => ∃ (ts : List D) (x : D) (ts' : List D), ds = [.drw, .tup ts, x] ∧ d = .tup ts' ∧ (∀ t ∈ ts', GTok t) ∧ ts'.length ≤ ts.length + 2)
def F__law_near : FT := fDr 1000 (fun ds => ∃ (ts : List D) (a b c : Str) (k : Nat), ds = [.drw, .tup ts, idsD [a, b, c], .int k] ∧ Chap ts ∧ ts.length ≤ 100 ∧ GId a ∧ GId b ∧ GId c ∧ k ≤ 10) (fun _ d => ∃ ts', d = .tup ts' ∧ Chap ts' ∧ ts'.length ≤ 110)
def F__law_two : FT := fDr 20000 (fun ds => ∃ most : Nat, ds = [.drw, .int most] ∧ most ≤ 100) (fun _ d => ∃ xs ys, d = .tup [.tup xs, .tup ys] ∧ Chap xs ∧ Chap ys ∧ xs.length ≤ 110 ∧ ys.length ≤ 110)
def stepI (a b : D) : Int := match cost1 a b with
  | some c => (c : Int)
  | none => 2
def F__law_step : FT := ⟨fun ds n Q => ∃ a b : D, ds = [a, b] ∧ GTok a ∧ GTok b ∧ Q (.int (stepI a b)) n, fun ds n P P' h ⟨a, b, e, k, l, q⟩ => ⟨a, b, e, k, l, h _ _ q⟩⟩
def F__law_table : FT := ⟨fun ds n Q => ∃ xs ys : List D, ds = [.tup xs, .tup ys] ∧ (∀ t ∈ xs, GTok t) ∧ (∀ t ∈ ys, GTok t) ∧ xs.length ≤ 300 ∧ ys.length ≤ 300 ∧ Q (tabD xs ys) n, fun ds n P P' h ⟨a, b, e, k, l, k2, l2, q⟩ => ⟨a, b, e, k, l, k2, l2, h _ _ q⟩⟩
def F__law_whole : FT := ⟨fun ds n Q => ∃ i : Int, ds = [.int i] ∧ Q (.bl true) n, fun ds n P P' h ⟨a, e, q⟩ => ⟨a, e, h _ _ q⟩⟩
def F__law_right : FT := ⟨fun ds n Q => ∃ xs ys : List D, ds = [.tup xs, .tup ys] ∧ Chap xs ∧ Chap ys ∧ xs.length ≤ 300 ∧ ys.length ≤ 300 ∧ Q (.bl true) n, fun ds n P P' h ⟨a, b, e, k, l, k2, l2, q⟩ => ⟨a, b, e, k, l, k2, l2, h _ _ q⟩⟩
theorem ids_ok {a : List Str} (h : ∀ z ∈ a, GId z) : ∀ z ∈ a, PyData.strOk z = true := fun z hz => (id_spec (h z hz)).2.1.1
theorem cEq_strs {a : List Str} (h : ∀ z ∈ a, PyData.strOk z = true) : cEq (.lst (a.map .str)) (.lst []) := .inr ⟨shp_lstS a h, shp_lstS [] (fun z hz => nomatch hz)⟩
/-- a drawn name -/
theorem pick_str {a : List Str} {r : Int} {Q : D → Prop} {P : Str → Prop} (h0 : 0 ≤ r) (h1 : r < ((a.map D.str).length : Int)) (h : ∀ z ∈ a, P z) (q : ∀ z, P z → Q (.str z)) : get (atI (a.map D.str) r) Q :=
  pick_of (P := fun d => ∃ z, d = .str z ∧ P z) h0 h1 (fun x hx => by
    obtain ⟨z, hz, rfl⟩ := List.mem_map.mp hx
    exact ⟨z, rfl, h z hz⟩) fun x ⟨z, e, hz⟩ => by
    subst e
    exact q z hz
theorem seq_cut {A B : WS} {E : ED} {s : S} (J : S → Prop) (hJ : ∀ s', J s' → B.f E s') (hA : A.f { nx := J, rt := E.rt, bk := E.bk, ct := E.ct } s) : (wSeq A B).f E s :=
  A.mono { nx := J, rt := E.rt, bk := E.bk, ct := E.ct } { nx := B.f E, rt := E.rt, bk := E.bk, ct := E.ct } s (ED.Le.mk hJ (fun _ _ h => h) (fun _ h => h) (fun _ h => h)) hA
theorem at_last : ∀ ks : List D, ks ≠ [] → atI ks (-1) = ks.getLast?
  | [], h => absurd rfl h
  | a :: l, _ => by
    have hl : (0 : Int) < ((a :: l).length : Int) := by simp only [List.length_cons]; omega
    unfold atI ixN
    rw [if_neg (by omega), if_pos (by omega)]
    simp only [Option.bind_some]
    rw [List.getLast?_eq_getElem?]
    congr 1
    omega
theorem eq_ks0 (z : Str) (a : List Str) : eqD (.lst (.str z :: a.map .str)) (.lst []) = false := eqD_nil (z :: a)
theorem eq_ks1 : eqD (.lst []) (.lst []) = true := by decide +kernel
theorem kinds_ok {ks : List Str} (h : ∀ y ∈ ks, GKind y) : ∀ z ∈ ks, PyData.strOk z = true := fun z hz => (kind_spec (h z hz)).2.1.1
theorem last_map (ks : List Str) : (ks.map D.str).getLast? = ks.getLast?.map D.str := List.getLast?_map
theorem cutL_take {α : Type} (l : List α) (j : Nat) : cutL l none (some (j : Int)) = l.take j := by
  have h := cutL_nat l 0 j
  have e : cutL l none (some (j : Int)) = cutL l (some ((0 : Nat) : Int)) (some (j : Int)) := by
    unfold cutL HT.sIx
    simp
  rw [e, h, List.drop_zero, Nat.sub_zero]
theorem cutL_drop {α : Type} (l : List α) (j : Nat) : cutL l (some (j : Int)) none = l.drop j := by
  have h := cutL_nat l j l.length
  have e : cutL l (some (j : Int)) none = cutL l (some (j : Int)) (some ((l.length : Nat) : Int)) := by
    unfold cutL
    rw [show HT.sIx l.length l.length none = l.length from rfl, sIx_nat l.length l.length l.length, Nat.min_self]
  rw [e, h, List.take_of_length_le (by rw [List.length_drop]; omega)]
def sgD (c : Nat) : D := .str ⟨#[c]⟩
theorem fold_sg : ∀ (cs : List Nat) (a : Array Nat), List.foldl (fun acc (p : Str) => acc ++ ("" : Str).cps ++ p.cps) a (cs.map fun c => (⟨#[c]⟩ : Str)) = a ++ cs.toArray
  | [], a => by simp
  | c :: cs, a => by
    have e : ("" : Str).cps = #[] := by decide +kernel
    rw [List.map_cons, List.foldl_cons, fold_sg cs, e]
    simp
theorem join_sg (cs : List Nat) : Txt.join "" (cs.map fun c => (⟨#[c]⟩ : Str)) = ⟨cs.toArray⟩ := by
  unfold Txt.join Builtin.Str.glued
  cases cs with
  | nil => decide +kernel
  | cons c cs =>
    show (⟨List.foldl (fun acc (p : Str) => acc ++ ("" : Str).cps ++ p.cps) #[c] (cs.map fun c => (⟨#[c]⟩ : Str))⟩ : Str) = _
    rw [fold_sg]
    simp
/-! ### a drawn chapter -/
def clsD (y : D) : D := .tup [.str "close", y]
theorem okR_closeR : ∀ rs : List Str, okR rs.reverse ((rs.map D.str).map clsD) = true
  | [] => rfl
  | y :: rs => by
    rw [List.reverse_cons]
    show okR (rs.reverse ++ [y]) (clsD (.str y) :: ((rs.map D.str).map clsD)) = true
    simp only [okR, clsD, wordD, nameD, if_true, List.getLast?_concat, List.dropLast_concat, decide_true, Bool.true_and]
    exact okR_closeR rs
theorem okR_close (ks : List Str) : okR ks ((ks.map D.str).reverse.map clsD) = true := by
  have h := okR_closeR ks.reverse
  rw [List.reverse_reverse] at h
  rw [← List.map_reverse]
  exact h
/-- found leads from no open kinds to ks -/
def Leads (fs : List D) (ks : List Str) : Prop := ∀ rest, okR [] (fs ++ rest) = okR ks rest
theorem leads_nil : Leads [] [] := fun rest => rfl
theorem leads_push {fs : List D} {ks ks' : List Str} {t : D} (h : Leads fs ks) (k : ∀ rest, okR ks (t :: rest) = okR ks' rest) : Leads (fs ++ [t]) ks' := fun rest => by
  rw [List.append_assoc, h]
  exact k rest
theorem okR_cls {ks : List Str} {y : Str} (rest : List D) : okR (ks ++ [y]) (.tup [.str "close", .str y] :: rest) = okR ks rest := by
  simp only [okR, wordD, nameD, if_true, List.getLast?_concat, List.dropLast_concat, decide_true, Bool.true_and]
theorem okR_glyph {ks : List Str} {y : Str} {t : D} (hy : y ∈ lines) (ht : Glyph t) (rest : List D) : okR (ks ++ [y]) (t :: rest) = okR (ks ++ [y]) rest := by
  simp only [okR, ht.2.1, ht.2.2, if_false, List.getLast?_concat, Option.any_some, hy, decide_true, Bool.true_and]
theorem okR_open {ks : List Str} {y : Str} (h1 : (ks.getLast?.any fun y => decide (y ∈ lines)) = false) (h2 : y = "item" ↔ ks.getLast? = some ("list" : Str)) (h3 : ks.length ≠ 12) (rest : List D) : okR ks (.tup [.str "open", .str y] :: rest) = okR (ks ++ [y]) rest := by
  have e : (("open" : Str) = "close") = False := by decide +kernel
  simp only [okR, wordD, nameD, e, if_false, if_true, h1, h3, h2, Bool.not_false, Bool.true_and, beq_self_eq_true, ne_eq, not_false_eq_true, decide_true]
theorem in_ln (y : Str) : inD (.str y) [.str "para", .str "head1", .str "head2", .str "head3"] = decide (y ∈ lines) := by
  rw [show [D.str "para", .str "head1", .str "head2", .str "head3"] = (["para", "head1", "head2", "head3"] : List Str).map D.str from rfl, inD_strs]
  refine decide_eq_decide.mpr ?_
  unfold lines
  simp only [List.mem_cons, List.not_mem_nil, or_false]
  constructor
  · rintro (h | h | h | h) <;> simp [h]
  · rintro (h | h | h | h) <;> simp [h]
theorem cEq_strs' {a : List D} {ks : List Str} (h : ∀ z ∈ ks, PyData.strOk z = true) (e : a = ks.map .str) : cEq (.lst a) (.lst []) := e ▸ cEq_strs h
theorem eq_kat (ks : List Str) (y : Str) : eqD (.lst (ks.map D.str ++ [.str y])) (.lst []) = false := by
  have h := eqD_nil (ks ++ [y])
  rw [List.map_append] at h
  rw [show [D.str y] = [y].map D.str from rfl, h]
  cases ks <;> rfl
theorem at_kat (ks : List D) (y : D) : atI (ks ++ [y]) (-1) = some y := by
  rw [at_last _ (by simp), List.getLast?_concat]
theorem gIn_ln (y : Str) : gIn (.str y) (.tup [.str "para", .str "head1", .str "head2", .str "head3"]) = some (.bl (decide (y ∈ lines))) := by
  rw [← in_ln]
  rfl
theorem pop_kat (l : List D) (y : D) : (l ++ [y])[(l ++ [y]).length - 1]? = some y := by
  rw [List.length_append, List.length_singleton, Nat.add_sub_cancel, List.getElem?_append_right (Nat.le_refl _)]
  simp
theorem eqD_strs (a b : List Str) : eqD (.lst (a.map .str)) (.lst (b.map .str)) = decide (a = b) := by
  unfold eqD
  simp only [toPy, PyData.eqv, eqA_strs]
theorem okR_cls0 (y : Str) (rest : List D) : okR [] (.tup [.str "close", .str y] :: rest) = false := by
  simp [okR, wordD]
theorem okR_clsn {kl : List Str} {z y : Str} (h : z ≠ y) (rest : List D) : okR (kl ++ [z]) (.tup [.str "close", .str y] :: rest) = false := by
  have e : ¬ some z = some y := fun e => h (Option.some.inj e)
  simp only [okR, wordD, nameD, if_true, List.getLast?_concat, e, decide_false, Bool.false_and]
theorem okR_opnE (ks : List Str) (y : Str) (rest : List D) : okR ks (.tup [.str "open", .str y] :: rest) = (!(ks.getLast?.any fun y => decide (y ∈ lines)) && (decide (y = "item") == decide (ks.getLast? = some ("list" : Str))) && decide (ks.length ≠ 12) && okR (ks ++ [y]) rest) := by
  have e : ¬ (("open" : Str) = "close") := by decide +kernel
  rw [okR, show wordD (.tup [.str "open", .str y]) = "open" from rfl, if_neg e, if_pos rfl]
  rfl
theorem okR_opn0 (y : Str) (rest : List D) : okR [] (.tup [.str "open", .str y] :: rest) = (!decide (y = "item") && okR [y] rest) := by
  rw [okR_opnE, show decide (([] : List Str).getLast? = some ("list" : Str)) = false from rfl]
  cases decide (y = "item") <;> rfl
theorem okR_opns (kl : List Str) (z y : Str) (rest : List D) : okR (kl ++ [z]) (.tup [.str "open", .str y] :: rest) = (!decide (z ∈ lines) && (decide (y = "item") == decide (z = "list")) && decide (kl.length + 1 ≠ 12) && okR (kl ++ [z] ++ [y]) rest) := by
  have e2 : decide ((kl ++ [z]).getLast? = some ("list" : Str)) = decide (z = "list") := decide_eq_decide.mpr (by rw [List.getLast?_concat]; exact ⟨Option.some.inj, fun h => congrArg some h⟩)
  rw [okR_opnE, e2, List.getLast?_concat, List.length_append]
  rfl
theorem okR_gl0 {t : D} (h : Glyph t) (rest : List D) : okR [] (t :: rest) = false := by
  simp [okR, h.2.1, h.2.2]
theorem okR_gls (kl : List Str) (z : Str) {t : D} (h : Glyph t) (rest : List D) : okR (kl ++ [z]) (t :: rest) = (decide (z ∈ lines) && okR (kl ++ [z]) rest) := by
  simp only [okR, h.2.1, h.2.2, if_false, List.getLast?_concat, Option.any_some]
theorem kind_top {y : Str} (h : GKind y) : ("top" : Str) ≠ y := by
  have e : ∀ y ∈ boxes ++ lines, ("top" : Str) ≠ y := by decide +kernel
  exact e y (List.mem_append.mpr h)
theorem drop_at {α : Type} {xs : List α} {i : Nat} {d : α} (h : xs[i]? = some d) : xs.drop i = d :: xs.drop (i + 1) := by
  obtain ⟨hi, e⟩ := List.getElem?_eq_some_iff.mp h
  rw [List.drop_eq_getElem_cons hi, e]
theorem line_100 {k : Nat} (h : k ≤ 1000) : k < sizeLine := Nat.lt_of_lt_of_le (show k < 1001 by omega) (by decide)
theorem nodes_split (ks : List Str) : ∃ (wl : List D) (z : Str), (("top" : Str) :: ks).map D.str = wl ++ [.str z] ∧ wl.length = ks.length ∧ (∀ y rest, okR ks (.tup [.str "open", .str y] :: rest) = (!decide (z ∈ lines) && (decide (y = "item") == decide (z = "list")) && decide (ks.length ≠ 12) && okR (ks ++ [y]) rest)) ∧ (∀ t, Glyph t → ∀ rest, okR ks (t :: rest) = (decide (z ∈ lines) && okR ks rest)) := by
  rcases List.eq_nil_or_concat ks with rfl | ⟨kl, z, ec⟩
  · have e1 : decide (("top" : Str) ∈ lines) = false := by decide +kernel
    have e2 : decide (("top" : Str) = "list") = false := by decide +kernel
    refine ⟨[], "top", rfl, rfl, fun y rest => ?_, fun t ht rest => ?_⟩
    · rw [okR_opn0, e1, e2]
      cases decide (y = "item") <;> rfl
    · rw [okR_gl0 ht, e1]
      rfl
  · rw [List.concat_eq_append] at ec
    subst ec
    refine ⟨(("top" : Str) :: kl).map D.str, z, by rw [← List.cons_append, List.map_append]; rfl, by simp, fun y rest => ?_, fun t ht rest => okR_gls kl z ht rest⟩
    rw [okR_opns, List.length_append]
    rfl
/-! ### what stands open in front of a place -/
def dep1 (t : D) : Int := if wordD t = "open" then 1 else if wordD t = "close" then -1 else 0
def balT : List D → Int
  | [] => 0
  | t :: ts => dep1 t + balT ts
theorem balT_app : ∀ a b : List D, balT (a ++ b) = balT a + balT b
  | [], b => by simp [balT]
  | t :: a, b => by
    simp only [List.cons_append, balT, balT_app a b]
    omega
theorem okR_bal : ∀ {ts : List D} {ks : List Str}, okR ks ts = true → (ks.length : Int) + balT ts = 0 ∧ ∀ i, i ≤ ts.length → 0 ≤ (ks.length : Int) + balT (ts.take i)
  | [], ks, h => by
    simp only [okR, List.isEmpty_iff] at h
    subst h
    refine ⟨rfl, fun i _ => ?_⟩
    rw [List.take_nil]
    exact Int.le_refl _
  | t :: ts, ks, h => by
    have ece : ¬ (("close" : Str) = "open") := by decide +kernel
    have step : ∃ ks', okR ks' ts = true ∧ (ks'.length : Int) = ks.length + dep1 t := by
      rw [okR] at h
      split at h
      · rename_i hw
        simp only [Bool.and_eq_true, decide_eq_true_eq] at h
        refine ⟨_, h.2, ?_⟩
        unfold dep1
        rw [hw, if_neg ece, if_pos rfl, List.length_dropLast]
        cases ks with
        | nil => simp at h
        | cons a l => simp only [List.length_cons]; omega
      · rename_i hw
        split at h
        · rename_i hw2
          simp only [Bool.and_eq_true] at h
          refine ⟨_, h.2, ?_⟩
          unfold dep1
          rw [if_pos hw2, List.length_append]
          rfl
        · rename_i hw2
          simp only [Bool.and_eq_true] at h
          refine ⟨_, h.2, ?_⟩
          unfold dep1
          rw [if_neg hw2, if_neg hw]
          omega
    obtain ⟨ks', h1, h2⟩ := step
    obtain ⟨b1, b2⟩ := okR_bal h1
    refine ⟨by simp only [balT]; omega, fun i hi => ?_⟩
    cases i with
    | zero => simp [balT]
    | succ i =>
      have := b2 i (by simpa using hi)
      simp only [List.take_succ_cons, balT]
      omega
/-- the depth in front of the j-th token -/
def dAt (ts : List D) (j : Nat) : Int := balT (ts.take j)
theorem dAt_succ {ts : List D} {j : Nat} {t : D} (h : ts[j]? = some t) : dAt ts (j + 1) = dAt ts j + dep1 t := by
  obtain ⟨hj, e⟩ := List.getElem?_eq_some_iff.mp h
  unfold dAt
  rw [List.take_succ_eq_append_getElem hj, e, balT_app]
  simp [balT]
theorem dAt_zero (ts : List D) : dAt ts 0 = 0 := rfl
theorem Chap.dAt_nonneg {ts : List D} (h : Chap ts) {j : Nat} (hj : j ≤ ts.length) : 0 ≤ dAt ts j := by
  have := (okR_bal h.r).2 j hj
  unfold dAt
  simpa using this
theorem Chap.dAt_end {ts : List D} (h : Chap ts) : dAt ts ts.length = 0 := by
  have := (okR_bal h.r).1
  unfold dAt
  rw [List.take_length]
  simpa using this
theorem GTok.first {t : D} (h : GTok t) : ∃ w es, t = .tup (.str w :: es) := by
  cases h <;> exact ⟨_, _, rfl⟩
theorem word_first (w : Str) (es : List D) : wordD (.tup (.str w :: es)) = w := rfl
theorem gIn_oc (w : Str) : gIn (.str w) (.tup [.str "open", .str "close"]) = some (.bl (decide (w = "open" ∨ w = "close"))) := by
  show some (D.bl (inD (.str w) ((["open", "close"] : List Str).map D.str))) = _
  rw [inD_strs]
  congr 2
  exact decide_eq_decide.mpr (by simp)
theorem gNin_oc (w : Str) : gNin (.str w) (.tup [.str "open", .str "close"]) = some (.bl (!decide (w = "open" ∨ w = "close"))) := by
  show some (D.bl (!inD (.str w) ((["open", "close"] : List Str).map D.str))) = _
  rw [inD_strs]
  congr 3
  exact decide_eq_decide.mpr (by simp)
theorem all_cut {P : D → Prop} {ts : List D} (h : ∀ t ∈ ts, P t) (lo hi : Option Int) : ∀ t ∈ cutL ts lo hi, P t := fun t ht => h t (cutL_mem ht)
theorem all_app {P : D → Prop} {a b : List D} (h : ∀ t ∈ a, P t) (k : ∀ t ∈ b, P t) : ∀ t ∈ a ++ b, P t := fun t ht => (List.mem_append.mp ht).elim (h t) (k t)
theorem all_one {P : D → Prop} {t : D} (h : P t) : ∀ x ∈ [t], P x := fun x hx => by
  rw [List.mem_singleton.mp hx]
  exact h
theorem all_two {P : D → Prop} {t u : D} (h : P t) (k : P u) : ∀ x ∈ [t, u], P x := fun x hx => by
  simp only [List.mem_cons, List.not_mem_nil, or_false] at hx
  rcases hx with rfl | rfl
  · exact h
  · exact k
theorem GTok.opn_inv {es : List D} (h : GTok (.tup (.str "open" :: es))) : ∃ y, es = [.str y] ∧ GKind y := by
  generalize e : D.tup (.str "open" :: es) = t at h
  cases h with
  | opn y g =>
    cases e
    exact ⟨y, rfl, g⟩
  | cls y g =>
    have := D.str.inj (List.cons.inj (D.tup.inj e)).1
    exact absurd this (by decide +kernel)
  | char c ss l a b d =>
    have := D.str.inj (List.cons.inj (D.tup.inj e)).1
    exact absurd this (by decide +kernel)
  | anc y g =>
    have := D.str.inj (List.cons.inj (D.tup.inj e)).1
    exact absurd this (by decide +kernel)
  | img y g =>
    have := D.str.inj (List.cons.inj (D.tup.inj e)).1
    exact absurd this (by decide +kernel)
def bxL : List (Str × Str) := [("section", "quote"), ("quote", "section"), ("list", "list"), ("item", "item")]
/-- another kind for a node -/
theorem other_kind {y : Str} (hy : GKind y) {r : Int} (h0 : 0 ≤ r) (h1 : r < 4) : ∃ z : Str, (dGet (bxL.map fun q => Sum.inr q.1) (bxL.map fun q => D.str q.2) (Sum.inr y)).getD (.str ("head" ++ Str.ofString (toString r))) = .str z ∧ (z ≠ "head0" → GKind z) ∧ z.length ≤ 10 ∧ okZ z := by
  have e : ∀ y ∈ boxes ++ lines, (dGet (bxL.map fun q => Sum.inr q.1) (bxL.map fun q => D.str q.2) (Sum.inr y) = none) ∨ ∃ z ∈ boxes, dGet (bxL.map fun q => Sum.inr q.1) (bxL.map fun q => D.str q.2) (Sum.inr y) = some (D.str z) := by
    intro y hy
    simp only [boxes, lines, List.cons_append, List.nil_append, List.mem_cons, List.not_mem_nil, or_false] at hy
    rcases hy with rfl | rfl | rfl | rfl | rfl | rfl | rfl | rfl
    · exact .inr ⟨"quote", by decide +kernel, rfl⟩
    · exact .inr ⟨"section", by decide +kernel, rfl⟩
    · exact .inr ⟨"list", by decide +kernel, rfl⟩
    · exact .inr ⟨"item", by decide +kernel, rfl⟩
    all_goals exact .inl rfl
  rcases e y (List.mem_append.mpr hy) with h | ⟨z, hz, h⟩
  · rw [h]
    rcases (show r = 0 ∨ r = 1 ∨ r = 2 ∨ r = 3 by omega) with rfl | rfl | rfl | rfl
    · exact ⟨_, rfl, fun h => absurd (show ("head" : Str) ++ Str.ofString (toString (0 : Int)) = "head0" by decide +kernel) h, by decide +kernel, by decide +kernel⟩
    · exact ⟨_, rfl, fun _ => by decide +kernel, by decide +kernel, by decide +kernel⟩
    · exact ⟨_, rfl, fun _ => by decide +kernel, by decide +kernel, by decide +kernel⟩
    · exact ⟨_, rfl, fun _ => by decide +kernel, by decide +kernel, by decide +kernel⟩
  · rw [h]
    obtain ⟨s1, s2, _⟩ := kind_spec (.inl hz)
    exact ⟨z, rfl, fun _ => .inl hz, by omega, s2⟩
theorem digit_small {r : Int} (h0 : 0 ≤ r) (h1 : r < 4) : r.natAbs.log2 < 1920 ∧ ("head" : Str).length + (Str.ofString (toString r)).length ≤ sizeLine := by
  rcases (show r = 0 ∨ r = 1 ∨ r = 2 ∨ r = 3 by omega) with rfl | rfl | rfl | rfl
  all_goals exact ⟨by decide +kernel, by decide +kernel⟩
/-! ### shapes -/
structure Tame (k : Nat) (d : D) : Prop where
  p : DI.plain d = true
  c : PyData.canLay0 (toPy d) = true
  d : PyData.depth (toPy d) ≤ k
theorem tames_all {k : Nat} : ∀ {ts : List D}, (∀ t ∈ ts, Tame k t) → plainA ts = true ∧ PyData.canLayAll0 (toPyA ts) = true ∧ PyData.depthAll (toPyA ts) ≤ k
  | [], _ => ⟨rfl, by simp only [toPyA, PyData.canLayAll0], by simp only [toPyA, PyData.depthAll]; omega⟩
  | t :: ts, h => by
    obtain ⟨h1, h2, h3⟩ := h t List.mem_cons_self
    obtain ⟨k1, k2, k3⟩ := tames_all fun x hx => h x (List.mem_cons_of_mem _ hx)
    refine ⟨by simp only [plainA, h1, k1, Bool.true_and], by simp only [toPyA, PyData.canLayAll0, h2, k2, Bool.true_and], ?_⟩
    simp only [toPyA, PyData.depthAll]
    omega
theorem tame_tup {k : Nat} {ts : List D} (h : ∀ t ∈ ts, Tame k t) : Tame (k + 1) (.tup ts) := by
  obtain ⟨h1, h2, h3⟩ := tames_all h
  refine ⟨by simp only [DI.plain, h1], by simp only [toPy, PyData.canLay0, h2], ?_⟩
  simp only [toPy, PyData.depth]
  omega
theorem tame_lst {k : Nat} {ts : List D} (h : ∀ t ∈ ts, Tame k t) : Tame (k + 1) (.lst ts) := by
  obtain ⟨h1, h2, h3⟩ := tames_all h
  refine ⟨by simp only [DI.plain, h1], by simp only [toPy, PyData.canLay0, h2], ?_⟩
  simp only [toPy, PyData.depth]
  omega
theorem tame_shp {k : Nat} {d : D} (h : Tame k d) (hk : k ≤ 30) : shp d := by
  refine ⟨h.p, ?_⟩
  unfold SeqAt.shaped
  have := h.d
  simp only [h.c, Bool.true_and, decide_eq_true_eq]
  omega
theorem tame_str {z : Str} (h : PyData.strOk z = true) : Tame 0 (.str z) := ⟨rfl, by simp only [toPy, PyData.canLay0, h], by simp only [toPy, PyData.depth]; omega⟩
theorem tame_non : Tame 0 .non := ⟨rfl, by simp only [toPy, PyData.canLay0], by simp only [toPy, PyData.depth]; omega⟩
theorem tame_int (i : Int) : Tame 0 (.int i) := ⟨rfl, by simp only [toPy, PyData.canLay0], by simp only [toPy, PyData.depth]; omega⟩
theorem tame_up {k k' : Nat} {d : D} (h : Tame k d) (hk : k ≤ k') : Tame k' d := ⟨h.p, h.c, Nat.le_trans h.d hk⟩
theorem tame_two {x y : Str} (hx : PyData.strOk x = true) (hy : PyData.strOk y = true) : Tame 2 (.tup [.str x, .str y]) := tame_tup fun t ht => tame_up (by
  simp only [List.mem_cons, List.not_mem_nil, or_false] at ht
  rcases ht with rfl | rfl
  · exact tame_str hx
  · exact tame_str hy) (Nat.zero_le 1)
theorem GTok.tame {t : D} (h : GTok t) : Tame 2 t := by
  cases h with
  | char c zs l h1 h2 h3 =>
    refine tame_tup fun t ht => ?_
    simp only [List.mem_cons, List.not_mem_nil, or_false] at ht
    rcases ht with rfl | rfl | rfl | rfl
    · exact tame_up (tame_str (by decide +kernel)) (Nat.zero_le 1)
    · exact tame_up (tame_str (plC_ok h1).1) (Nat.zero_le 1)
    · exact tame_tup fun t ht => by
        obtain ⟨z, hz, rfl⟩ := List.mem_map.mp ht
        exact tame_str ((rows_spec h2).2 z hz)
    · rcases h3 with rfl | ⟨z, rfl, _, _, hz⟩
      · exact tame_up tame_non (Nat.zero_le 1)
      · exact tame_up (tame_str hz.1) (Nat.zero_le 1)
  | opn y h => exact tame_two (by decide +kernel) (kind_spec h).2.1.1
  | cls y h => exact tame_two (by decide +kernel) (kind_spec h).2.1.1
  | anc y h => exact tame_two (by decide +kernel) (id_spec h).2.1.1
  | img y h => exact tame_two (by decide +kernel) (id_spec h).2.1.1
theorem shp_toks {ts : List D} (h : ∀ t ∈ ts, GTok t) : shp (.tup ts) := tame_shp (tame_tup fun t ht => (h t ht).tame) (by decide)
theorem cEq_toks {ts : List D} (h : ∀ t ∈ ts, GTok t) : cEq (.tup ts) (.tup []) := .inr ⟨shp_toks h, shp_toks fun _ h => nomatch h⟩
theorem eq_tok0 : eqD (.tup []) (.tup []) = true := by decide +kernel
theorem eq_toks (t : D) (ts : List D) : eqD (.tup (t :: ts)) (.tup []) = false := by
  unfold eqD
  simp [toPy, toPyA, PyData.eqv, PyData.eqvAll]
theorem GTok.form {t : D} (h : GTok t) : (∃ c l s, t = .tup [.str "char", .str ⟨#[c]⟩, s, l]) ∨ ∃ w z, t = .tup [.str w, .str z] ∧ w ≠ "char" ∧ ((w = "open" ∨ w = "close") ∧ ¬ (w = "anchor" ∨ w = "image") ∧ GKind z ∨ (w = "anchor" ∨ w = "image") ∧ ¬ (w = "open" ∨ w = "close")) := by
  cases h with
  | char c zs l a b d => exact .inl ⟨_, _, _, rfl⟩
  | opn y g => exact .inr ⟨_, _, rfl, by decide +kernel, .inl ⟨.inl rfl, by decide +kernel, g⟩⟩
  | cls y g => exact .inr ⟨_, _, rfl, by decide +kernel, .inl ⟨.inr rfl, by decide +kernel, g⟩⟩
  | anc y g => exact .inr ⟨_, _, rfl, by decide +kernel, .inr ⟨.inl rfl, by decide +kernel⟩⟩
  | img y g => exact .inr ⟨_, _, rfl, by decide +kernel, .inr ⟨.inr rfl, by decide +kernel⟩⟩
theorem gIn_ai (w : Str) : gIn (.str w) (.tup [.str "anchor", .str "image"]) = some (.bl (decide (w = "anchor" ∨ w = "image"))) := by
  show some (D.bl (inD (.str w) ((["anchor", "image"] : List Str).map D.str))) = _
  rw [inD_strs]
  congr 2
  exact decide_eq_decide.mpr (by simp)
theorem gIn_bx (w : Str) : gIn (.str w) (.tup [.str "section", .str "quote", .str "list", .str "item"]) = some (.bl (decide (w ∈ boxes))) := by
  show some (D.bl (inD (.str w) (boxes.map D.str))) = _
  rw [inD_strs]
theorem kind_box {y z : Str} (hy : GKind y) (hz : GKind z) : eqD (kindD (.str y)) (kindD (.str z)) = (decide (y ∈ boxes) == decide (z ∈ boxes)) := by
  have e : ∀ y ∈ boxes ++ lines, ∀ z ∈ boxes ++ lines, eqD (kindD (.str y)) (kindD (.str z)) = (decide (y ∈ boxes) == decide (z ∈ boxes)) := by decide +kernel
  exact e y (List.mem_append.mpr hy) z (List.mem_append.mpr hz)
/-! ### the law's table -/
/-- a row by the law: 2 where there is no step -/
def lawUp (t : D) : List D → List Int → List Int
  | [], b :: _ => [b + 1]
  | o :: os, b :: bs =>
    let r := lawUp t os bs
    let x0 := bs.headD 0 + stepI t o
    let x1 := if b + 1 < x0 then b + 1 else x0
    let x2 := if r.headD 0 + 1 < x1 then r.headD 0 + 1 else x1
    x2 :: r
  | _, [] => []
/-- each is at most one more than the next -/
def near : List Int → Prop
  | a :: b :: l => a ≤ b + 1 ∧ near (b :: l)
  | _ => True
theorem near_tail {a : Int} {l : List Int} (h : near (a :: l)) : near l := by
  cases l with
  | nil => trivial
  | cons b l => exact h.2
theorem near_cons {a : Int} {l : List Int} (h : near l) (k : ∀ b l', l = b :: l' → a ≤ b + 1) : near (a :: l) := by
  cases l with
  | nil => trivial
  | cons b l => exact ⟨k b l rfl, h⟩
theorem lawUp_eq (t : D) : ∀ {os : List D} {bs : List Int}, bs.length = os.length + 1 → near bs → rowUp t os bs = lawUp t os bs ∧ near (lawUp t os bs)
  | [], b :: bs, _, _ => ⟨rfl, trivial⟩
  | o :: os, b :: bs, h, hn => by
    obtain ⟨e1, e2⟩ := lawUp_eq t (os := os) (bs := bs) (by simpa using h) (near_tail hn)
    have hb : b ≤ bs.headD 0 + 1 := by
      cases bs with
      | nil => simp at h
      | cons c bs => exact hn.1
    simp only [rowUp, lawUp, e1]
    generalize lawUp t os bs = r at *
    generalize bs.headD 0 = c at *
    generalize hr : r.headD 0 = d
    refine ⟨?_, near_cons e2 fun b' l' e => ?_⟩
    · congr 1
      unfold stepI
      cases cost1 t o with
      | none =>
        simp only
        (repeat' split) <;> omega
      | some c' =>
        simp only
        (repeat' split) <;> omega
    · subst e
      simp only [List.headD_cons] at hr
      subst hr
      split <;> omega
  | [], [], h, _ => by cases h
  | o :: os, [], h, _ => by cases h
theorem near_base : ∀ ys : List D, near (baseR ys)
  | [] => trivial
  | y :: ys => near_cons (near_base ys) fun b l e => by
    cases ys with
    | nil =>
      cases e
      simp
    | cons y' ys =>
      have := (List.cons.inj e).1
      simp only [List.length_cons]
      omega
theorem baseR_len' : ∀ ys : List D, (baseR ys).length = ys.length + 1
  | [] => rfl
  | y :: ys => by rw [baseR, List.length_cons, baseR_len' ys, List.length_cons]
theorem tab_near (ys : List D) : ∀ xs : List D, ∃ r T, tabUp xs ys = r :: T ∧ r.length = ys.length + 1 ∧ near r
  | [] => ⟨_, _, rfl, baseR_len' ys, near_base ys⟩
  | x :: xs => by
    obtain ⟨r, T, e, h, hn⟩ := tab_near ys xs
    refine ⟨_, _, rfl, ?_, ?_⟩
    · rw [e]
      exact rowUp_len h
    · rw [e]
      have := lawUp_eq x (os := ys) (bs := r) h hn
      rw [show ((r :: T).headD []) = r from rfl, this.1]
      exact this.2
theorem for_nil {g : D → List Sl → Option (List Sl)} {tb : WS} {E : ED} {s : S} : forW g tb E [] s = E.nx s := rfl
theorem for_cons {g : D → List Sl → Option (List Sl)} {tb : WS} {E : ED} {d : D} {ds : List D} {s : S} : forW g tb E (d :: ds) s = DI.get (g d s.env) fun env' => tb.f { nx := forW g tb E ds, rt := E.rt, bk := E.nx, ct := forW g tb E ds } { s with env := env' } := rfl
/-! ### k03: the law's own going -/
def inK (ks : List Str) : Str := (ks.getLast?).getD ""
/-- the open kinds behind a token -/
def ks1 (ks : List Str) (t : D) : List Str := if wordD t = "open" then ks ++ [nameD t] else if wordD t = "close" then ks.dropLast else ks
def okTk (ks : List Str) (t : D) : Bool :=
  if wordD t = "open" then !decide (inK ks ∈ lines) && decide (ks.length < 12) && (decide (nameD t = "item") == decide (inK ks = "list"))
  else if wordD t = "close" then decide (inK ks = nameD t) else decide (inK ks ∈ lines)
def firT (ks : List Str) (i : Nat) : List D → Option Nat
  | [] => if ks = [] then none else some i
  | t :: ts => if okTk ks t = true then (if i + 1 + (ks1 ks t).length > 2000 then some i else firT (ks1 ks t) (i + 1) ts) else some i
theorem empty_ln : ("" : Str) ∉ lines := by decide +kernel
theorem empty_ls : ¬ (("" : Str) = "list") := by decide +kernel
theorem inK_nil : inK [] = "" := rfl
theorem inK_at (ks : List Str) (y : Str) : inK (ks ++ [y]) = y := by
  unfold inK
  rw [List.getLast?_concat]
  rfl
theorem inK_ln (ks : List Str) : decide (inK ks ∈ lines) = (ks.getLast?.any fun y => decide (y ∈ lines)) := by
  unfold inK
  cases ks.getLast? with
  | none => exact decide_eq_false empty_ln
  | some y => rfl
theorem inK_ls (ks : List Str) : decide (inK ks = "list") = decide (ks.getLast? = some ("list" : Str)) := by
  unfold inK
  cases ks.getLast? with
  | none => exact decide_eq_false empty_ls
  | some y => exact decide_eq_decide.mpr ⟨fun h => congrArg some h, Option.some.inj⟩
theorem kind_ne0 {y : Str} (h : GKind y) : ¬ ("" : Str) = y := by
  have e : ∀ y ∈ boxes ++ lines, ¬ ("" : Str) = y := by decide +kernel
  exact e y (List.mem_append.mpr h)
/-- what a token's word and name are -/
theorem GTok.words {t : D} (h : GTok t) : (wordD t = "open" ∧ GKind (nameD t)) ∨ (wordD t = "close" ∧ GKind (nameD t)) ∨ (wordD t ≠ "open" ∧ wordD t ≠ "close") := by
  cases h with
  | opn y g => exact .inl ⟨rfl, g⟩
  | cls y g => exact .inr (.inl ⟨rfl, g⟩)
  | char c zs l a b d => exact .inr (.inr ⟨by show ("char" : Str) ≠ _; decide +kernel, by show ("char" : Str) ≠ _; decide +kernel⟩)
  | anc y g => exact .inr (.inr ⟨by show ("anchor" : Str) ≠ _; decide +kernel, by show ("anchor" : Str) ≠ _; decide +kernel⟩)
  | img y g => exact .inr (.inr ⟨by show ("image" : Str) ≠ _; decide +kernel, by show ("image" : Str) ≠ _; decide +kernel⟩)
theorem glE_pos {ks : List Str} (h : inK ks ∈ lines) : glE ks = 2000 - (ks.length : Int) := by
  unfold glE
  rw [← inK_ln, decide_eq_true h, if_pos rfl]
theorem glE_zero {ks : List Str} (h : inK ks ∉ lines) : glE ks = 0 := by
  unfold glE
  rw [← inK_ln, decide_eq_false h]
  rfl
theorem ec_oc : ¬ (("open" : Str) = "char") := by decide +kernel
theorem ec_cc : ¬ (("close" : Str) = "char") := by decide +kernel
theorem ec_co : ¬ (("close" : Str) = "open") := by decide +kernel
theorem misT_fir : ∀ {ts : List D} {ks : List Str} {i : Nat}, (∀ t ∈ ts, GTok t) → NoLn ks → ks.length ≤ 12 → i + ks.length ≤ 2000 → misT ks (glE ks) i ts = firT ks i ts
  | [], ks, i, _, _, _, _ => by
    simp only [misT, firT]
    cases ks with
    | nil => rfl
    | cons a l => rw [if_pos (by simp), if_neg (by simp)]
  | t :: ts, ks, i, ht, hn, h12, hi => by
    have hr := fun x hx => ht x (List.mem_cons_of_mem t hx)
    rcases (ht t List.mem_cons_self).words with ⟨hw, hk⟩ | ⟨hw, hk⟩ | ⟨hw, hw2⟩
    · simp only [misT, firT, okTk, ks1, hw, ec_oc, if_false, if_true]
      by_cases hl : inK ks ∈ lines
      · rw [if_pos (.inl (by rw [glE_pos hl]; omega)), decide_eq_true hl]
        rfl
      · rw [glE_zero hl, decide_eq_false hl, ← inK_ls]
        by_cases hd : ks.length < 12
        · by_cases hit : decide (nameD t = ("item" : Str)) = decide (inK ks = ("list" : Str))
          · have hit' : (decide (nameD t = ("item" : Str)) == decide (inK ks = ("list" : Str))) = true := by rw [hit]; simp
            rw [decide_eq_true hd, hit']
            simp only [Bool.not_false, Bool.true_and, if_true]
            by_cases h2 : i + 1 + (ks ++ [nameD t]).length > 2000
            · rw [if_pos h2, if_pos (.inr (.inr (by rw [List.length_append, List.length_singleton] at h2; omega)))]
            · rw [if_neg h2, if_neg (by rw [List.length_append, List.length_singleton] at h2; omega), if_neg (fun z => z hit)]
              have e1 : (if nameD t ∈ lines then 2000 - ((ks.length + 2 : Nat) : Int) + 1 else 0) = glE (ks ++ [nameD t]) := by
                by_cases hy : nameD t ∈ lines
                · rw [if_pos hy, glE_pos (by rw [inK_at]; exact hy), List.length_append, List.length_singleton]
                  omega
                · rw [if_neg hy, glE_zero (by rw [inK_at]; exact hy)]
              rw [e1]
              exact misT_fir hr (noLn_push hn (by rw [← inK_ln]; exact decide_eq_false hl)) (by rw [List.length_append, List.length_singleton]; omega) (by omega)
          · have hit' : (decide (nameD t = ("item" : Str)) == decide (inK ks = ("list" : Str))) = false := by
              cases h1 : decide (nameD t = ("item" : Str)) <;> cases h3 : decide (inK ks = ("list" : Str)) <;> simp_all
            rw [hit', Bool.and_false, if_neg (by decide : ¬ (false = true))]
            split <;> rfl
        · rw [decide_eq_false hd, Bool.and_false, Bool.false_and, if_neg (by decide : ¬ (false = true)), if_pos (.inr (.inl (by omega)))]
    · simp only [misT, firT, okTk, ks1, hw, ec_cc, ec_co, if_false, if_true]
      rcases List.eq_nil_or_concat ks with rfl | ⟨kl, y, ec⟩
      · rw [inK_nil, decide_eq_false (kind_ne0 hk)]
        rfl
      · rw [List.concat_eq_append] at ec
        subst ec
        rw [inK_at, List.getLast?_concat, List.dropLast_concat]
        by_cases hy : y = nameD t
        · rw [if_neg (fun z => z (congrArg some hy)), decide_eq_true hy, if_pos rfl]
          rw [List.length_append, List.length_singleton] at h12 hi
          rw [if_neg (by omega)]
          have hn' := noLn_drop hn
          rw [List.dropLast_concat] at hn'
          have e0 : glE kl = 0 := by
            unfold glE
            have := noLn_line hn
            rw [List.dropLast_concat] at this
            rw [this]
            rfl
          rw [← e0]
          exact misT_fir hr hn' (by omega) (by omega)
        · rw [if_pos (fun z => hy (Option.some.inj z)), decide_eq_false hy]
          rfl
    · have step : (if (i : Int) ≥ glE ks then some i else misT ks (glE ks) (i + 1) ts) = firT ks i (t :: ts) := by
        simp only [firT, okTk, ks1, hw, hw2, if_false]
        by_cases hl : inK ks ∈ lines
        · rw [decide_eq_true hl, if_pos rfl, glE_pos hl]
          by_cases h2 : i + 1 + ks.length > 2000
          · rw [if_pos (by omega), if_pos h2]
          · rw [if_neg (by omega), if_neg h2, ← glE_pos hl]
            exact misT_fir hr hn h12 (by omega)
        · rw [decide_eq_false hl, glE_zero hl, if_pos (by omega)]
          rfl
      rw [← step]
      simp only [misT, hw, hw2, if_false, ite_self]
theorem bad_fir {ts : List D} (h : ∀ t ∈ ts, GTok t) : badT ts = firT [] 0 ts := by
  have e := preT_all fun t ht => (h t ht).ok.a
  unfold badT
  rw [e, List.take_length]
  have z := misT_fir (ks := []) (i := 0) h (fun y hy => nomatch hy) (by simp) (by simp)
  have e0 : glE [] = 0 := rfl
  rw [e0] at z
  rw [z]
  cases firT [] 0 ts with
  | none => simp
  | some j => rfl
/-! ### k03: the beginnings of a chapter -/
def runK (ks : List Str) : List D → List Str
  | [] => ks
  | t :: ts => runK (ks1 ks t) ts
theorem runK_app : ∀ (a b : List D) (ks : List Str), runK ks (a ++ b) = runK (runK ks a) b
  | [], b, ks => rfl
  | t :: a, b, ks => runK_app a b _
/-- where a chapter goes on, the law's own going goes on -/
theorem okR_step {ks : List Str} {t : D} {ts : List D} (h : okR ks (t :: ts) = true) (h12 : ks.length ≤ 12) (ht : GTok t) : okTk ks t = true ∧ okR (ks1 ks t) ts = true ∧ ∀ rest, okR ks (t :: rest) = okR (ks1 ks t) rest := by
  rcases ht.words with ⟨hw, hk⟩ | ⟨hw, hk⟩ | ⟨hw, hw2⟩
  · have e : ∀ rest, okR ks (t :: rest) = (!(ks.getLast?.any fun y => decide (y ∈ lines)) && (decide (nameD t = "item") == decide (ks.getLast? = some ("list" : Str))) && decide (ks.length ≠ 12) && okR (ks ++ [nameD t]) rest) := fun rest => by
      rw [okR, hw, if_neg (fun z => ec_co z.symm), if_pos rfl]
    rw [e] at h
    simp only [Bool.and_eq_true, Bool.not_eq_true', decide_eq_true_eq] at h
    obtain ⟨⟨⟨h1, h2⟩, h3⟩, h4⟩ := h
    have e2 : ks1 ks t = ks ++ [nameD t] := by unfold ks1; rw [if_pos hw]
    refine ⟨?_, by rw [e2]; exact h4, fun rest => ?_⟩
    · unfold okTk
      rw [if_pos hw, inK_ln, h1, inK_ls, h2, decide_eq_true (show ks.length < 12 by omega)]
      rfl
    · rw [e, e2, h1, h2, decide_eq_true h3]
      rfl
  · have e : ∀ rest, okR ks (t :: rest) = (decide (ks.getLast? = some (nameD t)) && okR ks.dropLast rest) := fun rest => by
      rw [okR, hw, if_pos rfl]
    rw [e] at h
    simp only [Bool.and_eq_true, decide_eq_true_eq] at h
    obtain ⟨h1, h4⟩ := h
    have e2 : ks1 ks t = ks.dropLast := by unfold ks1; rw [if_neg (by rw [hw]; exact ec_co), if_pos hw]
    refine ⟨?_, by rw [e2]; exact h4, fun rest => ?_⟩
    · unfold okTk
      rw [if_neg (by rw [hw]; exact ec_co), if_pos hw]
      unfold inK
      rw [h1]
      exact decide_eq_true rfl
    · rw [e, e2, h1, decide_eq_true rfl]
      rfl
  · have e : ∀ rest, okR ks (t :: rest) = ((ks.getLast?.any fun y => decide (y ∈ lines)) && okR ks rest) := fun rest => by
      rw [okR, if_neg hw2, if_neg hw]
    rw [e] at h
    simp only [Bool.and_eq_true] at h
    obtain ⟨h1, h4⟩ := h
    have e2 : ks1 ks t = ks := by unfold ks1; rw [if_neg hw, if_neg hw2]
    refine ⟨?_, by rw [e2]; exact h4, fun rest => ?_⟩
    · unfold okTk
      rw [if_neg hw, if_neg hw2, inK_ln]
      exact h1
    · rw [e, e2, h1]
      rfl
theorem ks1_kinds {ks : List Str} {t : D} (h : ∀ y ∈ ks, GKind y) (ht : GTok t) : ∀ y ∈ ks1 ks t, GKind y := fun y hy => by
  unfold ks1 at hy
  rcases ht.words with ⟨hw, hk⟩ | ⟨hw, hk⟩ | ⟨hw, hw2⟩
  · rw [if_pos hw] at hy
    rcases List.mem_append.mp hy with hy | hy
    · exact h y hy
    · rw [List.mem_singleton.mp hy]
      exact hk
  · rw [if_neg (by rw [hw]; exact ec_co), if_pos hw] at hy
    exact h y (List.dropLast_subset _ hy)
  · rw [if_neg hw, if_neg hw2] at hy
    exact h y hy
/-- a beginning of a chapter: whether it is one, and that it can be completed -/
theorem begin_spec : ∀ {a b : List D} {ks : List Str} {i : Nat}, okR ks (a ++ b) = true → (∀ t ∈ a, GTok t) → ks.length ≤ 12 → (∀ y ∈ ks, GKind y) → i + (a ++ b).length ≤ 2000 →
    okR (runK ks a) b = true ∧ (∀ rest, okR ks (a ++ rest) = okR (runK ks a) rest) ∧ firT ks i a = (if runK ks a = [] then none else some (i + a.length)) ∧ (runK ks a).length ≤ 12 ∧ ∀ y ∈ runK ks a, GKind y
  | [], b, ks, i, h, _, h12, hk, _ => ⟨h, fun _ => rfl, rfl, h12, hk⟩
  | t :: a, b, ks, i, h, ht, h12, hk, hl => by
    have gt := ht t List.mem_cons_self
    obtain ⟨h1, h2, h3⟩ := okR_step (ts := a ++ b) h h12 gt
    simp only [List.cons_append, List.length_cons] at hl
    have hlen := okR_len h2
    have h12' : (ks1 ks t).length ≤ 12 := by
      rcases gt.words with ⟨hw, _⟩ | ⟨hw, _⟩ | ⟨hw, hw2⟩
      · unfold okTk at h1
        rw [if_pos hw] at h1
        simp only [Bool.and_eq_true, decide_eq_true_eq] at h1
        have := h1.1.2
        unfold ks1
        rw [if_pos hw, List.length_append, List.length_singleton]
        omega
      · unfold ks1
        rw [if_neg (by rw [hw]; exact ec_co), if_pos hw, List.length_dropLast]
        omega
      · unfold ks1
        rw [if_neg hw, if_neg hw2]
        exact h12
    obtain ⟨k1, k2, k3, k4, k5⟩ := begin_spec (i := i + 1) h2 (fun x hx => ht x (List.mem_cons_of_mem _ hx)) h12' (ks1_kinds hk gt) (by omega)
    refine ⟨k1, fun rest => ?_, ?_, k4, k5⟩
    · show okR ks (t :: (a ++ rest)) = _
      rw [h3]
      exact k2 rest
    · rw [firT, if_pos h1, if_neg (by omega), k3]
      show (if runK (ks1 ks t) a = [] then none else some (i + 1 + a.length)) = if runK (ks1 ks t) a = [] then none else some (i + (a.length + 1))
      rw [show i + 1 + a.length = i + (a.length + 1) from by omega]
def F__law_rough : FT := fDr 20 (fun ds => ds = [.drw]) (fun _ d => GTok d)
def F__law_first : FT := ⟨fun ds n Q => ∃ ts : List D, ds = [.tup ts] ∧ (∀ t ∈ ts, GTok t) ∧ ts.length ≤ 3000 ∧ Q (optD (firT [] 0 ts)) n, fun ds n P P' h ⟨ts, e, k, l, q⟩ => ⟨ts, e, k, l, h _ _ q⟩⟩
def F__law_bent : FT := fDr 100 (fun ds => ∃ ts : List D, ds = [.drw, .tup ts] ∧ (∀ t ∈ ts, GTok t) ∧ ts.length ≤ 200) (fun ds d => ∃ ts ts' : List D, ds = [.drw, .tup ts] ∧ d = .tup ts' ∧ (∀ t ∈ ts', GTok t) ∧ ts'.length ≤ ts.length + 2)
def F__law_great : FT := fDr 20 (fun ds => ds = [.drw]) (fun _ d => ∃ ts : List D, d = .tup ts ∧ (∀ t ∈ ts, GTok t) ∧ ts.length ≤ 3000)
def oQ : D := .tup [.str "open", .str "quote"]
def cQ : D := .tup [.str "close", .str "quote"]
def deepT (k : Nat) : List D := List.replicate (k - 1) oQ ++ [.tup [.str "open", .str "para"], .tup [.str "close", .str "para"]] ++ List.replicate (k - 1) cQ
def F__law_deep : FT := ⟨fun ds n Q => ∃ k : Nat, ds = [.int k] ∧ 1 ≤ k ∧ k ≤ 13 ∧ Q (.tup (deepT k)) n, fun ds n P P' h ⟨k, e, a, b, q⟩ => ⟨k, e, a, b, h _ _ q⟩⟩
def F__law_beginnings_right : FT := ⟨fun ds n Q => ∃ ts : List D, ds = [.tup ts] ∧ Chap ts ∧ ts.length ≤ 100 ∧ Q (.bl true) n, fun ds n P P' h ⟨ts, e, k, l, q⟩ => ⟨ts, e, k, l, h _ _ q⟩⟩
theorem cutL_last {α : Type} (l : List α) : cutL l none (some (-1)) = l.dropLast := by
  cases l with
  | nil => rfl
  | cons a l =>
    have e : cutL (a :: l) none (some (-1)) = (a :: l).take l.length := by
      unfold cutL HT.sIx
      simp
      omega
    rw [e, List.dropLast_eq_take]
    rfl
local macro_rules | `(tactic| walk_at "wx") => `(tactic| try simp (config := {maxSteps := 10000000, implicitDefEqProofs := false, dsimp := false}) only [↓f_wC, ↓g_wVar, vtake, ↓f_wBin, ↓f_wBinV, ↓f_wBinR, ↓f_wT, ↓f_wChain, ↓f_wTru, ↓f_wTruV, ↓f_tAnd, ↓f_tOr, ↓f_tNot, ↓f_andV, ↓f_orV, ↓f_notV, ↓f_if, ↓f_noPart, ↓f_part, ↓f_sl, ↓f_slV, ↓f_nil, ↓f_cons, ↓f_bor, ↓f_tup, ↓f_lst, ↓f_fn, ↓f_isi, ↓f_wIsiV, ↓f_mt, ↓f_call, ↓f_next, ↓f_seq, ↓f_break, ↓f_cont, ↓f_drop, ↓f_ret, ↓f_retN, ↓f_ifS, ↓f_set, ↓f_ofL, ↓f_sz, ↓f_own, ↓f_par, ↓f_wParO, ↓f_par3, ↓f_asgT, ↓f_iL, ↓f_iT, ↓f_iS, ↓f_iR1, ↓f_for, ↓f_lc, ↓f_yes, ↓f_dgL, ↓f_dgA, ↓f_dgC, ↓f_dpL, ↓f_dpA, ↓f_app, ↓f_pop, ↓f_wG, ↓f_wiE, ↓f_wiET, ↓f_wiZ, ↓f_wCopy, ↓f_wPut, ↓f_wUnl, ↓f_wStep, ↓f_wRev, ↓f_wRevV, ↓f_wRevT, ↓f_wOwnC, ↓f_wPar3a, ↓f_wPar3b, ↓f_wDic, ↓f_wNever, ↓e_rev, ↓f_wDGetV, ↓f_wDInV, ↓f_wDNew, ↓f_wDPut, ↓f_wiItems, ↓f_wiVals, ↓f_wiKeys, ↓f_wExt, ↓f_wCopyQ, ↓f_wRepL, ↓f_wAugI, ↓f_wSorted, ↓f_wDc, ↓f_wiQ, ↓f_down, ↓f_iR2, ↓f_iR3, ↓f_wiZT, ↓f_wiZM, ↓f_raise, ↓f_callX, ↓f_told, ↓f_wSty, ↓f_wMNew, ↓f_wMInT, ↓f_wMInL, ↓f_wMPutL, ↓f_wMPutT, ↓f_wDGet2, ↓f_wPar2a, c_truB, ↓e_truB, ↓e_repT, c_repA, memE, keysD, ↓f_try1, ↓f_wtl, ↓f_catO, ↓e_sum, ↓e_min1, ↓e_listT, ↓e_listL, ↓e_intB, ↓at0c, ↓at1c, ↓at32, ↓e_isB, ↓e_isnB, env0, env1, ↓bl_bl, ↓int_int, ↓str_str, ↓get_some, ↓get_lazy, ↓ft_lazy, gt_some, DI.gt_if, vget, ownE, List.length_cons, List.length_nil, List.replicate, List.getElem?_cons_zero, List.getElem?_cons_succ, List.set_cons_zero, List.set_cons_succ, Nat.zero_add, Nat.add_sub_cancel, Nat.reduceAdd, Nat.reduceSub, Nat.reduceLT, Nat.reduceLeDiff, true_and, if_true, if_false, Bool.false_eq_true, Bool.true_eq_false, List.length_set, ↓e_ltI, ↓e_leI, ↓e_gtI, ↓e_geI, ↓e_ltS, ↓e_leS, ↓e_addI, ↓e_addS, ↓e_addT, ↓e_addL, ↓e_subI, ↓e_modI, ↓e_divI, ↓e_mulI, ↓e_eq, ↓e_ne, ↓e_ixL, ↓e_ixT, ↓e_ixS, ↓e_lenL, ↓e_lenT, ↓e_lenS, c_lenL, c_lenT, c_lenS, c_ixL, c_ixT, c_ixS, c_addI, c_addS, c_addT, c_addL, c_modI, c_divI, c_mulI, c_slL, c_slT, c_slS, ↓e_slL, ↓e_slT, ↓e_slS, ↓e_tupL, ↓e_tupT, ↓e_int, ↓e_ord, c_ord, ↓e_strI, c_strI, ↓e_inS, ↓e_ninS, ↓e_all, ↓e_any, c_inS, c_eqI, c_eqS, c_eqB, ↓eqD_int, ↓eqD_str, ↓eqD_bl, decide_eq_true_eq, decide_not, Bool.not_eq_true', decide_eq_false_iff_not, cT, gIsi, tyD, Option.map_some, c0, lstD_lst, tupD_tup, dctD_dct, dicE, seqD_lst, seqD_tup, innE, wipeE, toBor, Bool.not_false, Bool.not_true, eq_self, List.map_cons, List.map_nil, gNm, gTp, gLs, gsCons, gsNil, Option.bind_some, ↓e_isN, ↓e_keyI, ↓e_keyS, ↓e_notN, n_non, n_int, n_str, n_bl, n_lst, n_tup, n_dic0, n_dct, isT, String.reduceBEq, Bool.or_false, Bool.or_true, Bool.true_or, Bool.false_or, Bool.and_false, Bool.and_true, Bool.true_and, Bool.false_and, decide_true, decide_false])
theorem sc_is_id : FnScope ["value", "c"] ["value"] (defScope (top 9)) := ⟨rfl, rfl, rfl, by decide +kernel, rfl, by decide +kernel, by decide +kernel⟩
theorem ok_is_id {P : Program} {w : World} {K : PySem.W.Frag} {mg : Str → Option Value} {base : Heap} (T : Txt K mg) (C : Cn K mg) (SY : Sty P w K mg "_STYLE_ROWS" SR) {f : Addr} {fd : FuncData} (U : Fun K "is_id" "is_id" (top 9) f fd) (dr : Option Addr) :
    FnG P w K mg base 1 f fd ["value"] (SpD K dr [false] F_is_id) := by
  refine fnd_of (k := 0) U sc_is_id rfl (fun cdv A callers s0 H E G0 hr hga =>
    (sd_cons (sd_if (PW.pt (wd_or (td_not (td_val (pd_isi (pd_var 0 (pv 0)) rfl kit_str T.isinstance T.str))) (wd_or1 (td_not (td_chain cm_le cm_le pd_int (pd_bt bt_len T.len (ad_cons (pd_var 0 (pv 0)) ad_nil)) pd_int))))) (sd_one (sd_ret pd_bl)) sd_nil)
      (sd_one (sd_ret (pd_and (pd_cmp (cm_in) (pd_ix (pd_var 0 (pv 0)) pd_int) (pd_const C._LETTERS)) (pd_one (pd_bt bt_all T.all (ad_cons (pd_ofL (ld_lc (own := [("c", 1)]) sc_is_id.nd (id_str (pd_var 0 (pv 0))) (lct_name) (by change blkC ["value", "c"] (defScope (top 9)) _ _ = true; decide +kernel) (fun _ _ _ _ _ => pg_name (i := 1) sc_is_id.nd rfl (.inl rfl)) (fun _ _ _ _ _ _ _ => (pts_yes)) (fun _ _ _ _ _ _ _ => (pd_cmp (cm_in) (pd_var 1 (pv 1)) (pd_const C._LETTERS_AND_DIGITS))))) ad_nil)))))))) ?_
  intro ds n Q hl hF
  obtain ⟨d, rfl, ⟨hc1, hc2, hc3⟩, q⟩ := hF
  cases d
  case str z =>
    have hz := Nat.le_trans (hc2 z rfl) line1000
    simp (config := {maxSteps := 10000000}) only [↓f_wC, ↓f_wVar, ↓f_wBin, ↓f_wBinV, ↓f_wBinR, ↓f_wT, ↓f_wChain, ↓f_wTru, ↓f_wTruV, ↓f_tAnd, ↓f_tOr, ↓f_tNot, ↓f_andV, ↓f_orV, ↓f_notV, ↓f_if, ↓f_noPart, ↓f_part, ↓f_sl, ↓f_slV, ↓f_nil, ↓f_cons, ↓f_bor, ↓f_tup, ↓f_lst, ↓f_fn, ↓f_isi, ↓f_mt, ↓f_call, ↓f_next, ↓f_seq, ↓f_break, ↓f_cont, ↓f_drop, ↓f_ret, ↓f_retN, ↓f_ifS, ↓f_set, ↓f_ofL, ↓f_sz, ↓f_own, ↓f_par, ↓f_par3, ↓f_asgT, ↓f_iL, ↓f_iT, ↓f_iS, ↓f_iR1, ↓f_for, ↓f_lc, ↓f_yes, ↓f_dgL, ↓f_dgA, ↓f_dgC, ↓f_dpL, ↓f_dpA, ↓f_app, ↓f_pop, env0, env1, ↓bl_bl, ↓int_int, ↓str_str, ↓get_some, get_if, vget, ownE, List.length_cons, List.length_nil, List.replicate, List.getElem?_cons_zero, List.getElem?_cons_succ, List.set_cons_zero, List.set_cons_succ, Nat.zero_add, Nat.add_sub_cancel, Nat.reduceAdd, Nat.reduceSub, Nat.reduceLT, Nat.reduceLeDiff, true_and, if_true, if_false, Bool.false_eq_true, List.length_set, gLt, gLe, gGt, gGe, gIx, gLen, cLen, cT, cIx, gIsi, tyD, Option.map_some, gIn, gNin, cIn, gAll, c0, lstD, tupD, innE, wipeE, toBor, Bool.not_false, Bool.not_true, eq_self, List.map_cons, List.map_nil]
    simp only [idB, idL] at q
    rw [slen] at hz ⊢
    generalize hcs : z.cps.toList = cs at *
    rw [if_neg (by decide)]
    refine ⟨hz, ?_⟩
    by_cases h1 : (1 : Int) ≤ (cs.length : Int)
    · rw [if_pos (by simpa using h1)]
      by_cases h2 : (cs.length : Int) ≤ 16
      · rw [if_neg (by simpa using h2)]
        refine ⟨hz, ?_⟩
        cases cs with
        | nil => simp at h1
        | cons c l =>
          simp only [atI0, Option.map_some, get_some, bl_bl]
          rw [in26]
          cases hlo : loC c with
          | false =>
            rw [if_neg (by simp)]
            simpa [headB, hlo] using q
          | true =>
            rw [if_pos rfl]
            rw [chrs_eq, hcs]
            refine lcGo_map (g := fun d => .bl (match d with | .str y => inStr y S36 | _ => false)) _ _ (fun d hd P k => ?_) (by simp only [List.length_map, List.length_nil]; omega) ?_
            · obtain ⟨x, _, rfl⟩ := List.mem_map.mp hd
              rw [gNm_lt (by simp [innE_length])]
              simp (config := {maxSteps := 10000000}) only [↓f_wC, ↓f_wVar, ↓f_wBin, ↓f_wBinV, ↓f_wBinR, ↓f_wT, ↓f_wChain, ↓f_wTru, ↓f_wTruV, ↓f_tAnd, ↓f_tOr, ↓f_tNot, ↓f_andV, ↓f_orV, ↓f_notV, ↓f_if, ↓f_noPart, ↓f_part, ↓f_sl, ↓f_slV, ↓f_nil, ↓f_cons, ↓f_bor, ↓f_tup, ↓f_lst, ↓f_fn, ↓f_isi, ↓f_mt, ↓f_call, ↓f_next, ↓f_seq, ↓f_break, ↓f_cont, ↓f_drop, ↓f_ret, ↓f_retN, ↓f_ifS, ↓f_set, ↓f_ofL, ↓f_sz, ↓f_own, ↓f_par, ↓f_par3, ↓f_asgT, ↓f_iL, ↓f_iT, ↓f_iS, ↓f_iR1, ↓f_for, ↓f_lc, ↓f_yes, ↓f_dgL, ↓f_dgA, ↓f_dgC, ↓f_dpL, ↓f_dpA, ↓f_app, ↓f_pop, env0, env1, ↓bl_bl, ↓int_int, ↓str_str, ↓get_some, get_if, vget, ownE, List.length_cons, List.length_nil, List.replicate, List.getElem?_cons_zero, List.getElem?_cons_succ, List.set_cons_zero, List.set_cons_succ, Nat.zero_add, Nat.add_sub_cancel, Nat.reduceAdd, Nat.reduceSub, Nat.reduceLT, Nat.reduceLeDiff, true_and, if_true, if_false, Bool.false_eq_true, List.length_set, gLt, gLe, gGt, gGe, gIx, gLen, cLen, cT, cIx, gIsi, tyD, Option.map_some, gIn, gNin, cIn, gAll, c0, lstD, tupD, innE, wipeE, toBor, Bool.not_false, Bool.not_true, eq_self, List.map_cons, List.map_nil]
              exact k _ rfl
            · rw [List.nil_append, List.map_map]
              show DI.get (Option.map _ (blsOf (List.map (fun x => D.bl (inStr ⟨#[x]⟩ S36)) (c :: l)))) _
              rw [blsOf_map (fun x => inStr ⟨#[x]⟩ S36)]
              have e3 : (fun x => inStr ⟨#[x]⟩ S36) = ldC := funext in36
              simp only [Option.map_some, get_some]
              rw [e3, all_map']
              have e1 : decide (1 ≤ (c :: l).length) = true := by simp
              have e2 : decide ((c :: l).length ≤ 16) = true := by simp only [decide_eq_true_eq]; omega
              simp only [headB, hlo, e1, e2, Bool.true_and] at q
              exact q
      · rw [if_pos (by simpa using h2)]
        have e2 : decide (cs.length ≤ 16) = false := by simp only [decide_eq_false_iff_not]; omega
        simpa [e2] using q
    · rw [if_neg (by simpa using h1)]
      have e2 : decide (1 ≤ cs.length) = false := by simp only [decide_eq_false_iff_not]; omega
      simpa [e2] using q
  case drw => exact absurd rfl hc1
  case dct => exact absurd rfl hc1
  case exc => exact absurd rfl hc1
  all_goals
    simp (config := {maxSteps := 10000000}) only [↓f_wC, ↓f_wVar, ↓f_wBin, ↓f_wBinV, ↓f_wBinR, ↓f_wT, ↓f_wChain, ↓f_wTru, ↓f_wTruV, ↓f_tAnd, ↓f_tOr, ↓f_tNot, ↓f_andV, ↓f_orV, ↓f_notV, ↓f_if, ↓f_noPart, ↓f_part, ↓f_sl, ↓f_slV, ↓f_nil, ↓f_cons, ↓f_bor, ↓f_tup, ↓f_lst, ↓f_fn, ↓f_isi, ↓f_mt, ↓f_call, ↓f_next, ↓f_seq, ↓f_break, ↓f_cont, ↓f_drop, ↓f_ret, ↓f_retN, ↓f_ifS, ↓f_set, ↓f_ofL, ↓f_sz, ↓f_own, ↓f_par, ↓f_par3, ↓f_asgT, ↓f_iL, ↓f_iT, ↓f_iS, ↓f_iR1, ↓f_for, ↓f_lc, ↓f_yes, ↓f_dgL, ↓f_dgA, ↓f_dgC, ↓f_dpL, ↓f_dpA, ↓f_app, ↓f_pop, env0, env1, ↓bl_bl, ↓int_int, ↓str_str, ↓get_some, get_if, vget, ownE, List.length_cons, List.length_nil, List.replicate, List.getElem?_cons_zero, List.getElem?_cons_succ, List.set_cons_zero, List.set_cons_succ, Nat.zero_add, Nat.add_sub_cancel, Nat.reduceAdd, Nat.reduceSub, Nat.reduceLT, Nat.reduceLeDiff, true_and, if_true, if_false, Bool.false_eq_true, List.length_set, gLt, gLe, gGt, gGe, gIx, gLen, cLen, cT, cIx, gIsi, tyD, Option.map_some, gIn, gNin, cIn, gAll, c0, lstD, tupD, innE, wipeE, toBor, Bool.not_false, Bool.not_true, eq_self, List.map_cons, List.map_nil]
    exact q
theorem sc_sort_of : FnScope ["kind"] ["kind"] (defScope (top 12)) := ⟨rfl, rfl, rfl, by decide +kernel, rfl, by decide +kernel, by decide +kernel⟩
theorem ok_sort_of {P : Program} {w : World} {K : PySem.W.Frag} {mg : Str → Option Value} {base : Heap} (T : Txt K mg) (C : Cn K mg) (SY : Sty P w K mg "_STYLE_ROWS" SR) {f : Addr} {fd : FuncData} (U : Fun K "sort_of" "sort_of" (top 12) f fd) (dr : Option Addr) :
    FnG P w K mg base 1 f fd ["kind"] (SpD K dr [false] F_sort_of) := by
  refine fnd_of (k := 0) U sc_sort_of rfl (fun cdv A callers s0 H E G0 hr hga =>
    (sd_cons (sd_if (td_not (td_val (pd_isi (pd_var 0 (pv 0)) rfl kit_str T.isinstance T.str))) (sd_one (sd_ret pd_non)) sd_nil)
      (sd_cons (sd_if (td_cmp (cm_in) (pd_var 0 (pv 0)) (pd_const C.BOX_KINDS)) (sd_one (sd_ret pd_str)) sd_nil)
      (sd_one (sd_ret (pd_ifExp (td_cmp (cm_in) (pd_var 0 (pv 0)) (pd_const C.LINE_KINDS)) pd_str pd_non)))))) ?_
  intro ds n Q hl hF
  obtain ⟨d, rfl, ⟨hc1, hc2, hc3⟩, q⟩ := hF
  cases d
  case str z =>
    simp (config := {maxSteps := 10000000}) only [↓f_wC, ↓f_wVar, ↓f_wBin, ↓f_wBinV, ↓f_wBinR, ↓f_wT, ↓f_wChain, ↓f_wTru, ↓f_wTruV, ↓f_tAnd, ↓f_tOr, ↓f_tNot, ↓f_andV, ↓f_orV, ↓f_notV, ↓f_if, ↓f_noPart, ↓f_part, ↓f_sl, ↓f_slV, ↓f_nil, ↓f_cons, ↓f_bor, ↓f_tup, ↓f_lst, ↓f_fn, ↓f_isi, ↓f_mt, ↓f_call, ↓f_next, ↓f_seq, ↓f_break, ↓f_cont, ↓f_drop, ↓f_ret, ↓f_retN, ↓f_ifS, ↓f_set, ↓f_ofL, ↓f_sz, ↓f_own, ↓f_par, ↓f_par3, ↓f_asgT, ↓f_iL, ↓f_iT, ↓f_iS, ↓f_iR1, ↓f_for, ↓f_lc, ↓f_yes, ↓f_dgL, ↓f_dgA, ↓f_dgC, ↓f_dpL, ↓f_dpA, ↓f_app, ↓f_pop, env0, env1, ↓bl_bl, ↓int_int, ↓str_str, ↓get_some, get_if, vget, ownE, List.length_cons, List.length_nil, List.replicate, List.getElem?_cons_zero, List.getElem?_cons_succ, List.set_cons_zero, List.set_cons_succ, Nat.zero_add, Nat.add_sub_cancel, Nat.reduceAdd, Nat.reduceSub, Nat.reduceLT, Nat.reduceLeDiff, true_and, if_true, if_false, Bool.false_eq_true, List.length_set, gLt, gLe, gGt, gGe, gIx, gLen, cLen, cT, cIx, gIsi, tyD, Option.map_some, gIn, gNin, cIn, gAll, c0, lstD, tupD, innE, wipeE, toBor, Bool.not_false, Bool.not_true, eq_self, List.map_cons, List.map_nil]
    rw [if_neg (by decide)]
    have e1 : [D.str "section", .str "quote", .str "list", .str "item"] = boxes.map D.str := rfl
    have e2 : [D.str "head1", .str "head2", .str "head3", .str "para"] = lines.map D.str := rfl
    rw [e1, e2, inD_strs, inD_strs]
    simp only [kindD] at q
    refine ⟨⟨rfl, by decide⟩, ?_⟩
    by_cases h1 : z ∈ boxes
    · simpa [h1] using q
    · rw [if_neg (by simpa using h1)]
      rw [if_neg h1] at q
      refine ⟨⟨rfl, by decide⟩, ?_⟩
      by_cases h2 : z ∈ lines
      · simpa [h2] using q
      · simpa [h2] using q
  case drw => exact absurd rfl hc1
  case dct => exact absurd rfl hc1
  case exc => exact absurd rfl hc1
  all_goals
    simp (config := {maxSteps := 10000000}) only [↓f_wC, ↓f_wVar, ↓f_wBin, ↓f_wBinV, ↓f_wBinR, ↓f_wT, ↓f_wChain, ↓f_wTru, ↓f_wTruV, ↓f_tAnd, ↓f_tOr, ↓f_tNot, ↓f_andV, ↓f_orV, ↓f_notV, ↓f_if, ↓f_noPart, ↓f_part, ↓f_sl, ↓f_slV, ↓f_nil, ↓f_cons, ↓f_bor, ↓f_tup, ↓f_lst, ↓f_fn, ↓f_isi, ↓f_mt, ↓f_call, ↓f_next, ↓f_seq, ↓f_break, ↓f_cont, ↓f_drop, ↓f_ret, ↓f_retN, ↓f_ifS, ↓f_set, ↓f_ofL, ↓f_sz, ↓f_own, ↓f_par, ↓f_par3, ↓f_asgT, ↓f_iL, ↓f_iT, ↓f_iS, ↓f_iR1, ↓f_for, ↓f_lc, ↓f_yes, ↓f_dgL, ↓f_dgA, ↓f_dgC, ↓f_dpL, ↓f_dpA, ↓f_app, ↓f_pop, env0, env1, ↓bl_bl, ↓int_int, ↓str_str, ↓get_some, get_if, vget, ownE, List.length_cons, List.length_nil, List.replicate, List.getElem?_cons_zero, List.getElem?_cons_succ, List.set_cons_zero, List.set_cons_succ, Nat.zero_add, Nat.add_sub_cancel, Nat.reduceAdd, Nat.reduceSub, Nat.reduceLT, Nat.reduceLeDiff, true_and, if_true, if_false, Bool.false_eq_true, List.length_set, gLt, gLe, gGt, gGe, gIx, gLen, cLen, cT, cIx, gIsi, tyD, Option.map_some, gIn, gNin, cIn, gAll, c0, lstD, tupD, innE, wipeE, toBor, Bool.not_false, Bool.not_true, eq_self, List.map_cons, List.map_nil]
    exact q
def kD (ks : List Str) : List D := .non :: ks.map D.str
def lastD (ks : List Str) : D := match ks.getLast? with
  | some k => .str k
  | none => .non
theorem kD_len (ks : List Str) : (kD ks).length = ks.length + 1 := by simp [kD]
theorem kD_add (ks : List Str) (k : Str) : kD ks ++ [.str k] = kD (ks ++ [k]) := by simp [kD]
theorem kD_get (ks : List Str) : (kD ks)[(kD ks).length - 1]? = some (lastD ks) := by
  rcases List.eq_nil_or_concat ks with rfl | ⟨l, k, rfl⟩
  · rfl
  · simp [kD, lastD]
theorem kD_at (ks : List Str) : atI (kD ks) (-1) = some (lastD ks) := by
  rw [← kD_get]
  unfold atI ixN
  have := kD_len ks
  rw [if_neg (by decide)]
  have h1 : (1 : Int) ≤ (ks.length : Int) + 1 := by omega
  have h2 : (-1 + ((ks.length : Int) + 1)).toNat = ks.length := by omega
  simp [this, h1, h2]
theorem kD_drop {ks : List Str} {k : Str} (h : ks.getLast? = some k) : (kD ks).dropLast = kD ks.dropLast := by
  rcases List.eq_nil_or_concat ks with rfl | ⟨l, k, rfl⟩
  · cases h
  · simp [kD, List.dropLast_cons_of_ne_nil]
theorem eqD_last (ks : List Str) (x : Str) : eqD (lastD ks) (.str x) = decide (ks.getLast? = some x) := by
  unfold lastD
  cases ks.getLast? with
  | none => simp [eqD, toPy, PyData.eqv]
  | some k => rw [eqD_str]; simp
theorem eqD_lastR (ks : List Str) (x : Str) : eqD (.str x) (lastD ks) = decide (ks.getLast? = some x) := by
  unfold lastD
  cases ks.getLast? with
  | none => simp [eqD, toPy, PyData.eqv]
  | some k => rw [eqD_str]; simp [eq_comm]
theorem cEq_last (ks : List Str) (x : Str) : cEq (lastD ks) (.str x) := by
  unfold lastD
  cases ks.getLast? <;> exact .inl rfl
theorem cEq_lastR (ks : List Str) (x : Str) : cEq (.str x) (lastD ks) := by
  unfold lastD
  cases ks.getLast? <;> exact .inl rfl
theorem gIn_lines (y : Str) : gIn (.str y) (.tup [.str "head1", .str "head2", .str "head3", .str "para"]) = some (.bl (decide (y ∈ lines))) := by
  show some (D.bl (inD (.str y) (lines.map D.str))) = _
  rw [inD_strs]
theorem tok_two {t : D} (h : tokB t = true) : (wordD t = "char" ∧ ∃ es, t = .tup (.str "char" :: es)) ∨ ∃ x y : Str, x ≠ "char" ∧ wordD t = x ∧ nameD t = y ∧ t = .tup [.str x, .str y] := by
  unfold tokB at h
  split at h
  · rename_i x es
    split at h
    · rename_i hx
      subst hx
      exact .inl ⟨rfl, es, rfl⟩
    · rename_i hx
      split at h
      · rename_i y
        refine .inr ?_
        split at h
        · cases y <;> simp [kinB, kindD, DI.isNon] at h
          exact ⟨x, _, hx, rfl, rfl, rfl⟩
        · cases y <;> simp [idB] at h
          exact ⟨x, _, hx, rfl, rfl, rfl⟩
      · cases h
  · cases h
theorem line3000' : (3000 : Nat) ≤ sizeLine := by decide
def I_fm (ts : List D) (M : Option Nat) (n i : Nat) (s : S) : Prop := ∃ (ks : List Str) (e : Int) (x3 x4 x5 x6 : Sl),
  s = ⟨[.val (.tup ts), .own (kD ks), .val (.int e), x3, x4, x5, x6], n⟩ ∧ ks.length ≤ i ∧ M = misT ks e i (ts.drop i)
theorem I_fm_of {ts : List D} {M : Option Nat} {n i : Nat} {ks : List Str} {e : Int} {x3 x4 x5 x6 : Sl} (h1 : ks.length ≤ i) (h2 : M = misT ks e i (ts.drop i)) :
    I_fm ts M n i ⟨[.val (.tup ts), .own (kD ks), .val (.int e), x3, x4, x5, x6], n⟩ := ⟨_, _, _, _, _, _, rfl, h1, h2⟩
theorem sc_first_misplaced : FnScope ["tokens", "kinds", "end", "index", "token", "word", "kind"] ["tokens"] (defScope (top 14)) := ⟨rfl, rfl, rfl, by decide +kernel, rfl, by decide +kernel, by decide +kernel⟩
theorem ok_first_misplaced {P : Program} {w : World} {K : PySem.W.Frag} {mg : Str → Option Value} {base : Heap} (T : Txt K mg) (C : Cn K mg) (SY : Sty P w K mg "_STYLE_ROWS" SR) {f : Addr} {fd : FuncData} (U : Fun K "first_misplaced" "first_misplaced" (top 14) f fd) (dr : Option Addr) :
    FnG P w K mg base 1 f fd ["tokens"] (SpD K dr [false] F_first_misplaced) := by
  refine fnd_of (k := 0) U sc_first_misplaced rfl (fun cdv A callers s0 H E G0 hr hga =>
    (sd_cons (sd_own 1 sc_first_misplaced.nd (ld_lst (ad_cons pd_non ad_nil)))
      (sd_cons (sd_set 2 sc_first_misplaced.nd pd_int)
      (sd_cons (sd_for (id_enumT (pd_var 0 (pv 0)) T.enumerate) (gd_tup (n := 2) (gds_cons (gd_name 3 sc_first_misplaced.nd) (gds_cons (gd_name 4 sc_first_misplaced.nd) gds_nil))) (sd_cons (sd_set 5 sc_first_misplaced.nd (pd_ix (pd_var 4 (pv 4)) pd_int))
      (sd_one (sd_if (td_cmp (cm_eq hr) (pd_var 5 (pv 5)) pd_str) (sd_one (sd_if (td_cmp cm_ge (pd_var 3 (pv 3)) (pd_var 2 (pv 2))) (sd_one (sd_ret (pd_var 3 (pv 3)))) sd_nil)) (sd_one (sd_if (td_cmp (cm_eq hr) (pd_var 5 (pv 5)) pd_str) (sd_cons (sd_set 6 sc_first_misplaced.nd (pd_ix (pd_var 4 (pv 4)) pd_int))
      (sd_cons (sd_if (PW.pt (wd_or (td_cmp cm_gt (pd_var 2 (pv 2)) pd_int) (wd_or (td_cmp cm_gt (pd_bt bt_len T.len (ad_bor 1 (pv 1) ad_nil)) (pd_const C.MOST_OPEN)) (wd_or1 (td_cmp cm_gt (pd_add (pd_add (pd_var 3 (pv 3)) pd_int) (pd_bt bt_len T.len (ad_bor 1 (pv 1) ad_nil))) (pd_const C.MOST_TOKENS)))))) (sd_one (sd_ret (pd_var 3 (pv 3)))) sd_nil)
      (sd_cons (sd_if (td_cmp (cm_ne hr) (pd_cmp (cm_eq hr) (pd_var 6 (pv 6)) pd_str) (pd_cmp (cm_eq hr) (pd_ixV 1 (pv 1) (pd_neg pd_int)) pd_str)) (sd_one (sd_ret (pd_var 3 (pv 3)))) sd_nil)
      (sd_cons (sd_app 1 (pv 1) (pd_var 6 (pv 6)))
      (sd_one (sd_set 2 sc_first_misplaced.nd (pd_ifExp (td_cmp (cm_in) (pd_var 6 (pv 6)) (pd_const C.LINE_KINDS)) (pd_add (pd_sub (pd_const C.MOST_TOKENS) (pd_bt bt_len T.len (ad_bor 1 (pv 1) ad_nil))) pd_int) pd_int))))))) (sd_one (sd_if (td_cmp (cm_eq hr) (pd_var 5 (pv 5)) pd_str) (sd_cons (sd_if (td_cmp (cm_ne hr) (pd_ix (pd_var 4 (pv 4)) pd_int) (pd_ixV 1 (pv 1) (pd_neg pd_int))) (sd_one (sd_ret (pd_var 3 (pv 3)))) sd_nil)
      (sd_cons (sd_expr (pd_pop 1 (pv 1)))
      (sd_one (sd_set 2 sc_first_misplaced.nd pd_int)))) (sd_one (sd_if (td_cmp cm_ge (pd_var 3 (pv 3)) (pd_var 2 (pv 2))) (sd_one (sd_ret (pd_var 3 (pv 3)))) sd_nil))))))))))
      (sd_one (sd_ret (pd_ifExp (td_cmp cm_gt (pd_bt bt_len T.len (ad_bor 1 (pv 1) ad_nil)) pd_int) (pd_bt bt_len T.len (ad_cons (pd_var 0 (pv 0)) ad_nil)) pd_non))))))) ?_
  intro ds n Q hl hF
  obtain ⟨ts, rfl, hlen, hk, q⟩ := hF
  obtain ⟨M, hM⟩ : ∃ M, M = misT [] 0 0 ts := ⟨_, rfl⟩
  rw [← hM] at q
  walk_at "wx"
  refine ⟨by decide, ?_⟩
  refine forW_ind (I_fm ts M n) (enumD ts) 0 _ (I_fm_of (ks := []) (e := 0) (Nat.le_refl _) (by simpa using hM)) (fun i d s hd hI => ?_) (fun s hI => ?_)
  · obtain ⟨t, ht, rfl⟩ := enumD_get hd
    rw [Nat.zero_add] at hI ⊢
    obtain ⟨ks, e, x3, x4, x5, x6, rfl, h1, h2⟩ := hI
    have hi : i < ts.length := (List.getElem?_eq_some_iff.mp ht).1
    have hkt := hk t (List.mem_of_getElem? ht)
    have hdr : ts.drop i = t :: ts.drop (i + 1) := by
      obtain ⟨hi, e⟩ := List.getElem?_eq_some_iff.mp ht
      rw [List.drop_eq_getElem_cons hi, e]
    rw [hdr] at h2
    unfold misT at h2
    have fin : M = some i → Q (.int i) n := fun e => by rw [e] at q; exact q
    have l3 := line3000'
    rcases tok_two hkt with ⟨hw, es, rfl⟩ | ⟨x, y, hx, hw, hy, rfl⟩
    · rw [if_pos hw] at h2
      walk_at "wx"
      by_cases he : (i : Int) ≥ e
      · rw [if_pos he] at h2 ⊢
        exact fin h2
      · rw [if_neg he] at h2 ⊢
        exact I_fm_of (by omega) h2
    · rw [if_neg (by rw [hw]; exact hx), hw, hy] at h2
      walk_at "wx"
      rw [if_neg hx]
      by_cases ho : x = "open"
      · rw [if_pos ho] at h2 ⊢
        rw [kD_len]
        by_cases hb : e > 0 ∨ ((ks.length + 1 : Nat) : Int) > 12 ∨ (i : Int) + 1 + ((ks.length + 1 : Nat) : Int) > 2000
        · rw [if_pos hb] at h2
          split
          · exact fin h2
          · split
            · exact fin h2
            · rw [if_pos (by omega)]
              exact fin h2
        · rw [if_neg hb] at h2
          rw [if_neg (by omega), if_neg (by omega), if_neg (by omega)]
          rw [kD_at, gt_some]
          walk_at "wx"
          refine ⟨cEq_last ks _, ?_⟩
          rw [eqD_last]
          by_cases hq : decide (y = "item") = decide (ks.getLast? = some ("list" : Str))
          · rw [if_neg (fun z => z hq)] at h2 ⊢
            refine ⟨by rw [kD_len]; omega, ⟨rfl, by decide⟩, ?_⟩
            rw [gIn_lines, gt_some]
            have e9 : ((kD (ks ++ [y])).length : Int) = ((ks.length + 2 : Nat) : Int) := by rw [kD_len]; simp; omega
            by_cases hl : y ∈ lines
            · rw [if_pos hl] at h2
              walk_at "wx"
              rw [if_pos hl]
              walk_at "wx"
              rw [kD_add, e9]
              exact I_fm_of (by simp; omega) h2
            · rw [if_neg hl] at h2
              walk_at "wx"
              rw [if_neg hl]
              walk_at "wx"
              rw [kD_add]
              exact I_fm_of (by simp; omega) h2
          · rw [if_pos hq] at h2 ⊢
            exact fin h2
      · rw [if_neg ho] at h2 ⊢
        walk_at "wx"
        by_cases hc : x = "close"
        · rw [if_pos hc] at h2 ⊢
          rw [kD_at, gt_some]
          walk_at "wx"
          refine ⟨cEq_lastR ks _, ?_⟩
          simp only [gNe, eqD_lastR]
          walk_at "wx"
          by_cases hq : ks.getLast? = some y
          · rw [if_neg (fun z => z hq)] at h2 ⊢
            walk_at "wx"
            rw [kD_get, gt_some]
            walk_at "wx"
            rw [kD_drop hq]
            exact I_fm_of (by simp; omega) h2
          · rw [if_pos hq] at h2 ⊢
            exact fin h2
        · rw [if_neg hc] at h2 ⊢
          walk_at "wx"
          by_cases he : (i : Int) ≥ e
          · rw [if_pos he] at h2 ⊢
            exact fin h2
          · rw [if_neg he] at h2 ⊢
            exact I_fm_of (by omega) h2
  · rw [Nat.zero_add] at hI
    obtain ⟨ks, e, x3, x4, x5, x6, rfl, h1, h2⟩ := hI
    have hl : (enumD ts).length = ts.length := by simp [enumD]
    rw [hl, List.drop_length] at h2
    unfold misT at h2
    walk_at "wx"
    rw [kD_len]
    by_cases hg : 1 < ks.length + 1
    · rw [if_pos hg] at h2
      rw [if_pos (by omega)]
      rw [h2] at q
      exact q
    · rw [if_neg hg] at h2
      rw [if_neg (by omega)]
      rw [h2] at q
      exact q
def I_as (zs : List Str) (n : Nat) (rest : List Str) (s : S) : Prop := ∃ x : Sl, s = ⟨[.val (.tup (zs.map D.str)), x], n⟩
theorem sc_are_styles : FnScope ["words", "word"] ["words"] (defScope (top 16)) := ⟨rfl, rfl, rfl, by decide +kernel, rfl, by decide +kernel, by decide +kernel⟩
theorem ok_are_styles {P : Program} {w : World} {K : PySem.W.Frag} {mg : Str → Option Value} {base : Heap} (T : Txt K mg) (C : Cn K mg) (SY : Sty P w K mg "_STYLE_ROWS" SR) {f : Addr} {fd : FuncData} (U : Fun K "are_styles" "are_styles" (top 16) f fd) (dr : Option Addr) :
    FnG P w K mg base 1 f fd ["words"] (SpD K dr [false] F_are_styles) := by
  refine fnd_of (k := 0) U sc_are_styles rfl (fun cdv A callers s0 H E G0 hr hga =>
    (sd_cons (sd_for (id_seq (pd_var 0 (pv 0))) (gd_name 1 sc_are_styles.nd) (sd_one (sd_if (td_not (td_val (pd_isi (pd_var 1 (pv 1)) rfl kit_str T.isinstance T.str))) (sd_one (sd_ret pd_bl)) sd_nil)))
      (sd_one (sd_ret (pd_sty SY hr (pd_var 0 (pv 0))))))) ?_
  intro ds n Q hl hF
  obtain ⟨zs, rfl, hz, q⟩ := hF
  rw [in_rows] at q
  walk_at "wx"
  refine forW_ty (I := I_as zs n) _ _ ⟨.emp, rfl⟩ (fun z t s1 _ hI => ?_) (fun s1 hI => ?_)
  · obtain ⟨x, rfl⟩ := hI
    walk_at "wx"
    exact ⟨_, rfl⟩
  · obtain ⟨x, rfl⟩ := hI
    walk_at "wx"
    rw [show strsT (.tup (zs.map D.str)) = some zs from strsL_map zs]
    walk_at "wx"
    exact q
theorem sc__is_plain : FnScope ["c"] ["c"] (defScope (top 17)) := ⟨rfl, rfl, rfl, by decide +kernel, rfl, by decide +kernel, by decide +kernel⟩
theorem ok__is_plain {P : Program} {w : World} {K : PySem.W.Frag} {mg : Str → Option Value} {base : Heap} (T : Txt K mg) (C : Cn K mg) (SY : Sty P w K mg "_STYLE_ROWS" SR) {f : Addr} {fd : FuncData} (U : Fun K "_is_plain" "_is_plain" (top 17) f fd) (dr : Option Addr) :
    FnG P w K mg base 1 f fd ["c"] (SpD K dr [false] F__is_plain) := by
  refine fnd_of (k := 0) U sc__is_plain rfl (fun cdv A callers s0 H E G0 hr hga =>
    (sd_one (sd_ret (pd_and (pd_chain cm_le cm_le pd_str (pd_var 0 (pv 0)) pd_str) (pd_one (pd_cmp (cm_ne hr) (pd_bt bt_ord T.ord (ad_cons (pd_var 0 (pv 0)) ad_nil)) (pd_const C._PERCENT))))))) ?_
  intro ds n Q hl hF
  obtain ⟨c, rfl, q⟩ := hF
  simp (config := {maxSteps := 10000000}) only [↓f_wC, ↓f_wVar, ↓f_wBin, ↓f_wBinV, ↓f_wBinR, ↓f_wT, ↓f_wChain, ↓f_wTru, ↓f_wTruV, ↓f_tAnd, ↓f_tOr, ↓f_tNot, ↓f_andV, ↓f_orV, ↓f_notV, ↓f_if, ↓f_noPart, ↓f_part, ↓f_sl, ↓f_slV, ↓f_nil, ↓f_cons, ↓f_bor, ↓f_tup, ↓f_lst, ↓f_fn, ↓f_isi, ↓f_mt, ↓f_call, ↓f_next, ↓f_seq, ↓f_break, ↓f_cont, ↓f_drop, ↓f_ret, ↓f_retN, ↓f_ifS, ↓f_set, ↓f_ofL, ↓f_sz, ↓f_own, ↓f_par, ↓f_par3, ↓f_asgT, ↓f_iL, ↓f_iT, ↓f_iS, ↓f_iR1, ↓f_for, ↓f_lc, ↓f_yes, ↓f_dgL, ↓f_dgA, ↓f_dgC, ↓f_dpL, ↓f_dpA, ↓f_app, ↓f_pop, env0, env1, ↓bl_bl, ↓int_int, ↓str_str, ↓get_some, get_if, vget, ownE, List.length_cons, List.length_nil, List.replicate, List.getElem?_cons_zero, List.getElem?_cons_succ, List.set_cons_zero, List.set_cons_succ, Nat.zero_add, Nat.add_sub_cancel, Nat.reduceAdd, Nat.reduceSub, Nat.reduceLT, Nat.reduceLeDiff, true_and, if_true, if_false, Bool.false_eq_true, List.length_set, gLt, gLe, gGt, gGe, gIx, gLen, cLen, cT, cIx, gIsi, tyD, Option.map_some, gIn, gNin, cIn, gAll, c0, lstD, tupD, innE, wipeE, toBor, Bool.not_false, Bool.not_true, eq_self, List.map_cons, List.map_nil]
  rw [ch_sp, ch_ti, le_one, le_one]
  simp only [gOrd, cOrd]
  unfold plC at q
  by_cases h1 : 32 ≤ c
  · rw [if_pos (by simpa using h1)]
    by_cases h2 : c ≤ 126
    · rw [if_pos (by simpa using h2)]
      refine ⟨?_, ?_⟩
      · rfl
      · simp only [gNe, get_some, eqD_int]
        have e : (decide ((c : Int) = 37)) = decide (c = 37) := decide_eq_decide.mpr (by omega)
        refine ⟨.inl rfl, ?_⟩
        simpa [h1, h2, e] using q
    · rw [if_neg (by simpa using h2)]
      simpa [h2] using q
  · rw [if_neg (by simpa using h1)]
    simpa [h1] using q
theorem sc__law_mixed : FnScope ["cell", "k", "mixed"] ["cell", "k"] (defScope (top 21)) := ⟨rfl, rfl, rfl, by decide +kernel, rfl, by decide +kernel, by decide +kernel⟩
theorem ok__law_mixed {P : Program} {w : World} {K : PySem.W.Frag} {mg : Str → Option Value} {base : Heap} (T : Txt K mg) (C : Cn K mg) (SY : Sty P w K mg "_STYLE_ROWS" SR) {f : Addr} {fd : FuncData} (U : Fun K "_law_mixed" "_law_mixed" (top 21) f fd) (dr : Option Addr) :
    FnG P w K mg base 1 f fd ["cell", "k"] (SpD K dr [false, false] F__law_mixed) := by
  refine fnd_of (k := 0) U sc__law_mixed rfl (fun cdv A callers s0 H E G0 hr hga =>
    (sd_cons (sd_set 2 sc__law_mixed.nd (pd_mod (pd_bt bt_int T.int (ad_cons (pd_add (pd_add (pd_add (pd_mod (pd_bt bt_int T.int (ad_cons (pd_var 0 (pv 0)) ad_nil)) pd_int) (pd_mul (pd_mul pd_int (pd_var 1 (pv 1))) (pd_var 1 (pv 1)))) (pd_mul pd_int (pd_var 1 (pv 1)))) pd_int) ad_nil)) pd_int))
      (sd_cons (sd_set 2 sc__law_mixed.nd (pd_mod (pd_bt bt_int T.int (ad_cons (pd_mul (pd_mod (pd_bt bt_int T.int (ad_cons (pd_mul (pd_var 2 (pv 2)) (pd_var 2 (pv 2))) ad_nil)) pd_int) (pd_var 2 (pv 2))) ad_nil)) pd_int))
      (sd_one (sd_ret (pd_div (pd_mod (pd_bt bt_int T.int (ad_cons (pd_mul (pd_var 2 (pv 2)) (pd_add pd_int (pd_mul pd_int (pd_mod (pd_bt bt_int T.int (ad_cons (pd_var 1 (pv 1)) ad_nil)) pd_int)))) ad_nil)) pd_int) pd_int)))))) ?_
  intro ds n Q hl hF
  obtain ⟨c, k, rfl, h0, h1, q⟩ := hF
  walk_at "wx"
  try simp only [gInt, get_some, gI, gMulI, cI, cMul, cMod, cDiv, gMod, gDiv, DI.gSub, gAdd, cAdd]
  have hm : ∀ {a b : Int}, CMul (a % 2147483647) b := cm_mod (by decide) (by decide)
  have hm2 : ∀ {a b : Int}, CMul (a % 2147483629) b := cm_mod (by decide) (by decide)
  exact ⟨by decide, .inl ⟨by decide, by decide⟩, .inr ⟨by omega, by omega⟩, .inl ⟨by decide, by decide⟩, by decide, hm, by decide, hm, by decide, by decide, .inl ⟨by decide, by decide⟩, hm2, by decide, ⟨by decide, by decide⟩, q _⟩
abbrev lnF : D := .tup [.str "head1", .str "head2", .str "head3", .str "para"]
def I_fi (n : Nat) (xs : List D) (i : Nat) (s : S) : Prop := ∃ (ks : List Str) (x3 x4 x5 x6 : Sl), s = ⟨[.val (.tup xs), .val lnF, .val (.lst (ks.map .str)), x3, x4, x5, x6], n⟩ ∧ (∀ y ∈ ks, GKind y) ∧ ks.length ≤ 13 ∧ firT [] 0 xs = firT ks i (xs.drop i)
theorem gIn_lnF (y : Str) : gIn (.str y) lnF = some (.bl (decide (y ∈ lines))) := by
  show some (D.bl (inD (.str y) (lines.map D.str))) = _
  rw [inD_strs]
theorem gNin_lnF (y : Str) : gNin (.str y) lnF = some (.bl (!decide (y ∈ lines))) := by
  show some (D.bl (!inD (.str y) (lines.map D.str))) = _
  rw [inD_strs]
theorem gtok_three {t : D} (h : GTok t) : (∃ y, GKind y ∧ t = .tup [.str "open", .str y]) ∨ (∃ y, GKind y ∧ t = .tup [.str "close", .str y]) ∨ ∃ w es, t = .tup (.str w :: es) ∧ w ≠ "open" ∧ w ≠ "close" := by
  cases h with
  | opn y g => exact .inl ⟨y, g, rfl⟩
  | cls y g => exact .inr (.inl ⟨y, g, rfl⟩)
  | char c zs l a b d => exact .inr (.inr ⟨_, _, rfl, by decide +kernel, by decide +kernel⟩)
  | anc y g => exact .inr (.inr ⟨_, _, rfl, by decide +kernel, by decide +kernel⟩)
  | img y g => exact .inr (.inr ⟨_, _, rfl, by decide +kernel, by decide +kernel⟩)
theorem okTk_opn (ks : List Str) (y : Str) : okTk ks (.tup [.str "open", .str y]) = (!decide (inK ks ∈ lines) && decide (ks.length < 12) && (decide (y = "item") == decide (inK ks = "list"))) := by
  unfold okTk
  rw [word_first, if_pos rfl]
  rfl
theorem okTk_cls (ks : List Str) (y : Str) : okTk ks (.tup [.str "close", .str y]) = decide (inK ks = y) := by
  unfold okTk
  rw [word_first, if_neg ec_co, if_pos rfl]
  rfl
theorem okTk_gl (ks : List Str) {w : Str} {es : List D} (h1 : w ≠ "open") (h2 : w ≠ "close") : okTk ks (.tup (.str w :: es)) = decide (inK ks ∈ lines) := by
  unfold okTk
  rw [word_first, if_neg h1, if_neg h2]
theorem ks1_opn (ks : List Str) (y : Str) : ks1 ks (.tup [.str "open", .str y]) = ks ++ [y] := by
  unfold ks1
  rw [word_first, if_pos rfl]
  rfl
theorem ks1_cls (ks : List Str) (y : Str) : ks1 ks (.tup [.str "close", .str y]) = ks.dropLast := by
  unfold ks1
  rw [word_first, if_neg ec_co, if_pos rfl]
theorem ks1_gl (ks : List Str) {w : Str} {es : List D} (h1 : w ≠ "open") (h2 : w ≠ "close") : ks1 ks (.tup (.str w :: es)) = ks := by
  unfold ks1
  rw [word_first, if_neg h1, if_neg h2]
theorem bool_eq (a b : Bool) : decide (a = b) = (a == b) := by cases a <;> cases b <;> rfl
theorem I_fi_of {n : Nat} {xs : List D} {i : Nat} {ks : List Str} {l : List D} {x3 x4 x5 x6 : Sl} (e : l = ks.map .str) (h1 : ∀ y ∈ ks, GKind y) (h2 : ks.length ≤ 13) (h3 : firT [] 0 xs = firT ks i (xs.drop i)) : I_fi n xs i ⟨[.val (.tup xs), .val lnF, .val (.lst l), x3, x4, x5, x6], n⟩ := by
  subst e
  exact ⟨_, _, _, _, _, rfl, h1, h2, h3⟩
theorem sc__law_first : FnScope ["thing", "lines", "kinds", "index", "token", "inner", "is_right"] ["thing"] (defScope (top 29)) := ⟨rfl, rfl, rfl, by decide +kernel, rfl, by decide +kernel, by decide +kernel⟩
theorem ok__law_first {P : Program} {w : World} {K : PySem.W.Frag} {mg : Str → Option Value} {base : Heap} (T : Txt K mg) (C : Cn K mg) (SY : Sty P w K mg "_STYLE_ROWS" SR) {f : Addr} {fd : FuncData} (U : Fun K "_law_first" "_law_first" (top 29) f fd) (dr : Option Addr) :
    FnG P w K mg base 1 f fd ["thing"] (SpD K dr [false] F__law_first) := by
  refine fnd_of (k := 0) U sc__law_first rfl (fun cdv A callers s0 H E G0 hr hga =>
    (sd_cons (sd_par 1 2 sc__law_first.nd (ad_cons (pd_tup (ad_cons pd_str (ad_cons pd_str (ad_cons pd_str (ad_cons pd_str ad_nil))))) (ad_cons (pd_lst ad_nil) ad_nil)))
      (sd_cons (sd_for (id_enumT (pd_var 0 (pv 0)) T.enumerate) (gd_tup (n := 2) (gds_cons (gd_name 3 sc__law_first.nd) (gds_cons (gd_name 4 sc__law_first.nd) gds_nil))) (sd_cons (sd_set 5 sc__law_first.nd (pd_ifExp (td_cmp (cm_ne hr) (pd_var 2 (pv 2)) (pd_lst ad_nil)) (pd_ix (pd_var 2 (pv 2)) (pd_neg pd_int)) pd_str))
      (sd_cons (sd_if (td_cmp (cm_eq hr) (pd_ix (pd_var 4 (pv 4)) pd_int) pd_str) (sd_one (sd_set 6 sc__law_first.nd (pd_and (pd_cmp (cm_nin) (pd_var 5 (pv 5)) (pd_var 1 (pv 1))) (pd_and (pd_cmp cm_lt (pd_bt bt_len T.len (ad_cons (pd_var 2 (pv 2)) ad_nil)) pd_int) (pd_one (pd_cmp (cm_eq hr) (pd_cmp (cm_eq hr) (pd_ix (pd_var 4 (pv 4)) pd_int) pd_str) (pd_cmp (cm_eq hr) (pd_var 5 (pv 5)) pd_str))))))) (sd_one (sd_if (td_cmp (cm_eq hr) (pd_ix (pd_var 4 (pv 4)) pd_int) pd_str) (sd_one (sd_set 6 sc__law_first.nd (pd_cmp (cm_eq hr) (pd_var 5 (pv 5)) (pd_ix (pd_var 4 (pv 4)) pd_int)))) (sd_one (sd_set 6 sc__law_first.nd (pd_cmp (cm_in) (pd_var 5 (pv 5)) (pd_var 1 (pv 1))))))))
      (sd_cons (sd_if (td_not (td_truV 6 (pv 6))) (sd_one (sd_ret (pd_var 3 (pv 3)))) sd_nil)
      (sd_cons (sd_set 2 sc__law_first.nd (pd_ifExp (td_cmp (cm_eq hr) (pd_ix (pd_var 4 (pv 4)) pd_int) pd_str) (pd_add (pd_var 2 (pv 2)) (pd_lst (ad_cons (pd_ix (pd_var 4 (pv 4)) pd_int) ad_nil))) (pd_ifExp (td_cmp (cm_eq hr) (pd_ix (pd_var 4 (pv 4)) pd_int) pd_str) (pd_sl (pd_var 2 (pv 2)) od_none (od_some (pd_neg pd_int))) (pd_var 2 (pv 2)))))
      (sd_one (sd_if (td_cmp cm_gt (pd_add (pd_add (pd_var 3 (pv 3)) pd_int) (pd_bt bt_len T.len (ad_cons (pd_var 2 (pv 2)) ad_nil))) pd_int) (sd_one (sd_ret (pd_var 3 (pv 3)))) sd_nil)))))))
      (sd_one (sd_ret (pd_ifExp (td_cmp (cm_eq hr) (pd_var 2 (pv 2)) (pd_lst ad_nil)) pd_non (pd_bt bt_len T.len (ad_cons (pd_var 0 (pv 0)) ad_nil)))))))) ?_
  intro ds n Q hl hF
  obtain ⟨xs, rfl, hx, lx, q⟩ := hF
  walk_at "wx"
  refine ⟨by decide, by decide, _, _, rfl, ?_⟩
  walk_at "wx"
  refine forW_ind (I_fi n xs) (enumD xs) 0 _ ⟨[], _, _, _, _, rfl, fun _ h => (nomatch h), by simp, rfl⟩ (fun i d s hd hI => ?_) (fun s hI => ?_)
  · obtain ⟨t, ht, rfl⟩ := enumD_get hd
    rw [Nat.zero_add] at hI ⊢
    obtain ⟨ks, x3, x4, x5, x6, rfl, hk, h13, hL⟩ := hI
    have gt := hx t (List.mem_of_getElem? ht)
    rw [drop_at ht] at hL
    have e0 := cEq_strs (kinds_ok hk)
    refine get_mono (fun env' q' => seq_cut (fun s => s = ⟨[.val (.tup xs), .val lnF, .val (.lst (ks.map .str)), .val (.int i), .val t, .val (.str (inK ks)), x6], n⟩) ?_ q') ?_
    · rintro s' rfl
      refine seq_cut (fun s => s = ⟨[.val (.tup xs), .val lnF, .val (.lst (ks.map .str)), .val (.int i), .val t, .val (.str (inK ks)), .val (.bl (okTk ks t))], n⟩) ?_ ?_
      · rintro s' rfl
        rw [firT] at hL
        cases hok : okTk ks t with
        | false =>
          rw [hok, if_neg (by decide)] at hL
          rw [hL] at q
          walk_at "wx"
          exact q
        | true =>
          rw [hok, if_pos rfl] at hL
          have kk := ks1_kinds hk gt
          rcases (gtok_three gt) with ⟨y, gy, rfl⟩ | ⟨y, gy, rfl⟩ | ⟨w, es, rfl, hw1, hw2⟩
          · rw [ks1_opn] at hL kk
            rw [okTk_opn] at hok
            simp only [Bool.and_eq_true, decide_eq_true_eq] at hok
            have h12 := hok.1.2
            walk_at "wx"
            rw [show ks.map D.str ++ [.str y] = (ks ++ [y]).map .str from by rw [List.map_append]; rfl, List.length_map, List.length_map]
            refine ⟨by decide, line2 (by omega), ?_⟩
            by_cases hb : i + 1 + (ks ++ [y]).length > 2000
            · rw [if_pos hb] at hL
              rw [if_pos (by omega)]
              rw [hL] at q
              exact q
            · rw [if_neg hb] at hL
              rw [if_neg (by omega)]
              exact I_fi_of rfl kk (by simp; omega) hL
          · rw [ks1_cls] at hL kk
            walk_at "wx"
            rw [if_neg ec_co]
            walk_at "wx"
            rw [cutL_last, show (ks.map D.str).dropLast = ks.dropLast.map .str from by rw [List.map_dropLast], List.length_map]
            by_cases hb : i + 1 + ks.dropLast.length > 2000
            · rw [if_pos hb] at hL
              rw [if_pos (by omega)]
              rw [hL] at q
              exact q
            · rw [if_neg hb] at hL
              rw [if_neg (by omega)]
              exact I_fi_of rfl kk (by rw [List.length_dropLast]; omega) hL
          · rw [ks1_gl ks hw1 hw2] at hL kk
            walk_at "wx"
            rw [if_neg hw1]
            walk_at "wx"
            rw [if_neg hw2]
            walk_at "wx"
            rw [List.length_map]
            by_cases hb : i + 1 + ks.length > 2000
            · rw [if_pos hb] at hL
              rw [if_pos (by omega)]
              rw [hL] at q
              exact q
            · rw [if_neg hb] at hL
              rw [if_neg (by omega)]
              exact I_fi_of rfl kk h13 hL
      · rcases (gtok_three gt) with ⟨y, gy, rfl⟩ | ⟨y, gy, rfl⟩ | ⟨w, es, rfl, hw1, hw2⟩
        · rw [okTk_opn]
          walk_at "wx"
          refine ⟨⟨rfl, rfl⟩, ?_⟩
          rw [gNin_lnF, gt_some]
          by_cases hln : inK ks ∈ lines
          · rw [decide_eq_true hln]
            walk_at "wx"
          · rw [decide_eq_false hln]
            walk_at "wx"
            rw [List.length_map, bool_eq]
            by_cases h12 : ks.length < 12
            · rw [if_pos (by omega), decide_eq_true h12]
              rfl
            · rw [if_neg (by omega), decide_eq_false h12]
              rfl
        · rw [okTk_cls]
          walk_at "wx"
          rw [if_neg ec_co]
          walk_at "wx"
        · rw [okTk_gl ks hw1 hw2]
          walk_at "wx"
          rw [if_neg hw1]
          walk_at "wx"
          rw [if_neg hw2]
          walk_at "wx"
          refine ⟨⟨rfl, rfl⟩, ?_⟩
          rw [gIn_lnF, gt_some]
          walk_at "wx"
    · walk_at "wx"
      refine ⟨by decide, e0, ?_⟩
      rcases List.eq_nil_or_concat ks with rfl | ⟨kl, y, ec⟩
      · rw [List.map_nil, eq_ks1]
        walk_at "wx"
        rfl
      · rw [List.concat_eq_append] at ec
        subst ec
        rw [show (kl ++ [y]).map D.str = kl.map D.str ++ [.str y] from by rw [List.map_append]; rfl, eq_kat]
        walk_at "wx"
        rw [at_kat, gt_some, inK_at]
        walk_at "wx"
  · rw [Nat.zero_add] at hI
    obtain ⟨ks, x3, x4, x5, x6, rfl, hk, h13, hL⟩ := hI
    have hlen : (enumD xs).length = xs.length := by simp [enumD]
    rw [hlen, List.drop_length] at hL
    have e0 := cEq_strs (kinds_ok hk)
    walk_at "wx"
    refine ⟨by decide, e0, ?_⟩
    rw [hL] at q
    cases ks with
    | nil =>
      rw [List.map_nil, eq_ks1, if_pos rfl]
      exact q
    | cons y ks =>
      rw [List.map_cons, eq_ks0, if_neg (by decide)]
      exact q
theorem rep_one (d : D) : ∀ k : Nat, (List.replicate k [d]).flatten = List.replicate k d
  | 0 => rfl
  | k + 1 => by rw [List.replicate_succ, List.flatten_cons, rep_one d k]; rfl
theorem nat_pred (k : Nat) : ((k : Int) - 1).toNat = k - 1 := by omega
theorem sc__law_deep : FnScope ["many", "inner"] ["many"] (defScope (top 32)) := ⟨rfl, rfl, rfl, by decide +kernel, rfl, by decide +kernel, by decide +kernel⟩
theorem ok__law_deep {P : Program} {w : World} {K : PySem.W.Frag} {mg : Str → Option Value} {base : Heap} (T : Txt K mg) (C : Cn K mg) (SY : Sty P w K mg "_STYLE_ROWS" SR) {f : Addr} {fd : FuncData} (U : Fun K "_law_deep" "_law_deep" (top 32) f fd) (dr : Option Addr) :
    FnG P w K mg base 1 f fd ["many"] (SpD K dr [false] F__law_deep) := by
  refine fnd_of (k := 0) U sc__law_deep rfl (fun cdv A callers s0 H E G0 hr hga =>
    (sd_cons (sd_set 1 sc__law_deep.nd (pd_tup (ad_cons (pd_tup (ad_cons pd_str (ad_cons pd_str ad_nil))) (ad_cons (pd_tup (ad_cons pd_str (ad_cons pd_str ad_nil))) ad_nil))))
      (sd_one (sd_ret (pd_add (pd_add (pd_repA (pd_tup (ad_cons (pd_tup (ad_cons pd_str (ad_cons pd_str ad_nil))) ad_nil)) (pd_sub (pd_var 0 (pv 0)) pd_int)) (pd_var 1 (pv 1))) (pd_repA (pd_tup (ad_cons (pd_tup (ad_cons pd_str (ad_cons pd_str ad_nil))) ad_nil)) (pd_sub (pd_var 0 (pv 0)) pd_int))))))) ?_
  intro ds n Q hl hF
  obtain ⟨k, rfl, h1, h2, q⟩ := hF
  walk_at "wx"
  rw [nat_pred, rep_one, rep_one]
  exact ⟨by decide, by decide, by decide, by decide, by decide, ⟨by simp, by omega, by omega⟩, line2 (by rw [List.length_replicate]; omega), by decide, by decide, ⟨by simp, by omega, by omega⟩, line2 (by simp only [List.length_append, List.length_replicate, List.length_cons, List.length_nil]; omega), q⟩
theorem sc_is_link : FnScope ["value", "rest", "key", "_", "name", "c"] ["value"] (defScope (top 10)) := ⟨rfl, rfl, rfl, by decide +kernel, rfl, by decide +kernel, by decide +kernel⟩
theorem ok_is_link {P : Program} {w : World} {K : PySem.W.Frag} {mg : Str → Option Value} {base : Heap} (T : Txt K mg) (C : Cn K mg) (SY : Sty P w K mg "_STYLE_ROWS" SR) (D_is_id : Dn P w K mg base 1 "is_id" ["value"] F_is_id) (D__is_plain : Dn P w K mg base 1 "_is_plain" ["c"] F__is_plain) {f : Addr} {fd : FuncData} (U : Fun K "is_link" "is_link" (top 10) f fd) (dr : Option Addr) :
    FnG P w K mg base 2 f fd ["value"] (SpD K dr [false] F_is_link) := by
  refine fnd_of (k := 1) U sc_is_link rfl (fun cdv A callers s0 H E G0 hr hga =>
    (sd_cons (sd_if (td_not (td_val (pd_isi (pd_var 0 (pv 0)) rfl kit_str T.isinstance T.str))) (sd_one (sd_ret pd_bl)) sd_nil)
      (sd_cons (sd_if (td_val (pd_mt mt_st (pd_var 0 (pv 0)) pd_str)) (sd_cons (sd_set 1 sc_is_link.nd (pd_sl (pd_var 0 (pv 0)) (od_some pd_int) od_none))
      (sd_one (sd_ret (pd_and (pd_chain cm_le cm_le pd_int (pd_bt bt_len T.len (ad_cons (pd_var 1 (pv 1)) ad_nil)) pd_int) (pd_one (pd_bt bt_all T.all (ad_cons (pd_ofL (ld_lc (own := [("c", 5)]) sc_is_link.nd (id_str (pd_var 1 (pv 1))) (lct_name) (by change blkC ["value", "rest", "key", "_", "name", "c"] (defScope (top 10)) _ _ = true; decide +kernel) (fun _ _ _ _ _ => pg_name (i := 5) sc_is_link.nd rfl (.inl rfl)) (fun _ _ _ _ _ _ _ => (pts_yes)) (fun _ _ _ _ _ _ _ => (pd_and (pd_cl D__is_plain hr (by decide) hga (ad_cons (pd_var 5 (pv 5)) ad_nil)) (pd_one (pd_cmp (cm_nin) (pd_var 5 (pv 5)) pd_str)))))) ad_nil))))))) sd_nil)
      (sd_cons (sd_asg (pd_mt mt_pt (pd_var 0 (pv 0)) pd_str) (gd_tup (n := 3) (gds_cons (gd_name 2 sc_is_link.nd) (gds_cons (gd_name 3 sc_is_link.nd) (gds_cons (gd_name 4 sc_is_link.nd) gds_nil)))))
      (sd_one (sd_ret (pd_and (pd_cl D_is_id hr (by decide) hga (ad_cons (pd_var 2 (pv 2)) ad_nil)) (pd_one (pd_cl D_is_id hr (by decide) hga (ad_cons (pd_var 4 (pv 4)) ad_nil)))))))))) ?_
  intro ds n Q hl hF
  obtain ⟨d, rfl, ⟨hc1, hc2, hc3⟩, q⟩ := hF
  cases d
  case str z =>
    have hz1 := hc2 z rfl
    have hz := Nat.le_trans hz1 line1000
    simp (config := {maxSteps := 10000000}) only [↓f_wC, ↓f_wVar, ↓f_wBin, ↓f_wBinV, ↓f_wBinR, ↓f_wT, ↓f_wChain, ↓f_wTru, ↓f_wTruV, ↓f_tAnd, ↓f_tOr, ↓f_tNot, ↓f_andV, ↓f_orV, ↓f_notV, ↓f_if, ↓f_noPart, ↓f_part, ↓f_sl, ↓f_slV, ↓f_nil, ↓f_cons, ↓f_bor, ↓f_tup, ↓f_lst, ↓f_fn, ↓f_isi, ↓f_mt, ↓f_call, ↓f_next, ↓f_seq, ↓f_break, ↓f_cont, ↓f_drop, ↓f_ret, ↓f_retN, ↓f_ifS, ↓f_set, ↓f_ofL, ↓f_sz, ↓f_own, ↓f_par, ↓f_par3, ↓f_asgT, ↓f_iL, ↓f_iT, ↓f_iS, ↓f_iR1, ↓f_for, ↓f_lc, ↓f_yes, ↓f_dgL, ↓f_dgA, ↓f_dgC, ↓f_dpL, ↓f_dpA, ↓f_app, ↓f_pop, env0, env1, ↓bl_bl, ↓int_int, ↓str_str, ↓get_some, get_if, vget, ownE, List.length_cons, List.length_nil, List.replicate, List.getElem?_cons_zero, List.getElem?_cons_succ, List.set_cons_zero, List.set_cons_succ, Nat.zero_add, Nat.add_sub_cancel, Nat.reduceAdd, Nat.reduceSub, Nat.reduceLT, Nat.reduceLeDiff, true_and, if_true, if_false, Bool.false_eq_true, List.length_set, gLt, gLe, gGt, gGe, gIx, gLen, cLen, cT, cIx, gIsi, tyD, Option.map_some, gIn, gNin, cIn, gAll, c0, lstD, tupD, innE, wipeE, toBor, Bool.not_false, Bool.not_true, eq_self, List.map_cons, List.map_nil]
    simp only [linkB, linkL] at q
    rw [if_neg (by decide)]
    simp only [cZ, gStarts, get_some, bl_bl, true_and]
    by_cases h1 : Txt.startswith z "out:" = true
    · rw [if_pos h1]
      rw [if_pos h1] at q
      have hk := cutS_len z (some 4) none
      simp only [gSl, cSl, get_some]
      refine ⟨hz, ?_⟩
      generalize cutS z (some 4) none = y at *
      have hy : y.length ≤ sizeLine := by rw [slen]; exact Nat.le_trans hk hz
      rw [slen] at hy ⊢
      unfold outL at q
      generalize hcs : y.cps.toList = cs at *
      refine ⟨hy, ?_⟩
      simp only [get_some, bl_bl]
      by_cases h2 : (1 : Int) ≤ (cs.length : Int)
      · rw [if_pos (by simpa using h2)]
        by_cases h3 : (cs.length : Int) ≤ 20
        · rw [if_pos (by simpa using h3)]
          simp only [str_str, get_some]
          rw [chrs_eq, hcs]
          refine lcGo_map (g := fun d => .bl (match d with | .str ⟨⟨[c]⟩⟩ => plC c && !decide (c ∈ ([32, 60, 62, 38] : List Nat)) | _ => false)) _ _ (fun d hd P k => ?_) (by simp only [List.length_map, List.length_nil]; omega) ?_
          · obtain ⟨x, _, rfl⟩ := List.mem_map.mp hd
            rw [gNm_lt (by simp [innE_length])]
            simp (config := {maxSteps := 10000000}) only [↓f_wC, ↓f_wVar, ↓f_wBin, ↓f_wBinV, ↓f_wBinR, ↓f_wT, ↓f_wChain, ↓f_wTru, ↓f_wTruV, ↓f_tAnd, ↓f_tOr, ↓f_tNot, ↓f_andV, ↓f_orV, ↓f_notV, ↓f_if, ↓f_noPart, ↓f_part, ↓f_sl, ↓f_slV, ↓f_nil, ↓f_cons, ↓f_bor, ↓f_tup, ↓f_lst, ↓f_fn, ↓f_isi, ↓f_mt, ↓f_call, ↓f_next, ↓f_seq, ↓f_break, ↓f_cont, ↓f_drop, ↓f_ret, ↓f_retN, ↓f_ifS, ↓f_set, ↓f_ofL, ↓f_sz, ↓f_own, ↓f_par, ↓f_par3, ↓f_asgT, ↓f_iL, ↓f_iT, ↓f_iS, ↓f_iR1, ↓f_for, ↓f_lc, ↓f_yes, ↓f_dgL, ↓f_dgA, ↓f_dgC, ↓f_dpL, ↓f_dpA, ↓f_app, ↓f_pop, env0, env1, ↓bl_bl, ↓int_int, ↓str_str, ↓get_some, get_if, vget, ownE, List.length_cons, List.length_nil, List.replicate, List.getElem?_cons_zero, List.getElem?_cons_succ, List.set_cons_zero, List.set_cons_succ, Nat.zero_add, Nat.add_sub_cancel, Nat.reduceAdd, Nat.reduceSub, Nat.reduceLT, Nat.reduceLeDiff, true_and, if_true, if_false, Bool.false_eq_true, List.length_set, gLt, gLe, gGt, gGe, gIx, gLen, cLen, cT, cIx, gIsi, tyD, Option.map_some, gIn, gNin, cIn, gAll, c0, lstD, tupD, innE, wipeE, toBor, Bool.not_false, Bool.not_true, eq_self, List.map_cons, List.map_nil]
            refine ⟨x, rfl, ?_⟩
            simp only [bl_bl, get_some]
            have k' : ∀ s, s.n = n → P (D.bl (plC x && !decide (x ∈ ([32, 60, 62, 38] : List Nat)))) s := k
            cases hp : plC x with
            | true =>
              rw [if_pos rfl]
              simp only [in4, get_some]
              rw [hp, Bool.true_and] at k'
              exact k' _ rfl
            | false =>
              rw [if_neg (by decide)]
              rw [hp, Bool.false_and] at k'
              exact k' _ rfl
          · rw [List.nil_append, List.map_map]
            show DI.get (Option.map _ (blsOf (List.map (fun c => D.bl (plC c && !decide (c ∈ ([32, 60, 62, 38] : List Nat)))) cs))) _
            rw [blsOf_map (fun c => plC c && !decide (c ∈ ([32, 60, 62, 38] : List Nat))) cs]
            simp only [Option.map_some, get_some, all_map']
            have e1 : decide (1 ≤ cs.length) = true := by simp only [decide_eq_true_eq]; omega
            have e2 : decide (cs.length ≤ 20) = true := by simp only [decide_eq_true_eq]; omega
            simp only [e1, e2, Bool.true_and] at q
            exact q
        · rw [if_neg (by simpa using h3)]
          have e2 : decide (cs.length ≤ 20) = false := by simp only [decide_eq_false_iff_not]; omega
          simpa [e2] using q
      · rw [if_neg (by simpa using h2)]
        have e2 : decide (1 ≤ cs.length) = false := by simp only [decide_eq_false_iff_not]; omega
        simpa [e2] using q
    · rw [if_neg h1]
      rw [if_neg h1] at q
      simp only [cPart, gPart, get_some]
      refine ⟨⟨by decide, hz⟩, ?_⟩
      have hs := StrLaws.partition_sum z "#"
      generalize Txt.partition z "#" = pp at *
      obtain ⟨a, b, c⟩ := pp
      simp only at hs q
      obtain ⟨la, lc⟩ := part_len hs
      obtain ⟨oa, oc⟩ := part_ok hs (hc3 z rfl)
      simp only [gTp, List.length_cons, List.length_nil, Nat.reduceAdd, if_true, gsCons, gsNil, gNm, List.length_replicate, Nat.reduceLT, Option.bind_some, List.length_set, List.set_cons_succ, List.set_cons_zero, get_some]
      simp (config := {maxSteps := 10000000}) only [↓f_wC, ↓f_wVar, ↓f_wBin, ↓f_wBinV, ↓f_wBinR, ↓f_wT, ↓f_wChain, ↓f_wTru, ↓f_wTruV, ↓f_tAnd, ↓f_tOr, ↓f_tNot, ↓f_andV, ↓f_orV, ↓f_notV, ↓f_if, ↓f_noPart, ↓f_part, ↓f_sl, ↓f_slV, ↓f_nil, ↓f_cons, ↓f_bor, ↓f_tup, ↓f_lst, ↓f_fn, ↓f_isi, ↓f_mt, ↓f_call, ↓f_next, ↓f_seq, ↓f_break, ↓f_cont, ↓f_drop, ↓f_ret, ↓f_retN, ↓f_ifS, ↓f_set, ↓f_ofL, ↓f_sz, ↓f_own, ↓f_par, ↓f_par3, ↓f_asgT, ↓f_iL, ↓f_iT, ↓f_iS, ↓f_iR1, ↓f_for, ↓f_lc, ↓f_yes, ↓f_dgL, ↓f_dgA, ↓f_dgC, ↓f_dpL, ↓f_dpA, ↓f_app, ↓f_pop, env0, env1, ↓bl_bl, ↓int_int, ↓str_str, ↓get_some, get_if, vget, ownE, List.length_cons, List.length_nil, List.replicate, List.getElem?_cons_zero, List.getElem?_cons_succ, List.set_cons_zero, List.set_cons_succ, Nat.zero_add, Nat.add_sub_cancel, Nat.reduceAdd, Nat.reduceSub, Nat.reduceLT, Nat.reduceLeDiff, true_and, if_true, if_false, Bool.false_eq_true, List.length_set, gLt, gLe, gGt, gGe, gIx, gLen, cLen, cT, cIx, gIsi, tyD, Option.map_some, gIn, gNin, cIn, gAll, c0, lstD, tupD, innE, wipeE, toBor, Bool.not_false, Bool.not_true, eq_self, List.map_cons, List.map_nil]
      refine ⟨_, rfl, okS_str (Nat.le_trans la hz1) oa, ?_⟩
      simp only [bl_bl, get_some]
      have ha : idB (.str a) = idL a.cps.toList := rfl
      cases h2 : idL a.cps.toList with
      | false =>
        rw [if_neg (by rw [ha, h2]; decide)]
        rw [h2] at q
        exact q
      | true =>
        rw [if_pos (by rw [ha, h2])]
        refine ⟨_, rfl, okS_str (Nat.le_trans lc hz1) oc, ?_⟩
        rw [h2] at q
        exact q
  case drw => exact absurd rfl hc1
  case dct => exact absurd rfl hc1
  case exc => exact absurd rfl hc1
  all_goals
    simp (config := {maxSteps := 10000000}) only [↓f_wC, ↓f_wVar, ↓f_wBin, ↓f_wBinV, ↓f_wBinR, ↓f_wT, ↓f_wChain, ↓f_wTru, ↓f_wTruV, ↓f_tAnd, ↓f_tOr, ↓f_tNot, ↓f_andV, ↓f_orV, ↓f_notV, ↓f_if, ↓f_noPart, ↓f_part, ↓f_sl, ↓f_slV, ↓f_nil, ↓f_cons, ↓f_bor, ↓f_tup, ↓f_lst, ↓f_fn, ↓f_isi, ↓f_mt, ↓f_call, ↓f_next, ↓f_seq, ↓f_break, ↓f_cont, ↓f_drop, ↓f_ret, ↓f_retN, ↓f_ifS, ↓f_set, ↓f_ofL, ↓f_sz, ↓f_own, ↓f_par, ↓f_par3, ↓f_asgT, ↓f_iL, ↓f_iT, ↓f_iS, ↓f_iR1, ↓f_for, ↓f_lc, ↓f_yes, ↓f_dgL, ↓f_dgA, ↓f_dgC, ↓f_dpL, ↓f_dpA, ↓f_app, ↓f_pop, env0, env1, ↓bl_bl, ↓int_int, ↓str_str, ↓get_some, get_if, vget, ownE, List.length_cons, List.length_nil, List.replicate, List.getElem?_cons_zero, List.getElem?_cons_succ, List.set_cons_zero, List.set_cons_succ, Nat.zero_add, Nat.add_sub_cancel, Nat.reduceAdd, Nat.reduceSub, Nat.reduceLT, Nat.reduceLeDiff, true_and, if_true, if_false, Bool.false_eq_true, List.length_set, gLt, gLe, gGt, gGe, gIx, gLen, cLen, cT, cIx, gIsi, tyD, Option.map_some, gIn, gNin, cIn, gAll, c0, lstD, tupD, innE, wipeE, toBor, Bool.not_false, Bool.not_true, eq_self, List.map_cons, List.map_nil]
    exact q
theorem sc__law_next : FnScope ["draw", "bound", "found", "every", "cell"] ["draw", "bound"] (defScope (top 22)) := ⟨rfl, rfl, rfl, by decide +kernel, rfl, by decide +kernel, by decide +kernel⟩
theorem ok__law_next {P : Program} {w : World} {K : PySem.W.Frag} {mg : Str → Option Value} {base : Heap} (T : Txt K mg) (C : Cn K mg) (SY : Sty P w K mg "_STYLE_ROWS" SR) (D__law_mixed : Dn P w K mg base 1 "_law_mixed" ["cell", "k"] F__law_mixed) {f : Addr} {fd : FuncData} (U : Fun K "_law_next" "_law_next" (top 22) f fd) (dr : Option Addr) :
    FnG P w K mg base 2 f fd ["draw", "bound"] (SpD K dr [false, false] F__law_next) := by
  refine fnd_of (k := 1) U sc__law_next rfl (fun cdv A callers s0 H E G0 hr hga =>
    (sd_cons (sd_if (td_cmp cm_gt (dgL_of hr 0 (pv 0)) pd_int) (sd_cons (sd_set 2 sc__law_next.nd (pd_mod (pd_bt bt_int T.int (ad_cons (dgL_of hr 0 (pv 0)) ad_nil)) (pd_var 1 (pv 1))))
      (sd_cons (sdpL hr 0 (pv 0) (pd_div (dgL_of hr 0 (pv 0)) (pd_var 1 (pv 1))))
      (sd_one (sd_ret (pd_var 2 (pv 2)))))) sd_nil)
      (sd_cons (sd_set 3 sc__law_next.nd (dgC_of hr 0 (pv 0)))
      (sd_cons (sd_set 4 sc__law_next.nd (pd_ix (pd_var 3 (pv 3)) (pd_mod (pd_bt bt_int T.int (ad_cons (dgA_of hr 0 (pv 0)) ad_nil)) (pd_bt bt_len T.len (ad_cons (pd_var 3 (pv 3)) ad_nil)))))
      (sd_cons (sdpA hr 0 (pv 0) (pd_add (dgA_of hr 0 (pv 0)) pd_int))
      (sd_cons (sd_if (PW.pt (wd_and (td_cmp cm_ge (pd_var 4 (pv 4)) (pd_pow pd_int pd_int)) (wd_and1 (td_cmp cm_le (dgA_of hr 0 (pv 0)) (pd_bt bt_len T.len (ad_cons (pd_var 3 (pv 3)) ad_nil)))))) (sd_cons (sdpL hr 0 (pv 0) (pd_div (pd_var 4 (pv 4)) (pd_var 1 (pv 1))))
      (sd_one (sd_ret (pd_mod (pd_bt bt_int T.int (ad_cons (pd_var 4 (pv 4)) ad_nil)) (pd_var 1 (pv 1)))))) sd_nil)
      (sd_cons (sdpU hr 0 (pv 0) (pd_add (dgU_of hr 0 (pv 0)) pd_int))
      (sd_one (sd_ret (pd_mod (pd_bt bt_int T.int (ad_cons (pd_cl D__law_mixed hr (by decide) hga (ad_cons (pd_cl D__law_mixed hr (by decide) hga (ad_cons (pd_var 4 (pv 4)) (ad_cons (dgA_of hr 0 (pv 0)) ad_nil))) (ad_cons (dgU_of hr 0 (pv 0)) ad_nil))) ad_nil)) (pd_var 1 (pv 1)))))))))))) ?_
  intro ds n Q hl hF
  obtain ⟨b, rfl, hn, h0, h1, q⟩ := hF
  walk_at "wx"
  intro l
  have Qb : ∀ a : Int, Q (.int (a % b)) (n + 2) := fun a => q _ (Int.emod_nonneg _ (Int.ne_of_gt h0)) (Int.emod_lt_of_pos _ h0)
  split
  · intro l2
    walk_at "wx"
    exact ⟨h0, fun l3 => ⟨⟨h0, h1⟩, _, n + 2, rfl, by omega, Qb _⟩⟩
  · intro ns k1 k2 l2 l20 l21
    walk_at "wx"
    rw [List.length_map]
    have kz : (0 : Int) < (ns.length : Int) := by omega
    refine ⟨kz, ?_⟩
    obtain ⟨a, ea, ma⟩ := atI_lt (xs := ns.map D.int) (i := l2 % (ns.length : Int)) (Int.emod_nonneg _ (by omega)) (by rw [List.length_map]; exact Int.emod_lt_of_pos _ kz)
    obtain ⟨c, _, rfl⟩ := List.mem_map.mp ma
    rw [ea]
    walk_at "wx"
    intro l3 l30 l31
    refine ⟨_, rfl, by omega, by omega, ?_⟩
    refine ⟨⟨by decide, by decide, by decide⟩, ?_⟩
    rw [show gPow (D.int 10) (D.int 18) = some (.int 1000000000000000000) from rfl]
    walk_at "wx"
    split
    · intro l4 l40 l41
      rw [List.length_map]
      split
      · exact ⟨⟨h0, h1⟩, _, n + 2, rfl, by omega, h0, Qb _⟩
      · walk_at "wx"
        intro l5 l50 l51
        refine ⟨_, rfl, by omega, by omega, ?_⟩
        intro l6 l60 l61
        refine ⟨c, l6, rfl, l60, by omega, fun r => ?_⟩
        walk_at "wx"
        intro l7 l70 l71
        refine ⟨r, l7, rfl, l70, by omega, fun r2 => ?_⟩
        walk_at "wx"
        exact ⟨h0, Qb _⟩
    · walk_at "wx"
      intro l5 l50 l51
      refine ⟨_, rfl, by omega, by omega, ?_⟩
      intro l6 l60 l61
      refine ⟨c, l6, rfl, l60, by omega, fun r => ?_⟩
      walk_at "wx"
      intro l7 l70 l71
      refine ⟨r, l7, rfl, l70, by omega, fun r2 => ?_⟩
      walk_at "wx"
      exact ⟨h0, Qb _⟩
theorem sc__is_char : FnScope ["c", "styles", "link"] ["c", "styles", "link"] (defScope (top 18)) := ⟨rfl, rfl, rfl, by decide +kernel, rfl, by decide +kernel, by decide +kernel⟩
theorem ok__is_char {P : Program} {w : World} {K : PySem.W.Frag} {mg : Str → Option Value} {base : Heap} (T : Txt K mg) (C : Cn K mg) (SY : Sty P w K mg "_STYLE_ROWS" SR) (D_is_link : Dn P w K mg base 2 "is_link" ["value"] F_is_link) (D__is_plain : Dn P w K mg base 1 "_is_plain" ["c"] F__is_plain) (D_are_styles : Dn P w K mg base 1 "are_styles" ["words"] F_are_styles) {f : Addr} {fd : FuncData} (U : Fun K "_is_char" "_is_char" (top 18) f fd) (dr : Option Addr) :
    FnG P w K mg base 3 f fd ["c", "styles", "link"] (SpD K dr [false, false, false] F__is_char) := by
  refine fnd_of (k := 2) U sc__is_char rfl (fun cdv A callers s0 H E G0 hr hga =>
    (sd_cons (sd_if (PW.pt (wd_or (td_not (td_val (pd_isi (pd_var 0 (pv 0)) rfl kit_str T.isinstance T.str))) (wd_or (td_cmp (cm_ne hr) (pd_bt bt_len T.len (ad_cons (pd_var 0 (pv 0)) ad_nil)) pd_int) (wd_or1 (td_not (td_val (pd_cl D__is_plain hr (by decide) hga (ad_cons (pd_var 0 (pv 0)) ad_nil)))))))) (sd_one (sd_ret pd_bl)) sd_nil)
      (sd_cons (sd_if (PW.pt (wd_or (td_not (td_val (pd_isi (pd_var 1 (pv 1)) rfl kit_tuple T.isinstance T.tuple))) (wd_or1 (td_not (td_val (pd_cl D_are_styles hr (by decide) hga (ad_cons (pd_var 1 (pv 1)) ad_nil))))))) (sd_one (sd_ret pd_bl)) sd_nil)
      (sd_one (sd_ret (pd_or (pd_cmp cm_isN (pd_var 2 (pv 2)) pd_non) (pd_one (pd_cl D_is_link hr (by decide) hga (ad_cons (pd_var 2 (pv 2)) ad_nil))))))))) ?_
  intro ds n Q hl hF
  obtain ⟨c, s, l, rfl, ⟨hc1, hc2, hc3⟩, hs, hll, q⟩ := hF
  cases c
  case str z =>
    have hz := Nat.le_trans (hc2 z rfl) line1000
    simp (config := {maxSteps := 10000000}) only [↓f_wC, ↓f_wVar, ↓f_wBin, ↓f_wBinV, ↓f_wBinR, ↓f_wT, ↓f_wChain, ↓f_wTru, ↓f_wTruV, ↓f_tAnd, ↓f_tOr, ↓f_tNot, ↓f_andV, ↓f_orV, ↓f_notV, ↓f_if, ↓f_noPart, ↓f_part, ↓f_sl, ↓f_slV, ↓f_nil, ↓f_cons, ↓f_bor, ↓f_tup, ↓f_lst, ↓f_fn, ↓f_isi, ↓f_mt, ↓f_call, ↓f_next, ↓f_seq, ↓f_break, ↓f_cont, ↓f_drop, ↓f_ret, ↓f_retN, ↓f_ifS, ↓f_set, ↓f_ofL, ↓f_sz, ↓f_own, ↓f_par, ↓f_par3, ↓f_asgT, ↓f_iL, ↓f_iT, ↓f_iS, ↓f_iR1, ↓f_for, ↓f_lc, ↓f_yes, ↓f_dgL, ↓f_dgA, ↓f_dgC, ↓f_dpL, ↓f_dpA, ↓f_app, ↓f_pop, env0, env1, ↓bl_bl, ↓int_int, ↓str_str, ↓get_some, get_if, vget, ownE, List.length_cons, List.length_nil, List.replicate, List.getElem?_cons_zero, List.getElem?_cons_succ, List.set_cons_zero, List.set_cons_succ, Nat.zero_add, Nat.add_sub_cancel, Nat.reduceAdd, Nat.reduceSub, Nat.reduceLT, Nat.reduceLeDiff, true_and, if_true, if_false, Bool.false_eq_true, List.length_set, gLt, gLe, gGt, gGe, gIx, gLen, cLen, cT, cIx, gIsi, tyD, Option.map_some, gIn, gNin, cIn, gAll, c0, lstD, tupD, innE, wipeE, toBor, Bool.not_false, Bool.not_true, eq_self, List.map_cons, List.map_nil]
    rw [if_neg (by decide)]
    refine ⟨hz, .inl rfl, ?_⟩
    simp only [gNe, get_some, eqD_int, bl_bl]
    by_cases h1 : z.length = 1
    · rw [if_neg (by simp [h1])]
      obtain ⟨x, rfl⟩ := one_of h1
      refine ⟨x, rfl, ?_⟩
      simp only [bl_bl, get_some]
      unfold charB at q
      rw [signB_one] at q
      cases h2 : plC x with
      | false =>
        rw [if_pos (by rfl)]
        simpa [h2] using q
      | true =>
        rw [if_neg (by decide)]
        cases s
        case tup es =>
          obtain ⟨zs, rfl, hz5, hk⟩ := hs.t _ rfl
          simp only [gIsi, tyD, Option.map_some, isT, get_some, bl_bl]
          rw [if_neg (by decide)]
          refine ⟨zs, rfl, hz5, ?_⟩
          simp only [bl_bl, get_some]
          cases h3 : stylB (.tup (zs.map D.str)) with
          | false =>
            rw [if_pos (by rfl)]
            simpa [h2, h3] using q
          | true =>
            rw [if_neg (by decide)]
            simp only [h2, h3, Bool.true_and] at q
            cases l
            case non => exact q
            case drw => exact absurd rfl hll.nd
            case dct => exact absurd rfl hll.nd
            case exc => exact absurd rfl hll.nd
            all_goals
              simp only [gIsN, DI.isNon, get_some, bl_bl]
              rw [if_neg (by decide)]
              exact ⟨_, rfl, hll, by simpa [nonD] using q⟩
        case drw => exact absurd rfl hs.s.nd
        case dct => exact absurd rfl hs.s.nd
        case exc => exact absurd rfl hs.s.nd
        all_goals
          simp only [stylB, Bool.and_false, Bool.false_and] at q
          exact q
    · rw [if_pos (by simpa using (by omega : ¬ (z.length : Int) = 1))]
      unfold charB at q
      rw [signB_of h1] at q
      exact q
  case drw => exact absurd rfl hc1
  case dct => exact absurd rfl hc1
  case exc => exact absurd rfl hc1
  all_goals
    simp (config := {maxSteps := 10000000}) only [↓f_wC, ↓f_wVar, ↓f_wBin, ↓f_wBinV, ↓f_wBinR, ↓f_wT, ↓f_wChain, ↓f_wTru, ↓f_wTruV, ↓f_tAnd, ↓f_tOr, ↓f_tNot, ↓f_andV, ↓f_orV, ↓f_notV, ↓f_if, ↓f_noPart, ↓f_part, ↓f_sl, ↓f_slV, ↓f_nil, ↓f_cons, ↓f_bor, ↓f_tup, ↓f_lst, ↓f_fn, ↓f_isi, ↓f_mt, ↓f_call, ↓f_next, ↓f_seq, ↓f_break, ↓f_cont, ↓f_drop, ↓f_ret, ↓f_retN, ↓f_ifS, ↓f_set, ↓f_ofL, ↓f_sz, ↓f_own, ↓f_par, ↓f_par3, ↓f_asgT, ↓f_iL, ↓f_iT, ↓f_iS, ↓f_iR1, ↓f_for, ↓f_lc, ↓f_yes, ↓f_dgL, ↓f_dgA, ↓f_dgC, ↓f_dpL, ↓f_dpA, ↓f_app, ↓f_pop, env0, env1, ↓bl_bl, ↓int_int, ↓str_str, ↓get_some, get_if, vget, ownE, List.length_cons, List.length_nil, List.replicate, List.getElem?_cons_zero, List.getElem?_cons_succ, List.set_cons_zero, List.set_cons_succ, Nat.zero_add, Nat.add_sub_cancel, Nat.reduceAdd, Nat.reduceSub, Nat.reduceLT, Nat.reduceLeDiff, true_and, if_true, if_false, Bool.false_eq_true, List.length_set, gLt, gLe, gGt, gGe, gIx, gLen, cLen, cT, cIx, gIsi, tyD, Option.map_some, gIn, gNin, cIn, gAll, c0, lstD, tupD, innE, wipeE, toBor, Bool.not_false, Bool.not_true, eq_self, List.map_cons, List.map_nil]
    exact q
theorem sc__law_styles : FnScope ["draw", "some"] ["draw"] (defScope (top 23)) := ⟨rfl, rfl, rfl, by decide +kernel, rfl, by decide +kernel, by decide +kernel⟩
theorem ok__law_styles {P : Program} {w : World} {K : PySem.W.Frag} {mg : Str → Option Value} {base : Heap} (T : Txt K mg) (C : Cn K mg) (SY : Sty P w K mg "_STYLE_ROWS" SR) (D__law_next : Dn P w K mg base 2 "_law_next" ["draw", "bound"] F__law_next) {f : Addr} {fd : FuncData} (U : Fun K "_law_styles" "_law_styles" (top 23) f fd) (dr : Option Addr) :
    FnG P w K mg base 3 f fd ["draw"] (SpD K dr [false] F__law_styles) := by
  refine fnd_of (k := 2) U sc__law_styles rfl (fun cdv A callers s0 H E G0 hr hga =>
    (sd_cons (sd_set 1 sc__law_styles.nd (pd_lst (ad_cons (pd_tup (ad_cons pd_str ad_nil)) (ad_cons (pd_tup (ad_cons pd_str ad_nil)) (ad_cons (pd_tup (ad_cons pd_str ad_nil)) (ad_cons (pd_tup (ad_cons pd_str (ad_cons pd_str ad_nil))) (ad_cons (pd_tup (ad_cons pd_str (ad_cons pd_str ad_nil))) (ad_cons (pd_tup (ad_cons pd_str (ad_cons pd_str (ad_cons pd_str ad_nil)))) ad_nil))))))))
      (sd_one (sd_ret (pd_ifExp (td_cmp (cm_eq hr) (pd_cl D__law_next hr (by decide) hga (ad_cons (pd_var 0 (pv 0)) (ad_cons pd_int ad_nil))) pd_int) (pd_ix (pd_var 1 (pv 1)) (pd_cl D__law_next hr (by decide) hga (ad_cons (pd_var 0 (pv 0)) (ad_cons pd_int ad_nil)))) (pd_tup ad_nil)))))) ?_
  intro ds n Q hl hF
  obtain ⟨rfl, hn, q⟩ := hF
  walk_at "wx"
  refine ⟨by decide, by decide, by decide, by decide, by decide, by decide, by decide, next_of (by omega) (by omega) (by omega) fun r r0 r1 => ?_⟩
  walk_at "wx"
  split
  · walk_at "wx"
    refine next_of (by omega) (by omega) (by omega) fun r r0 r1 => ?_
    walk_at "wx"
    refine pick_of (P := fun d => ∃ zs ∈ rows, d = .tup (zs.map D.str)) r0 (by simpa using r1) (fun x hx => ?_) fun x hx => ?_
    · simp only [List.mem_cons, List.not_mem_nil, or_false] at hx
      rcases hx with rfl | rfl | rfl | rfl | rfl | rfl
      · exact ⟨["strong"], by decide +kernel, rfl⟩
      · exact ⟨["slant"], by decide +kernel, rfl⟩
      · exact ⟨["code"], by decide +kernel, rfl⟩
      · exact ⟨["code", "strong"], by decide +kernel, rfl⟩
      · exact ⟨["slant", "strong"], by decide +kernel, rfl⟩
      · exact ⟨["code", "slant", "strong"], by decide +kernel, rfl⟩
    · walk_at "wx"
      exact q _ _ hx (by omega) (by omega)
  · walk_at "wx"
    exact ⟨by decide, q _ _ ⟨[], by decide +kernel, rfl⟩ (by omega) (by omega)⟩
theorem sc__law_opened : FnScope ["draw", "kinds", "some"] ["draw", "kinds"] (defScope (top 26)) := ⟨rfl, rfl, rfl, by decide +kernel, rfl, by decide +kernel, by decide +kernel⟩
theorem ok__law_opened {P : Program} {w : World} {K : PySem.W.Frag} {mg : Str → Option Value} {base : Heap} (T : Txt K mg) (C : Cn K mg) (SY : Sty P w K mg "_STYLE_ROWS" SR) (D__law_next : Dn P w K mg base 2 "_law_next" ["draw", "bound"] F__law_next) {f : Addr} {fd : FuncData} (U : Fun K "_law_opened" "_law_opened" (top 26) f fd) (dr : Option Addr) :
    FnG P w K mg base 3 f fd ["draw", "kinds"] (SpD K dr [false, true] F__law_opened) := by
  refine fnd_of (k := 2) U sc__law_opened rfl (fun cdv A callers s0 H E G0 hr hga =>
    (sd_cons (sd_if (PW.pt (wd_and (td_cmpV (cm_ne hr) (pv 1) (pd_lst ad_nil)) (wd_and1 (td_cmp (cm_eq hr) (pd_ixV 1 (pv 1) (pd_neg pd_int)) pd_str)))) (sd_one (sd_ret (pd_tup (ad_cons pd_str (ad_cons pd_str ad_nil))))) sd_nil)
      (sd_cons (sd_set 2 sc__law_opened.nd (pd_lst (ad_cons pd_str (ad_cons pd_str (ad_cons pd_str (ad_cons pd_str (ad_cons pd_str (ad_cons pd_str (ad_cons pd_str (ad_cons pd_str ad_nil))))))))))
      (sd_one (sd_ret (pd_tup (ad_cons pd_str (ad_cons (pd_ix (pd_var 2 (pv 2)) (pd_cl D__law_next hr (by decide) hga (ad_cons (pd_var 0 (pv 0)) (ad_cons (pd_ifExp (td_cmp cm_lt (pd_bt bt_len T.len (ad_bor 1 (pv 1) ad_nil)) pd_int) pd_int pd_int) ad_nil)))) ad_nil)))))))) ?_
  intro ds n Q hl hF
  obtain ⟨⟨ks, rfl, h12, hk⟩, hn, q⟩ := hF
  unfold idsD at q ⊢
  rw [show initE [("draw" : Str), "kinds", "some"].length [false, true] [D.drw, D.lst (ks.map .str)] = [.val .drw, .bor (ks.map .str), .emp] from rfl]
  have e0 := cEq_strs (kinds_ok hk)
  refine seq_cut (fun s => s = ⟨[.val .drw, .bor (ks.map .str), .emp], n⟩ ∧ ks.getLast? ≠ some ("list" : Str)) ?_ ?_
  · rintro s ⟨rfl, hlast⟩
    have kd : ∀ x ∈ [D.str "para", .str "para", .str "head1", .str "head2", .str "head3", .str "section", .str "quote", .str "list"], ∃ y : Str, x = .str y ∧ GKind y ∧ y ≠ "item" := by
      intro x hx
      simp only [List.mem_cons, List.not_mem_nil, or_false] at hx
      rcases hx with rfl | rfl | rfl | rfl | rfl | rfl | rfl | rfl <;> exact ⟨_, rfl, by decide +kernel, by decide +kernel⟩
    walk_at "wx"
    refine ⟨by decide, ?_⟩
    split
    · refine next_of (by omega) (by omega) (by omega) fun r r0 r1 => ?_
      walk_at "wx"
      refine pick_of r0 (by simp only [List.length_cons, List.length_nil]; omega) kd fun x hx => ?_
      obtain ⟨y, rfl, h1, h2⟩ := hx
      walk_at "wx"
      exact ⟨by decide, q _ _ ⟨ks, y, rfl, rfl, h1, ⟨fun e => absurd e h2, fun e => absurd e hlast⟩⟩ (by omega) (by omega)⟩
    · refine next_of (by omega) (by omega) (by omega) fun r r0 r1 => ?_
      walk_at "wx"
      refine pick_of r0 (by simp only [List.length_cons, List.length_nil]; omega) kd fun x hx => ?_
      obtain ⟨y, rfl, h1, h2⟩ := hx
      walk_at "wx"
      exact ⟨by decide, q _ _ ⟨ks, y, rfl, rfl, h1, ⟨fun e => absurd e h2, fun e => absurd e hlast⟩⟩ (by omega) (by omega)⟩
  · walk_at "wx"
    refine ⟨by decide, e0, ?_⟩
    cases ks with
    | nil =>
      rw [List.map_nil, eq_ks1]
      walk_at "wx"
      intro e
      cases e
    | cons z ks =>
      rw [List.map_cons, eq_ks0]
      obtain ⟨y, hy⟩ : ∃ y, (z :: ks).getLast? = some y := ⟨_, List.getLast?_eq_some_getLast (by simp)⟩
      have ha : atI (D.str z :: ks.map .str) (-1) = some (.str y) := by
        rw [at_last _ (by simp), ← List.map_cons, last_map, hy]
        rfl
      walk_at "wx"
      rw [ha, gt_some]
      walk_at "wx"
      split
      · rename_i he
        subst he
        walk_at "wx"
        exact ⟨by decide, q _ _ ⟨z :: ks, "item", rfl, rfl, by decide +kernel, ⟨fun _ => hy, fun _ => rfl⟩⟩ (by omega) (by omega)⟩
      · rename_i he
        walk_at "wx"
        intro e
        rw [hy] at e
        cases e
        exact he rfl
theorem rep_oneG (d : D) : ∀ k : Nat, (List.replicate k [d]).flatten = List.replicate k d
  | 0 => rfl
  | k + 1 => by rw [List.replicate_succ, List.flatten_cons, rep_oneG d k]; rfl
theorem rep_twoG (d e : D) : ∀ k : Nat, (List.replicate k [d, e]).flatten.length = 2 * k ∧ ∀ x ∈ (List.replicate k [d, e]).flatten, x = d ∨ x = e
  | 0 => ⟨rfl, fun x h => nomatch h⟩
  | k + 1 => by
    obtain ⟨h1, h2⟩ := rep_twoG d e k
    rw [List.replicate_succ, List.flatten_cons]
    refine ⟨by simp [h1]; omega, fun x hx => ?_⟩
    rcases List.mem_append.mp hx with h | h
    · simpa using h
    · exact h2 x h
theorem line_big {k : Nat} (h : k ≤ 100000) : k ≤ sizeLine := Nat.le_trans h (by decide)
theorem sc__law_great : FnScope ["draw", "sign", "many", "deep", "head", "tail", "body"] ["draw"] (defScope (top 31)) := ⟨rfl, rfl, rfl, by decide +kernel, rfl, by decide +kernel, by decide +kernel⟩
theorem ok__law_great {P : Program} {w : World} {K : PySem.W.Frag} {mg : Str → Option Value} {base : Heap} (T : Txt K mg) (C : Cn K mg) (SY : Sty P w K mg "_STYLE_ROWS" SR) (D__law_next : Dn P w K mg base 2 "_law_next" ["draw", "bound"] F__law_next) {f : Addr} {fd : FuncData} (U : Fun K "_law_great" "_law_great" (top 31) f fd) (dr : Option Addr) :
    FnG P w K mg base 3 f fd ["draw"] (SpD K dr [false] F__law_great) := by
  refine fnd_of (k := 2) U sc__law_great rfl (fun cdv A callers s0 H E G0 hr hga =>
    (sd_cons (sd_par 1 2 sc__law_great.nd (ad_cons (pd_tup (ad_cons pd_str (ad_cons pd_str (ad_cons (pd_tup ad_nil) (ad_cons pd_non ad_nil))))) (ad_cons (pd_ix (pd_lst (ad_cons pd_int (ad_cons pd_int (ad_cons pd_int (ad_cons pd_int (ad_cons pd_int (ad_cons pd_int ad_nil))))))) (pd_cl D__law_next hr (by decide) hga (ad_cons (pd_var 0 (pv 0)) (ad_cons pd_int ad_nil)))) ad_nil)))
      (sd_cons (sd_set 3 sc__law_great.nd (pd_cl D__law_next hr (by decide) hga (ad_cons (pd_var 0 (pv 0)) (ad_cons pd_int ad_nil))))
      (sd_cons (sd_set 4 sc__law_great.nd (pd_add (pd_repA (pd_tup (ad_cons (pd_tup (ad_cons pd_str (ad_cons pd_str ad_nil))) ad_nil)) (pd_var 3 (pv 3))) (pd_tup (ad_cons (pd_tup (ad_cons pd_str (ad_cons pd_str ad_nil))) ad_nil))))
      (sd_cons (sd_set 5 sc__law_great.nd (pd_add (pd_tup (ad_cons (pd_tup (ad_cons pd_str (ad_cons pd_str ad_nil))) ad_nil)) (pd_repA (pd_tup (ad_cons (pd_tup (ad_cons pd_str (ad_cons pd_str ad_nil))) ad_nil)) (pd_var 3 (pv 3)))))
      (sd_cons (sd_set 6 sc__law_great.nd (pd_repA (pd_tup (ad_cons (pd_var 1 (pv 1)) ad_nil)) (pd_sub (pd_sub (pd_var 2 (pv 2)) (pd_bt bt_len T.len (ad_cons (pd_var 4 (pv 4)) ad_nil))) (pd_mul (pd_bt bt_len T.len (ad_cons (pd_var 5 (pv 5)) ad_nil)) (pd_cl D__law_next hr (by decide) hga (ad_cons (pd_var 0 (pv 0)) (ad_cons pd_int ad_nil)))))))
      (sd_one (sd_ret (pd_ix (pd_lst (ad_cons (pd_add (pd_add (pd_var 4 (pv 4)) (pd_var 6 (pv 6))) (pd_var 5 (pv 5))) (ad_cons (pd_add (pd_var 4 (pv 4)) (pd_var 6 (pv 6))) (ad_cons (pd_add (pd_add (pd_var 4 (pv 4)) (pd_var 6 (pv 6))) (pd_tup (ad_cons (pd_tup (ad_cons pd_str (ad_cons pd_str ad_nil))) ad_nil))) (ad_cons (pd_add (pd_repA (pd_tup (ad_cons (pd_tup (ad_cons pd_str (ad_cons pd_str ad_nil))) (ad_cons (pd_tup (ad_cons pd_str (ad_cons pd_str ad_nil))) ad_nil))) (pd_div (pd_var 2 (pv 2)) pd_int)) (pd_var 4 (pv 4))) ad_nil))))) (pd_cl D__law_next hr (by decide) hga (ad_cons (pd_var 0 (pv 0)) (ad_cons pd_int ad_nil)))))))))))) ?_
  intro ds n Q hl hF
  obtain ⟨rfl, hn, q⟩ := hF
  walk_at "wx"
  refine ⟨by decide, by decide, by decide, next_of (by omega) (by omega) (by omega) fun r r0 r1 => ?_⟩
  walk_at "wx"
  refine pick_of (P := fun d => ∃ k : Nat, d = .int k ∧ 1994 ≤ k ∧ k ≤ 2000) r0 (by simpa using r1) (fun x hx => ?_) fun x hx => ?_
  · simp only [List.mem_cons, List.not_mem_nil, or_false] at hx
    rcases hx with rfl | rfl | rfl | rfl | rfl | rfl <;> exact ⟨_, rfl, by decide, by decide⟩
  obtain ⟨k, rfl, k0, k1⟩ := hx
  walk_at "wx"
  refine ⟨_, _, rfl, ?_⟩
  walk_at "wx"
  refine next_of (by omega) (by omega) (by omega) fun dp d0 d1 => ?_
  walk_at "wx"
  rw [rep_oneG, rep_oneG]
  have gk : GKind "section" := by decide +kernel
  have gp : GKind "para" := by decide +kernel
  have hA : ∀ t ∈ List.replicate dp.toNat (D.tup [.str "open", .str "section"]) ++ [D.tup [.str "open", .str "para"]], GTok t := all_app (fun t h => by rw [List.eq_of_mem_replicate h]; exact .opn _ gk) (all_one (.opn _ gp))
  have hB : ∀ t ∈ [D.tup [.str "close", .str "para"]] ++ List.replicate dp.toNat (D.tup [.str "close", .str "section"]), GTok t := all_app (all_one (.cls _ gp)) (fun t h => by rw [List.eq_of_mem_replicate h]; exact .cls _ gk)
  have lA : (List.replicate dp.toNat (D.tup [.str "open", .str "section"]) ++ [D.tup [.str "open", .str "para"]]).length ≤ 4 := by simp only [List.length_append, List.length_replicate, List.length_singleton]; omega
  have lB : ([D.tup [.str "close", .str "para"]] ++ List.replicate dp.toNat (D.tup [.str "close", .str "section"])).length ≤ 4 := by simp only [List.length_append, List.length_replicate, List.length_singleton]; omega
  refine ⟨by decide, by decide, ⟨by simp, by omega, by omega⟩, by decide, by decide, line2 (by rw [List.length_replicate]; omega), by decide, by decide, by decide, by decide, ⟨by simp, by omega, by omega⟩, line2 (by rw [List.length_replicate]; omega), by decide, ?_⟩
  generalize List.replicate dp.toNat (D.tup [.str "open", .str "section"]) ++ [D.tup [.str "open", .str "para"]] = A at *
  generalize [D.tup [.str "close", .str "para"]] ++ List.replicate dp.toNat (D.tup [.str "close", .str "section"]) = B at *
  refine next_of (by omega) (by omega) (by omega) fun b b0 b1 => ?_
  have hz : -10 ≤ (k : Int) - (A.length : Int) - (B.length : Int) * b ∧ (k : Int) - (A.length : Int) - (B.length : Int) * b ≤ 2000 := by
    rcases (show b = 0 ∨ b = 1 by omega) with rfl | rfl
    · rw [Int.mul_zero]; omega
    · rw [Int.mul_one]; omega
  have hm : CMul (B.length : Int) b := by
    unfold CMul
    rcases (show b = 0 ∨ b = 1 by omega) with rfl | rfl <;> simp <;> omega
  walk_at "wx"
  generalize (k : Int) - (A.length : Int) - (B.length : Int) * b = z at hz ⊢
  obtain ⟨z0, z1⟩ := hz
  rw [rep_oneG]
  obtain ⟨p1, p2⟩ := rep_twoG (D.tup [.str "open", .str "para"]) (.tup [.str "close", .str "para"]) ((k : Int) / 2).toNat
  have hC : ∀ t ∈ List.replicate z.toNat (D.tup [.str "char", .str "x", .tup [], .non]), GTok t := fun t h => by
    rw [List.eq_of_mem_replicate h]
    exact .char 120 [] .non (by decide +kernel) (by decide +kernel) (.inl rfl)
  have hP : ∀ t ∈ (List.replicate ((k : Int) / 2).toNat [D.tup [.str "open", .str "para"], .tup [.str "close", .str "para"]]).flatten, GTok t := fun t h => by
    rcases p2 t h with rfl | rfl
    · exact .opn _ gp
    · exact .cls _ gp
  have lC : (List.replicate z.toNat (D.tup [.str "char", .str "x", .tup [], .non])).length ≤ 2000 := by rw [List.length_replicate]; omega
  have lP : (List.replicate ((k : Int) / 2).toNat [D.tup [.str "open", .str "para"], .tup [.str "close", .str "para"]]).flatten.length ≤ 2000 := by rw [p1]; omega
  have hD : CDiv (k : Int) 2 := by unfold CDiv; omega
  generalize List.replicate z.toNat (D.tup [.str "char", .str "x", .tup [], .non]) = M at *
  generalize (List.replicate ((k : Int) / 2).toNat [D.tup [.str "open", .str "para"], .tup [.str "close", .str "para"]]).flatten = N at *
  have gA : GTok (.tup [.str "anchor", .str "n1"]) := .anc _ (by decide +kernel)
  refine ⟨hm, ⟨by simp, by omega, by omega⟩, line_big (by omega), line_big (by simp only [List.length_append, List.length_singleton]; omega), line_big (by omega), line_big (by omega), by decide, by decide, line_big (by simp only [List.length_append, List.length_singleton]; omega), by decide, by decide, by decide, hD, ⟨by simp, by omega, by omega⟩, line_big (by omega), by decide, next_of (by omega) (by omega) (by omega) fun c c0 c1 => ?_⟩
  walk_at "wx"
  refine pick_of (P := fun d => ∃ ts : List D, d = .tup ts ∧ (∀ t ∈ ts, GTok t) ∧ ts.length ≤ 3000) c0 (by simpa using c1) (fun x hx => ?_) fun x hx => ?_
  · simp only [List.mem_cons, List.not_mem_nil, or_false] at hx
    rcases hx with rfl | rfl | rfl | rfl
    · exact ⟨_, rfl, all_app (all_app hA hC) hB, (by simp only [List.length_append, List.length_singleton]; omega)⟩
    · exact ⟨_, rfl, all_app hA hC, (by simp only [List.length_append, List.length_singleton]; omega)⟩
    · exact ⟨_, rfl, all_app (all_app hA hC) (all_one gA), (by simp only [List.length_append, List.length_singleton]; omega)⟩
    · exact ⟨_, rfl, all_app hP hA, (by simp only [List.length_append, List.length_singleton]; omega)⟩
  · walk_at "wx"
    exact q _ _ hx (by omega) (by omega)
theorem sc_is_token : FnScope ["value", "word"] ["value"] (defScope (top 11)) := ⟨rfl, rfl, rfl, by decide +kernel, rfl, by decide +kernel, by decide +kernel⟩
theorem ok_is_token {P : Program} {w : World} {K : PySem.W.Frag} {mg : Str → Option Value} {base : Heap} (T : Txt K mg) (C : Cn K mg) (SY : Sty P w K mg "_STYLE_ROWS" SR) (D_is_id : Dn P w K mg base 1 "is_id" ["value"] F_is_id) (D__is_char : Dn P w K mg base 3 "_is_char" ["c", "styles", "link"] F__is_char) (D_sort_of : Dn P w K mg base 1 "sort_of" ["kind"] F_sort_of) {f : Addr} {fd : FuncData} (U : Fun K "is_token" "is_token" (top 11) f fd) (dr : Option Addr) :
    FnG P w K mg base 4 f fd ["value"] (SpD K dr [false] F_is_token) := by
  refine fnd_of (k := 3) U sc_is_token rfl (fun cdv A callers s0 H E G0 hr hga =>
    (sd_cons (sd_if (PW.pt (wd_or (td_not (td_val (pd_isi (pd_var 0 (pv 0)) rfl kit_tuple T.isinstance T.tuple))) (wd_or (td_not (td_truV 0 (pv 0))) (wd_or1 (td_not (td_val (pd_isi (pd_ix (pd_var 0 (pv 0)) pd_int) rfl kit_str T.isinstance T.str))))))) (sd_one (sd_ret pd_bl)) sd_nil)
      (sd_cons (sd_set 1 sc_is_token.nd (pd_ix (pd_var 0 (pv 0)) pd_int))
      (sd_cons (sd_if (td_cmp (cm_eq hr) (pd_var 1 (pv 1)) pd_str) (sd_one (sd_ret (pd_and (pd_cmp (cm_eq hr) (pd_bt bt_len T.len (ad_cons (pd_var 0 (pv 0)) ad_nil)) pd_int) (pd_one (pd_cl D__is_char hr (by decide) hga (ad_cons (pd_ix (pd_var 0 (pv 0)) pd_int) (ad_cons (pd_ix (pd_var 0 (pv 0)) pd_int) (ad_cons (pd_ix (pd_var 0 (pv 0)) pd_int) ad_nil)))))))) sd_nil)
      (sd_cons (sd_if (td_cmp (cm_ne hr) (pd_bt bt_len T.len (ad_cons (pd_var 0 (pv 0)) ad_nil)) pd_int) (sd_one (sd_ret pd_bl)) sd_nil)
      (sd_cons (sd_if (PW.pt (wd_or (td_cmp (cm_eq hr) (pd_var 1 (pv 1)) pd_str) (wd_or1 (td_cmp (cm_eq hr) (pd_var 1 (pv 1)) pd_str)))) (sd_one (sd_ret (pd_cmp cm_notN (pd_cl D_sort_of hr (by decide) hga (ad_cons (pd_ix (pd_var 0 (pv 0)) pd_int) ad_nil)) pd_non))) sd_nil)
      (sd_one (sd_ret (pd_and (pd_or (pd_cmp (cm_eq hr) (pd_var 1 (pv 1)) pd_str) (pd_one (pd_cmp (cm_eq hr) (pd_var 1 (pv 1)) pd_str))) (pd_one (pd_cl D_is_id hr (by decide) hga (ad_cons (pd_ix (pd_var 0 (pv 0)) pd_int) ad_nil)))))))))))) ?_
  intro ds n Q hl hF
  obtain ⟨d, rfl, ⟨⟨hc1, hc2, hc3⟩, ht⟩, q⟩ := hF
  cases d
  case tup es =>
    obtain ⟨hz, he⟩ := ht _ rfl
    simp (config := {maxSteps := 10000000}) only [↓f_wC, ↓f_wVar, ↓f_wBin, ↓f_wBinV, ↓f_wBinR, ↓f_wT, ↓f_wChain, ↓f_wTru, ↓f_wTruV, ↓f_tAnd, ↓f_tOr, ↓f_tNot, ↓f_andV, ↓f_orV, ↓f_notV, ↓f_if, ↓f_noPart, ↓f_part, ↓f_sl, ↓f_slV, ↓f_nil, ↓f_cons, ↓f_bor, ↓f_tup, ↓f_lst, ↓f_fn, ↓f_isi, ↓f_mt, ↓f_call, ↓f_next, ↓f_seq, ↓f_break, ↓f_cont, ↓f_drop, ↓f_ret, ↓f_retN, ↓f_ifS, ↓f_set, ↓f_ofL, ↓f_sz, ↓f_own, ↓f_par, ↓f_par3, ↓f_asgT, ↓f_iL, ↓f_iT, ↓f_iS, ↓f_iR1, ↓f_for, ↓f_lc, ↓f_yes, ↓f_dgL, ↓f_dgA, ↓f_dgC, ↓f_dpL, ↓f_dpA, ↓f_app, ↓f_pop, env0, env1, ↓bl_bl, ↓int_int, ↓str_str, ↓get_some, get_if, vget, ownE, List.length_cons, List.length_nil, List.replicate, List.getElem?_cons_zero, List.getElem?_cons_succ, List.set_cons_zero, List.set_cons_succ, Nat.zero_add, Nat.add_sub_cancel, Nat.reduceAdd, Nat.reduceSub, Nat.reduceLT, Nat.reduceLeDiff, true_and, if_true, if_false, Bool.false_eq_true, List.length_set, gLt, gLe, gGt, gGe, gIx, gLen, cLen, cT, cIx, gIsi, tyD, Option.map_some, gIn, gNin, cIn, gAll, c0, lstD, tupD, innE, wipeE, toBor, Bool.not_false, Bool.not_true, eq_self, List.map_cons, List.map_nil]
    rw [if_neg (by decide)]
    simp only [cTru, truD, get_some, true_and]
    cases es with
    | nil =>
      rw [if_pos (by rfl)]
      exact q
    | cons e es =>
      rw [if_neg (by simp)]
      simp only [atI0, get_some]
      cases e
      case str x =>
        simp only [tyD, Option.map_some, get_some, bl_bl]
        rw [if_neg (by decide)]
        simp only [eqD_str, gEq, get_some, bl_bl]
        refine ⟨.inl rfl, ?_⟩
        simp only [tokB] at q
        by_cases h1 : x = "char"
        · rw [if_pos (by simp [h1])]
          rw [if_pos h1] at q
          refine ⟨.inl rfl, ?_⟩
          simp only [eqD_int, get_some, bl_bl]
          match es, he, q with
          | [c, s, l], he, q =>
            rw [if_pos (by simp)]
            refine ⟨c, s, l, rfl, (he c (by simp)).s, he s (by simp), (he l (by simp)).s, q⟩
          | [], he, q => exact q
          | [_], he, q => exact q
          | [_, _], he, q => exact q
          | _ :: _ :: _ :: _ :: _, he, q =>
            rw [if_neg (by simp; omega)]
            exact q
        · rw [if_neg (by simpa using h1)]
          rw [if_neg h1] at q
          refine ⟨.inl rfl, ?_⟩
          simp only [eqD_int, gNe, get_some, bl_bl]
          match es, he, q with
          | [], he, q => exact q
          | _ :: _ :: _, he, q =>
            rw [if_pos (by simp; omega)]
            exact q
          | [y], he, q =>
            rw [if_neg (by simp)]
            refine ⟨.inl rfl, ?_⟩
            have q : Q (.bl (if x = "open" ∨ x = "close" then kinB y else (decide (x = "anchor") || decide (x = "image")) && idB y)) n := q
            by_cases h2 : x = "open"
            · rw [if_pos (by simp [h2])]
              rw [if_pos (Or.inl h2)] at q
              refine ⟨y, rfl, (he y (by simp)).s, ?_⟩
              exact q
            · rw [if_neg (by simpa using h2)]
              refine ⟨.inl rfl, ?_⟩
              by_cases h3 : x = "close"
              · rw [if_pos (by simp [h3])]
                rw [if_pos (Or.inr h3)] at q
                refine ⟨y, rfl, (he y (by simp)).s, ?_⟩
                exact q
              · rw [if_neg (by simpa using h3)]
                rw [if_neg (by simp [h2, h3])] at q
                refine ⟨.inl rfl, ?_⟩
                by_cases h4 : x = "anchor"
                · rw [if_pos (by simp [h4])]
                  refine ⟨y, rfl, (he y (by simp)).s, ?_⟩
                  simpa [h4] using q
                · rw [if_neg (by simpa using h4)]
                  refine ⟨.inl rfl, ?_⟩
                  by_cases h5 : x = "image"
                  · rw [if_pos (by simp [h5])]
                    refine ⟨y, rfl, (he y (by simp)).s, ?_⟩
                    simpa [h4, h5] using q
                  · rw [if_neg (by simpa using h5)]
                    simpa [h4, h5] using q
      case drw => exact absurd rfl (he .drw (by simp)).s.nd
      case dct ks ds => exact absurd rfl (he (.dct ks ds) (by simp)).s.nd
      case exc a b c => exact absurd rfl (he (.exc a b c) (by simp)).s.nd
      all_goals exact q
  case drw => exact absurd rfl hc1
  case dct => exact absurd rfl hc1
  case exc => exact absurd rfl hc1
  all_goals
    simp (config := {maxSteps := 10000000}) only [↓f_wC, ↓f_wVar, ↓f_wBin, ↓f_wBinV, ↓f_wBinR, ↓f_wT, ↓f_wChain, ↓f_wTru, ↓f_wTruV, ↓f_tAnd, ↓f_tOr, ↓f_tNot, ↓f_andV, ↓f_orV, ↓f_notV, ↓f_if, ↓f_noPart, ↓f_part, ↓f_sl, ↓f_slV, ↓f_nil, ↓f_cons, ↓f_bor, ↓f_tup, ↓f_lst, ↓f_fn, ↓f_isi, ↓f_mt, ↓f_call, ↓f_next, ↓f_seq, ↓f_break, ↓f_cont, ↓f_drop, ↓f_ret, ↓f_retN, ↓f_ifS, ↓f_set, ↓f_ofL, ↓f_sz, ↓f_own, ↓f_par, ↓f_par3, ↓f_asgT, ↓f_iL, ↓f_iT, ↓f_iS, ↓f_iR1, ↓f_for, ↓f_lc, ↓f_yes, ↓f_dgL, ↓f_dgA, ↓f_dgC, ↓f_dpL, ↓f_dpA, ↓f_app, ↓f_pop, env0, env1, ↓bl_bl, ↓int_int, ↓str_str, ↓get_some, get_if, vget, ownE, List.length_cons, List.length_nil, List.replicate, List.getElem?_cons_zero, List.getElem?_cons_succ, List.set_cons_zero, List.set_cons_succ, Nat.zero_add, Nat.add_sub_cancel, Nat.reduceAdd, Nat.reduceSub, Nat.reduceLT, Nat.reduceLeDiff, true_and, if_true, if_false, Bool.false_eq_true, List.length_set, gLt, gLe, gGt, gGe, gIx, gLen, cLen, cT, cIx, gIsi, tyD, Option.map_some, gIn, gNin, cIn, gAll, c0, lstD, tupD, innE, wipeE, toBor, Bool.not_false, Bool.not_true, eq_self, List.map_cons, List.map_nil]
    exact q
theorem signs_ok : ∀ c ∈ ("abcxyzABZ 09.,:;!?<>&#@=/+-_'()*" : Str).cps.toList, plC c = true := by decide +kernel
theorem signs_len : ("abcxyzABZ 09.,:;!?<>&#@=/+-_'()*" : Str).length = 32 := by decide +kernel
theorem sc__law_char : FnScope ["draw", "link", "signs"] ["draw", "link"] (defScope (top 24)) := ⟨rfl, rfl, rfl, by decide +kernel, rfl, by decide +kernel, by decide +kernel⟩
theorem ok__law_char {P : Program} {w : World} {K : PySem.W.Frag} {mg : Str → Option Value} {base : Heap} (T : Txt K mg) (C : Cn K mg) (SY : Sty P w K mg "_STYLE_ROWS" SR) (D__law_styles : Dn P w K mg base 3 "_law_styles" ["draw"] F__law_styles) (D__law_next : Dn P w K mg base 2 "_law_next" ["draw", "bound"] F__law_next) {f : Addr} {fd : FuncData} (U : Fun K "_law_char" "_law_char" (top 24) f fd) (dr : Option Addr) :
    FnG P w K mg base 4 f fd ["draw", "link"] (SpD K dr [false, false] F__law_char) := by
  refine fnd_of (k := 3) U sc__law_char rfl (fun cdv A callers s0 H E G0 hr hga =>
    (sd_cons (sd_set 2 sc__law_char.nd pd_str)
      (sd_one (sd_ret (pd_tup (ad_cons pd_str (ad_cons (pd_ix (pd_var 2 (pv 2)) (pd_cl D__law_next hr (by decide) hga (ad_cons (pd_var 0 (pv 0)) (ad_cons (pd_bt bt_len T.len (ad_cons (pd_var 2 (pv 2)) ad_nil)) ad_nil)))) (ad_cons (pd_cl D__law_styles hr (by decide) hga (ad_cons (pd_var 0 (pv 0)) ad_nil)) (ad_cons (pd_var 1 (pv 1)) ad_nil))))))))) ?_
  intro ds n Q hl hF
  obtain ⟨⟨l, rfl, hlk⟩, hn, q⟩ := hF
  walk_at "wx"
  rw [signs_len]
  refine ⟨by decide, next_of (by omega) (by omega) (by omega) fun r r0 r1 => ?_⟩
  walk_at "wx"
  refine ⟨by rw [signs_len]; decide, pick_map (P := fun c => plC c = true) r0 (by rw [← slen, signs_len]; exact r1) (fun c hc => signs_ok c hc) fun c hc => ?_⟩
  walk_at "wx"
  refine ⟨rfl, by omega, fun d m hd h1 h2 => ?_⟩
  obtain ⟨zs, hz, rfl⟩ := hd
  walk_at "wx"
  exact ⟨by decide, q _ _ ⟨.char c zs l hc hz hlk, by simp only [wordD]; decide +kernel, by simp only [wordD]; decide +kernel⟩ (by omega) (by omega)⟩
theorem line3000_count_tokens : (3000 : Nat) ≤ sizeLine := by decide
theorem preT_step {ts : List D} {i : Nat} {t : D} (h : ts[i]? = some t) (hp : preT ts = i + preT (ts.drop i)) : (tokB t = true → preT ts = (i + 1) + preT (ts.drop (i + 1))) ∧ (tokB t = false → preT ts = i) := by
  have hd : ts.drop i = t :: ts.drop (i + 1) := by
    obtain ⟨hi, e⟩ := List.getElem?_eq_some_iff.mp h
    rw [List.drop_eq_getElem_cons hi, e]
  rw [hd] at hp
  constructor
  · intro k
    simp only [preT, k, if_true] at hp
    omega
  · intro k
    simp [preT, k] at hp
    exact hp
def NoMs (l : List Sl) : Prop := ∀ t, l.all (DI.notM t) = true
theorem n_v (u : Bool) (d : D) : DI.notM u (.val d) = true := rfl
theorem n_d (u : Bool) (ks : List Key) (ds : List D) : DI.notM u (.dic ks ds) = true := rfl
theorem n_e (u : Bool) : DI.notM u .emp = true := rfl
theorem n_mT (F : MF) (Pk : D → Prop) (n : Nat) : DI.notM false (.mem true F Pk n) = true := rfl
theorem n_mF (F : MF) (Pk : D → Prop) (n : Nat) : DI.notM true (.mem false F Pk n) = true := rfl
theorem e_lfN : lfD .non = some .none := rfl
theorem e_lfS (z : Str) : lfD (.str z) = some (.text z) := rfl
def I_ct (P : Program) (w : World) (ts : List D) (n i : Nat) (s : S) : Prop := ∃ (ks : List Key) (ds : List D) (n1 n2 : Nat) (x4 x5 x6 x7 x8 x9 x10 : Sl),
  s = ⟨[.val (.tup ts), .dic ks ds, .mem false (ML P w) LinkP n1, .mem true MT PairP n2, x4, x5, x6, x7, x8, x9, x10], n⟩ ∧ (∀ k ∈ ks, CharK k) ∧ ks.length ≤ i ∧ n1 ≤ i ∧ n2 ≤ i ∧ preT ts = i + preT (ts.drop i) ∧ NoMs [x4, x5, x6, x7, x8, x9, x10]
def J_ct (P : Program) (w : World) (ts : List D) (n i : Nat) (t : D) (ks : List Key) (ds : List D) (n1 n2 : Nat) (s : S) : Prop := ∃ (x6 x7 x8 x9 x10 : Sl),
  s = ⟨[.val (.tup ts), .dic ks ds, .mem false (ML P w) LinkP n1, .mem true MT PairP n2, .val (.int i), .val t, x6, x7, x8, x9, x10], n⟩ ∧ NoMs [x6, x7, x8, x9, x10]
theorem keys_put {ks : List Key} {k : Key} (h : ∀ k ∈ ks, CharK k) (hk : CharK k) : ∀ k' ∈ dPutK ks k, CharK k' := fun k' hm => by
  unfold dPutK at hm
  split at hm
  · exact h k' hm
  · rcases List.mem_append.mp hm with hm | hm
    · exact h k' hm
    · cases List.mem_singleton.mp hm
      exact hk
theorem keys_len {ks : List Key} {k : Key} {i : Nat} (h : ks.length ≤ i) : (dPutK ks k).length ≤ i + 1 := by
  unfold dPutK
  split
  · omega
  · simp; omega
theorem J_ct_of {P : Program} {w : World} {ts : List D} {n i : Nat} {t : D} {ks : List Key} {ds : List D} {n1 n2 : Nat} {x6 x7 x8 x9 x10 : Sl} (h : NoMs [x6, x7, x8, x9, x10]) : J_ct P w ts n i t ks ds n1 n2 ⟨[.val (.tup ts), .dic ks ds, .mem false (ML P w) LinkP n1, .mem true MT PairP n2, .val (.int i), .val t, x6, x7, x8, x9, x10], n⟩ := ⟨_, _, _, _, _, rfl, h⟩
theorem I_ct_of {P : Program} {w : World} {ts : List D} {n i : Nat} {ks : List Key} {ds : List D} {n1 n2 : Nat} {x4 x5 x6 x7 x8 x9 x10 : Sl} (h1 : ∀ k ∈ ks, CharK k) (h2 : ks.length ≤ i) (h3 : n1 ≤ i) (h4 : n2 ≤ i) (h5 : preT ts = i + preT (ts.drop i)) (h6 : NoMs [x4, x5, x6, x7, x8, x9, x10]) :
    I_ct P w ts n i ⟨[.val (.tup ts), .dic ks ds, .mem false (ML P w) LinkP n1, .mem true MT PairP n2, x4, x5, x6, x7, x8, x9, x10], n⟩ := ⟨_, _, _, _, _, _, _, _, _, _, _, rfl, h1, h2, h3, h4, h5, h6⟩
theorem sc_count_tokens : FnScope ["value", "characters", "links", "pairs", "index", "token", "word", "c", "styles", "link", "name"] ["value"] (defScope (top 15)) := ⟨rfl, rfl, rfl, by decide +kernel, rfl, by decide +kernel, by decide +kernel⟩
theorem ok_count_tokens {P : Program} {w : World} {K : PySem.W.Frag} {mg : Str → Option Value} {base : Heap} (T : Txt K mg) (C : Cn K mg) (SY : Sty P w K mg "_STYLE_ROWS" SR) (D_is_token : Dn P w K mg base 4 "is_token" ["value"] F_is_token) (D_are_styles : Dn P w K mg base 1 "are_styles" ["words"] F_are_styles) {f : Addr} {fd : FuncData} (U : Fun K "count_tokens" "count_tokens" (top 15) f fd) (dr : Option Addr) :
    FnG P w K mg base 5 f fd ["value"] (SpD K dr [false] F_count_tokens) := by
  refine fnd_of (k := 4) U sc_count_tokens rfl (fun cdv A callers s0 H E G0 hr hga =>
    (sd_cons (sd_dnew 1 sc_count_tokens.nd)
      (sd_cons (sd_mnewL P w 2 LinkP sc_count_tokens.nd)
      (sd_cons (sd_mnewT 3 PairP sc_count_tokens.nd)
      (sd_cons (sd_for (id_enumT (pd_var 0 (pv 0)) T.enumerate) (gd_tup (n := 2) (gds_cons (gd_name 4 sc_count_tokens.nd) (gds_cons (gd_name 5 sc_count_tokens.nd) gds_nil))) (sd_cons (sd_if (PW.pt (wd_and (td_val (pd_isi (pd_var 5 (pv 5)) rfl kit_tuple T.isinstance T.tuple)) (wd_and1 (td_cmp (cm_eq hr) (pd_bt bt_len T.len (ad_cons (pd_var 5 (pv 5)) ad_nil)) pd_int)))) (sd_cons (sd_asg (pd_var 5 (pv 5)) (gd_tup (n := 4) (gds_cons (gd_name 6 sc_count_tokens.nd) (gds_cons (gd_name 7 sc_count_tokens.nd) (gds_cons (gd_name 8 sc_count_tokens.nd) (gds_cons (gd_name 9 sc_count_tokens.nd) gds_nil))))))
      (sd_one (sd_if (PW.pt (wd_and (td_val (pd_isi (pd_var 7 (pv 7)) rfl kit_str T.isinstance T.str)) (wd_and (td_dinV hr 1 (pd_var 7 (pv 7)) (pv 1)) (wd_and (td_val (pd_isi (pd_var 8 (pv 8)) rfl kit_tuple T.isinstance T.tuple)) (wd_and (PW.pt (wd_or (td_not (td_truV 8 (pv 8))) (wd_or1 (td_val (pd_cl D_are_styles hr (by decide) hga (ad_cons (pd_var 8 (pv 8)) ad_nil)))))) (wd_and (PW.pt (wd_or (td_cmp cm_isN (pd_var 9 (pv 9)) pd_non) (wd_or1 (PW.pt (wd_and (td_val (pd_isi (pd_var 9 (pv 9)) rfl kit_str T.isinstance T.str)) (wd_and1 (td_minL P w 2 (pd_var 9 (pv 9)) (pv 2)))))))) (wd_and (td_val (pd_isi (pd_var 6 (pv 6)) rfl kit_str T.isinstance T.str)) (wd_and1 (td_cmp (cm_eq hr) (pd_var 6 (pv 6)) pd_str))))))))) (sd_one sd_continue) sd_nil))) (sd_one (sd_if (PW.pt (wd_and (td_val (pd_isi (pd_var 5 (pv 5)) rfl kit_tuple T.isinstance T.tuple)) (wd_and1 (td_cmp (cm_eq hr) (pd_bt bt_len T.len (ad_cons (pd_var 5 (pv 5)) ad_nil)) pd_int)))) (sd_cons (sd_asg (pd_var 5 (pv 5)) (gd_tup (n := 2) (gds_cons (gd_name 6 sc_count_tokens.nd) (gds_cons (gd_name 10 sc_count_tokens.nd) gds_nil))))
      (sd_one (sd_if (PW.pt (wd_and (td_val (pd_isi (pd_var 6 (pv 6)) rfl kit_str T.isinstance T.str)) (wd_and (td_val (pd_isi (pd_var 10 (pv 10)) rfl kit_str T.isinstance T.str)) (wd_and1 (td_minT hr 3 (ad_cons (pd_var 6 (pv 6)) (ad_cons (pd_var 10 (pv 10)) ad_nil)) (pv 3)))))) (sd_one sd_continue) sd_nil))) sd_nil)))
      (sd_cons (sd_if (td_not (td_val (pd_cl D_is_token hr (by decide) hga (ad_cons (pd_var 5 (pv 5)) ad_nil)))) (sd_one (sd_ret (pd_var 4 (pv 4)))) sd_nil)
      (sd_one (sd_if (td_cmp (cm_eq hr) (pd_ix (pd_var 5 (pv 5)) pd_int) pd_str) (sd_cons (sd_dput hr 1 (pv 1) (pd_ix (pd_var 5 (pv 5)) pd_int) pd_bl)
      (sd_one (sd_mputL P w 2 (pv 2) (pd_ix (pd_var 5 (pv 5)) pd_int) pd_bl))) (sd_one (sd_mputT hr 3 (pv 3) (ad_cons (pd_ix (pd_var 5 (pv 5)) pd_int) (ad_cons (pd_ix (pd_var 5 (pv 5)) pd_int) ad_nil)) pd_bl)))))))
      (sd_one (sd_ret (pd_bt bt_len T.len (ad_cons (pd_var 0 (pv 0)) ad_nil))))))))) ?_
  intro ds n Q hl hF
  obtain ⟨ts, rfl, hlen, hk, q⟩ := hF
  walk_at "wx"
  refine forW_ind (I_ct P w ts n) (enumD ts) 0 _ (I_ct_of (fun k hk => nomatch hk) (Nat.le_refl _) (Nat.le_refl _) (Nat.le_refl _) (by simp) (fun t => rfl)) (fun i d s hd hI => ?_) (fun s hI => ?_)
  · obtain ⟨t, ht, rfl⟩ := enumD_get hd
    rw [Nat.zero_add] at hI ⊢
    obtain ⟨ks, ds, n1, n2, x4, x5, x6, x7, x8, x9, x10, rfl, h1, h2, h3, h4, h5, h6⟩ := hI
    have hi : i < ts.length := (List.getElem?_eq_some_iff.mp ht).1
    have hkt := hk t (List.mem_of_getElem? ht)
    obtain ⟨st1, st2⟩ := preT_step ht h5
    refine get_mono (fun env' q' => seq_cut (J_ct P w ts n i t ks ds n1 n2) ?_ q') ?_
    · intro s' hs
      obtain ⟨x6, x7, x8, x9, x10, rfl, hN⟩ := hs
      walk_at "wx"
      refine ⟨t, rfl, hkt, ?_⟩
      cases hb : tokB t with
      | false =>
        walk_at "wx"
        rw [st2 hb] at q
        exact q
      | true =>
        walk_at "wx"
        rcases tok_form hb with ⟨z, s, l, rfl, hz, hl⟩ | ⟨x, y, hx, rfl⟩
        · have e3 : ∀ l : D, atI [D.str "char", .str z, s, l] 3 = some l := fun l => rfl
          rcases hl with rfl | ⟨y, rfl, hy⟩
          · walk_at "wx"
            refine ⟨by have := line3000_count_tokens; omega, ?_⟩
            rw [e3, gt_some]
            walk_at "wx"
            rw [e_lfN, gt_some]
            walk_at "wx"
            refine ⟨.inl rfl, by have := line3000_count_tokens; omega, ?_, ?_⟩
            · have z1 := hN false
              simp only [List.all_cons, List.all_nil, Bool.and_eq_true] at z1
              simp [lone, n_v, n_d, n_e, n_mT, n_mF, z1]
            · refine I_ct_of (keys_put h1 ⟨z, rfl, hz⟩) (keys_len h2) (by omega) (by omega) (st1 hb) (fun u => ?_)
              have z1 := hN u
              simp only [List.all_cons, List.all_nil, Bool.and_eq_true] at z1
              simp [n_v, z1]
          · walk_at "wx"
            refine ⟨by have := line3000_count_tokens; omega, ?_⟩
            rw [e3, gt_some]
            walk_at "wx"
            rw [e_lfS, gt_some]
            walk_at "wx"
            refine ⟨.inr hy, by have := line3000_count_tokens; omega, ?_, ?_⟩
            · have z1 := hN false
              simp only [List.all_cons, List.all_nil, Bool.and_eq_true] at z1
              simp [lone, n_v, n_d, n_e, n_mT, n_mF, z1]
            · refine I_ct_of (keys_put h1 ⟨z, rfl, hz⟩) (keys_len h2) (by omega) (by omega) (st1 hb) (fun u => ?_)
              have z1 := hN u
              simp only [List.all_cons, List.all_nil, Bool.and_eq_true] at z1
              simp [n_v, z1]
        · walk_at "wx"
          rw [if_neg hx]
          walk_at "wx"
          refine ⟨by decide, hb, by have := line3000_count_tokens; omega, ?_, ?_⟩
          · have z1 := hN true
            simp only [List.all_cons, List.all_nil, Bool.and_eq_true] at z1
            simp [lone, n_v, n_d, n_e, n_mT, n_mF, z1]
          · refine I_ct_of h1 (by omega) (by omega) (by omega) (st1 hb) (fun u => ?_)
            have z1 := hN u
            simp only [List.all_cons, List.all_nil, Bool.and_eq_true] at z1
            simp [n_v, z1]
    · have hNJ : NoMs [x6, x7, x8, x9, x10] := fun u => by
        have z1 := h6 u
        simp only [List.all_cons, List.all_nil, Bool.and_eq_true] at z1
        simp only [List.all_cons, List.all_nil, Bool.and_eq_true, z1, and_self]
      cases t with
      | tup es =>
        obtain ⟨he1, he2⟩ := hkt.t _ rfl
        by_cases g4 : ∃ a b c d, es = [a, b, c, d]
        · obtain ⟨a, b, c, d, rfl⟩ := g4
          have ka := he2 a (by simp)
          have kb := he2 b (by simp)
          have kc := he2 c (by simp)
          have kd := he2 d (by simp)
          have i4 : ((4 : Nat) : Int) = 4 := rfl
          have hNv : ∀ (va vb vc vd : D), NoMs [.val va, .val vb, .val vc, .val vd, x10] := fun va vb vc vd u => by
            have z1 := h6 u
            simp only [List.all_cons, List.all_nil, Bool.and_eq_true] at z1
            simp [n_v, z1]
          have hNv2 : ∀ (v1 v2 va vb vc vd : D), NoMs [.val v1, .val v2, .val va, .val vb, .val vc, .val vd, x10] := fun v1 v2 va vb vc vd u => by
            have z1 := h6 u
            simp only [List.all_cons, List.all_nil, Bool.and_eq_true] at z1
            simp [n_v, z1]
          cases b with
          | str z =>
            walk_at "wx"
            rw [if_pos i4]
            walk_at "wx"
            by_cases hz : hasK ks (Sum.inr z) = true
            · rw [if_pos hz]
              have gz : signB (.str z) = true := by
                obtain ⟨z', e, h⟩ := h1 _ (hasK_mem.mp hz)
                cases e
                exact h
              cases c with
              | tup es =>
                obtain ⟨zs, rfl, hz20, hzok⟩ := kc.t _ rfl
                walk_at "wx"
                cases zs with
                | nil =>
                  simp only [cTru, truD, List.map_nil, List.isEmpty_nil, true_and, gt_some]
                  have hst : stylB (.tup []) = true := by decide +kernel
                  walk_at "wx"
                  cases d with
                  | non =>
                    walk_at "wx"
                    cases a with
                    | str x =>
                      walk_at "wx"
                      by_cases hx : x = "char"
                      · subst hx
                        rw [if_pos rfl]
                        walk_at "wx"
                        refine I_ct_of h1 (by omega) (by omega) (by omega) (st1 ?_) (hNv2 _ _ _ _ _ _)
                        simp [tokB, charB, gz, hst, nonD]
                      · rw [if_neg hx]
                        walk_at "wx"
                        exact J_ct_of (hNv _ _ _ _)
                    | dct _ _ => exact absurd rfl ka.s.nd
                    | drw => exact absurd rfl ka.s.nd
                    | exc _ _ _ => exact absurd rfl ka.s.nd
                    | _ =>
                      walk_at "wx"
                      exact J_ct_of (hNv _ _ _ _)
                  | str y =>
                    walk_at "wx"
                    refine fun bb hbb => ?_
                    cases bb with
                    | false =>
                      walk_at "wx"
                      exact J_ct_of (hNv _ _ _ _)
                    | true =>
                      have gl : linkB (.str y) = true := (hbb rfl).resolve_left (by simp [nonD])
                      walk_at "wx"
                      cases a with
                      | str x =>
                        walk_at "wx"
                        by_cases hx : x = "char"
                        · subst hx
                          rw [if_pos rfl]
                          walk_at "wx"
                          refine I_ct_of h1 (by omega) (by omega) (by omega) (st1 ?_) (hNv2 _ _ _ _ _ _)
                          simp [tokB, charB, gz, hst, nonD, gl]
                        · rw [if_neg hx]
                          walk_at "wx"
                          exact J_ct_of (hNv _ _ _ _)
                      | dct _ _ => exact absurd rfl ka.s.nd
                      | drw => exact absurd rfl ka.s.nd
                      | exc _ _ _ => exact absurd rfl ka.s.nd
                      | _ =>
                        walk_at "wx"
                        exact J_ct_of (hNv _ _ _ _)
                  | dct _ _ => exact absurd rfl kd.s.nd
                  | drw => exact absurd rfl kd.s.nd
                  | exc _ _ _ => exact absurd rfl kd.s.nd
                  | _ =>
                    walk_at "wx"
                    exact J_ct_of (hNv _ _ _ _)
                | cons z0 zs =>
                  simp only [cTru, truD, List.map_cons, true_and, gt_some]
                  walk_at "wx"
                  rw [if_neg (by simp)]
                  walk_at "wx"
                  refine ⟨z0 :: zs, rfl, hz20, ?_⟩
                  cases hst : stylB (.tup ((z0 :: zs).map D.str)) with
                  | false =>
                    walk_at "wx"
                    exact J_ct_of (hNv _ _ _ _)
                  | true =>
                    walk_at "wx"
                    cases d with
                    | non =>
                      walk_at "wx"
                      cases a with
                      | str x =>
                        walk_at "wx"
                        by_cases hx : x = "char"
                        · subst hx
                          rw [if_pos rfl]
                          walk_at "wx"
                          refine I_ct_of h1 (by omega) (by omega) (by omega) (st1 ?_) (hNv2 _ _ _ _ _ _)
                          simp only [List.map_cons] at hst
                          simp [tokB, charB, gz, hst, nonD]
                        · rw [if_neg hx]
                          walk_at "wx"
                          exact J_ct_of (hNv _ _ _ _)
                      | dct _ _ => exact absurd rfl ka.s.nd
                      | drw => exact absurd rfl ka.s.nd
                      | exc _ _ _ => exact absurd rfl ka.s.nd
                      | _ =>
                        walk_at "wx"
                        exact J_ct_of (hNv _ _ _ _)
                    | str y =>
                      walk_at "wx"
                      refine fun bb hbb => ?_
                      cases bb with
                      | false =>
                        walk_at "wx"
                        exact J_ct_of (hNv _ _ _ _)
                      | true =>
                        have gl : linkB (.str y) = true := (hbb rfl).resolve_left (by simp [nonD])
                        walk_at "wx"
                        cases a with
                        | str x =>
                          walk_at "wx"
                          by_cases hx : x = "char"
                          · subst hx
                            rw [if_pos rfl]
                            walk_at "wx"
                            refine I_ct_of h1 (by omega) (by omega) (by omega) (st1 ?_) (hNv2 _ _ _ _ _ _)
                            simp only [List.map_cons] at hst
                            simp [tokB, charB, gz, hst, nonD, gl]
                          · rw [if_neg hx]
                            walk_at "wx"
                            exact J_ct_of (hNv _ _ _ _)
                        | dct _ _ => exact absurd rfl ka.s.nd
                        | drw => exact absurd rfl ka.s.nd
                        | exc _ _ _ => exact absurd rfl ka.s.nd
                        | _ =>
                          walk_at "wx"
                          exact J_ct_of (hNv _ _ _ _)
                    | dct _ _ => exact absurd rfl kd.s.nd
                    | drw => exact absurd rfl kd.s.nd
                    | exc _ _ _ => exact absurd rfl kd.s.nd
                    | _ =>
                      walk_at "wx"
                      exact J_ct_of (hNv _ _ _ _)
              | dct _ _ => exact absurd rfl kc.s.nd
              | drw => exact absurd rfl kc.s.nd
              | exc _ _ _ => exact absurd rfl kc.s.nd
              | _ =>
                walk_at "wx"
                exact J_ct_of (hNv _ _ _ _)
            · rw [if_neg hz]
              walk_at "wx"
              exact J_ct_of (hNv _ _ _ _)
          | dct _ _ => exact absurd rfl kb.s.nd
          | drw => exact absurd rfl kb.s.nd
          | exc _ _ _ => exact absurd rfl kb.s.nd
          | _ =>
            walk_at "wx"
            rw [if_pos i4]
            walk_at "wx"
            exact J_ct_of (hNv _ _ _ _)
        · have n4 : es.length ≠ 4 := fun z => g4 (by
            match es, z with
            | [a, b, c, d], _ => exact ⟨a, b, c, d, rfl⟩)
          by_cases g2 : ∃ a b, es = [a, b]
          · obtain ⟨a, b, rfl⟩ := g2
            have ka := he2 a (by simp)
            have kb := he2 b (by simp)
            have i2 : ((2 : Nat) : Int) = 2 := rfl
            have i24 : ¬ ((2 : Nat) : Int) = 4 := by decide
            have hNp : ∀ (va vb : D), NoMs [.val va, x7, x8, x9, .val vb] := fun va vb u => by
              have z1 := h6 u
              simp only [List.all_cons, List.all_nil, Bool.and_eq_true] at z1
              simp [n_v, z1]
            have hNq : ∀ (v1 v2 va vb : D), NoMs [.val v1, .val v2, .val va, x7, x8, x9, .val vb] := fun v1 v2 va vb u => by
              have z1 := h6 u
              simp only [List.all_cons, List.all_nil, Bool.and_eq_true] at z1
              simp [n_v, z1]
            walk_at "wx"
            rw [if_neg i24]
            walk_at "wx"
            try rw [if_pos i2]
            walk_at "wx"
            cases a with
            | str x =>
              walk_at "wx"
              cases b with
              | str y =>
                walk_at "wx"
                refine ⟨by decide, fun bb hbb => ?_⟩
                cases bb with
                | false =>
                  walk_at "wx"
                  exact J_ct_of (hNp _ _)
                | true =>
                  walk_at "wx"
                  exact I_ct_of h1 (by omega) (by omega) (by omega) (st1 (hbb rfl)) (hNq _ _ _ _)
              | dct _ _ => exact absurd rfl kb.s.nd
              | drw => exact absurd rfl kb.s.nd
              | exc _ _ _ => exact absurd rfl kb.s.nd
              | _ =>
                walk_at "wx"
                exact J_ct_of (hNp _ _)
            | dct _ _ => exact absurd rfl ka.s.nd
            | drw => exact absurd rfl ka.s.nd
            | exc _ _ _ => exact absurd rfl ka.s.nd
            | _ =>
              walk_at "wx"
              exact J_ct_of (hNp _ _)
          · have n2 : es.length ≠ 2 := fun z => g2 (by
              match es, z with
              | [a, b], _ => exact ⟨a, b, rfl⟩)
            have i4 : ¬ ((es.length : Nat) : Int) = 4 := by omega
            have i2 : ¬ ((es.length : Nat) : Int) = 2 := by omega
            walk_at "wx"
            rw [if_neg i4]
            walk_at "wx"
            rw [if_neg i2]
            walk_at "wx"
            exact J_ct_of hNJ
      | dct a b => exact absurd rfl hkt.s.nd
      | drw => exact absurd rfl hkt.s.nd
      | exc a b c => exact absurd rfl hkt.s.nd
      | _ =>
        walk_at "wx"
        exact J_ct_of hNJ
  · rw [Nat.zero_add] at hI
    obtain ⟨ks, ds, n1, n2, x4, x5, x6, x7, x8, x9, x10, rfl, h1, h2, h3, h4, h5, h6⟩ := hI
    walk_at "wx"
    have hl : (enumD ts).length = ts.length := by simp [enumD]
    rw [hl, List.drop_length] at h5
    have h7 : preT ts = ts.length := h5
    rw [h7] at q
    exact q
theorem gl_word {x y : Str} (h : GTok (.tup [.str x, .str y])) (h1 : x ≠ "open") (h2 : x ≠ "close") : Glyph (.tup [.str x, .str y]) := ⟨h, h1, h2⟩
theorem eq_ids0 : eqD (.lst []) (.lst []) = true := by decide +kernel
theorem eq_ids1 (z : Str) (a : List Str) : eqD (.lst (.str z :: a.map .str)) (.lst []) = false := eqD_nil (z :: a)
theorem sc__law_glyph : FnScope ["draw", "names", "images", "way"] ["draw", "names", "images"] (defScope (top 25)) := ⟨rfl, rfl, rfl, by decide +kernel, rfl, by decide +kernel, by decide +kernel⟩
theorem ok__law_glyph {P : Program} {w : World} {K : PySem.W.Frag} {mg : Str → Option Value} {base : Heap} (T : Txt K mg) (C : Cn K mg) (SY : Sty P w K mg "_STYLE_ROWS" SR) (D__law_next : Dn P w K mg base 2 "_law_next" ["draw", "bound"] F__law_next) (D__law_char : Dn P w K mg base 4 "_law_char" ["draw", "link"] F__law_char) {f : Addr} {fd : FuncData} (U : Fun K "_law_glyph" "_law_glyph" (top 25) f fd) (dr : Option Addr) :
    FnG P w K mg base 5 f fd ["draw", "names", "images"] (SpD K dr [false, false, false] F__law_glyph) := by
  refine fnd_of (k := 4) U sc__law_glyph rfl (fun cdv A callers s0 H E G0 hr hga =>
    (sd_cons (sd_set 3 sc__law_glyph.nd (pd_cl D__law_next hr (by decide) hga (ad_cons (pd_var 0 (pv 0)) (ad_cons pd_int ad_nil))))
      (sd_cons (sd_if (PW.pt (wd_and (td_cmp (cm_eq hr) (pd_var 3 (pv 3)) pd_int) (wd_and1 (td_cmp (cm_ne hr) (pd_var 1 (pv 1)) (pd_lst ad_nil))))) (sd_one (sd_ret (pd_tup (ad_cons pd_str (ad_cons (pd_ix (pd_var 1 (pv 1)) (pd_cl D__law_next hr (by decide) hga (ad_cons (pd_var 0 (pv 0)) (ad_cons (pd_bt bt_len T.len (ad_cons (pd_var 1 (pv 1)) ad_nil)) ad_nil)))) ad_nil))))) sd_nil)
      (sd_cons (sd_if (PW.pt (wd_and (td_cmp (cm_eq hr) (pd_var 3 (pv 3)) pd_int) (wd_and1 (td_cmp (cm_ne hr) (pd_var 2 (pv 2)) (pd_lst ad_nil))))) (sd_one (sd_ret (pd_tup (ad_cons pd_str (ad_cons (pd_ix (pd_var 2 (pv 2)) (pd_cl D__law_next hr (by decide) hga (ad_cons (pd_var 0 (pv 0)) (ad_cons (pd_bt bt_len T.len (ad_cons (pd_var 2 (pv 2)) ad_nil)) ad_nil)))) ad_nil))))) sd_nil)
      (sd_one (sd_ret (pd_cl D__law_char hr (by decide) hga (ad_cons (pd_var 0 (pv 0)) (ad_cons pd_non ad_nil))))))))) ?_
  intro ds n Q hl hF
  obtain ⟨⟨a, b, rfl, ha, hb, la, lb⟩, hn, q⟩ := hF
  have fin : F__law_char.f [.drw, .non] (n + 2) Q := ⟨⟨_, rfl, .inl rfl⟩, by omega, fun d m hd h1 h2 => q d m hd (by omega) (by omega)⟩
  have e0 := cEq_strs (ids_ok ha)
  have e1 := cEq_strs (ids_ok hb)
  unfold idsD
  walk_at "wx"
  refine next_of (by omega) (by omega) (by omega) fun r r0 r1 => ?_
  walk_at "wx"
  by_cases hr0 : r = 0
  · rw [if_pos hr0]
    refine ⟨by decide, e0, ?_⟩
    cases a with
    | nil =>
      rw [List.map_nil, eq_ids0]
      walk_at "wx"
      have hr1 : ¬ r = 1 := by omega
      rw [if_neg hr1]
      walk_at "wx"
      exact fin
    | cons z a =>
      rw [List.map_cons, eq_ids1]
      walk_at "wx"
      simp only [List.length_cons] at la
      refine next_of (by omega) (by omega) (by rw [List.length_map]; omega) fun r' r0' r1' => ?_
      walk_at "wx"
      refine pick_str (a := z :: a) r0' r1' ha fun z hz => ?_
      walk_at "wx"
      exact ⟨by decide, q _ _ (gl_word (.anc z hz) (by decide +kernel) (by decide +kernel)) (by omega) (by omega)⟩
  · rw [if_neg hr0]
    by_cases hr1 : r = 1
    · walk_at "wx"
      rw [if_pos hr1]
      refine ⟨by decide, e1, ?_⟩
      cases b with
      | nil =>
        rw [List.map_nil, eq_ids0]
        walk_at "wx"
        exact fin
      | cons z b =>
        rw [List.map_cons, eq_ids1]
        walk_at "wx"
        simp only [List.length_cons] at lb
        refine next_of (by omega) (by omega) (by rw [List.length_map]; omega) fun r' r0' r1' => ?_
        walk_at "wx"
        refine pick_str (a := z :: b) r0' r1' hb fun z hz => ?_
        walk_at "wx"
        exact ⟨by decide, q _ _ (gl_word (.img z hz) (by decide +kernel) (by decide +kernel)) (by omega) (by omega)⟩
    · walk_at "wx"
      rw [if_neg hr1]
      walk_at "wx"
      exact fin
theorem sc__law_rough : FnScope ["draw", "some"] ["draw"] (defScope (top 28)) := ⟨rfl, rfl, rfl, by decide +kernel, rfl, by decide +kernel, by decide +kernel⟩
theorem ok__law_rough {P : Program} {w : World} {K : PySem.W.Frag} {mg : Str → Option Value} {base : Heap} (T : Txt K mg) (C : Cn K mg) (SY : Sty P w K mg "_STYLE_ROWS" SR) (D__law_next : Dn P w K mg base 2 "_law_next" ["draw", "bound"] F__law_next) (D__law_char : Dn P w K mg base 4 "_law_char" ["draw", "link"] F__law_char) {f : Addr} {fd : FuncData} (U : Fun K "_law_rough" "_law_rough" (top 28) f fd) (dr : Option Addr) :
    FnG P w K mg base 5 f fd ["draw"] (SpD K dr [false] F__law_rough) := by
  refine fnd_of (k := 4) U sc__law_rough rfl (fun cdv A callers s0 H E G0 hr hga =>
    (sd_cons (sd_set 1 sc__law_rough.nd (pd_lst (ad_cons (pd_tup (ad_cons pd_str (ad_cons pd_str ad_nil))) (ad_cons (pd_tup (ad_cons pd_str (ad_cons pd_str ad_nil))) (ad_cons (pd_tup (ad_cons pd_str (ad_cons pd_str ad_nil))) (ad_cons (pd_tup (ad_cons pd_str (ad_cons pd_str ad_nil))) (ad_cons (pd_tup (ad_cons pd_str (ad_cons pd_str ad_nil))) ad_nil)))))))
      (sd_one (sd_ret (pd_ix (pd_add (pd_var 1 (pv 1)) (pd_lst (ad_cons (pd_cl D__law_char hr (by decide) hga (ad_cons (pd_var 0 (pv 0)) (ad_cons pd_str ad_nil))) ad_nil))) (pd_cl D__law_next hr (by decide) hga (ad_cons (pd_var 0 (pv 0)) (ad_cons pd_int ad_nil)))))))) ?_
  intro ds n Q hl hF
  obtain ⟨rfl, hn, q⟩ := hF
  walk_at "wx"
  refine ⟨by decide, by decide, by decide, by decide, by decide, by decide, ⟨_, rfl, .inr ⟨_, rfl, by decide +kernel, by decide +kernel, by decide +kernel⟩⟩, by omega, fun c m hc h1 h2 => ?_⟩
  walk_at "wx"
  refine ⟨by decide, by decide, next_of (by omega) (by omega) (by omega) fun r r0 r1 => ?_⟩
  walk_at "wx"
  refine pick_of (P := GTok) r0 (by simpa using r1) (fun x hx => ?_) fun x hx => ?_
  · simp only [List.cons_append, List.nil_append, List.mem_cons, List.not_mem_nil, or_false] at hx
    rcases hx with rfl | rfl | rfl | rfl | rfl | rfl
    · exact .opn _ (by decide +kernel)
    · exact .cls _ (by decide +kernel)
    · exact .opn _ (by decide +kernel)
    · exact .cls _ (by decide +kernel)
    · exact .anc _ (by decide +kernel)
    · exact hc.1
  · walk_at "wx"
    exact q _ _ hx (by omega) (by omega)
theorem preT_le : ∀ ts : List D, preT ts ≤ ts.length
  | [] => Nat.le_refl _
  | t :: ts => by
    have := preT_le ts
    simp only [preT, List.length_cons]
    split <;> omega
theorem preT_tok : ∀ {ts : List D}, ∀ t ∈ ts.take (preT ts), tokB t = true
  | [], t, h => by simp at h
  | x :: ts, t, h => by
    by_cases k : tokB x = true
    · simp only [preT, k, if_true, List.take_succ_cons, List.mem_cons] at h
      rcases h with rfl | h
      · exact k
      · exact preT_tok t h
    · simp [preT, k] at h
theorem cut_take {α : Type} (l : List α) (j : Nat) (hj : j ≤ l.length) : cutL l none (some (j : Int)) = l.take j := by
  have h := cutg_start (l.take j) (l.drop j) j (by rw [List.length_take]; omega)
  rw [List.take_append_drop] at h
  exact h
theorem sc_first_bad : FnScope ["value", "count", "place"] ["value"] (defScope (top 13)) := ⟨rfl, rfl, rfl, by decide +kernel, rfl, by decide +kernel, by decide +kernel⟩
theorem ok_first_bad {P : Program} {w : World} {K : PySem.W.Frag} {mg : Str → Option Value} {base : Heap} (T : Txt K mg) (C : Cn K mg) (SY : Sty P w K mg "_STYLE_ROWS" SR) (D_count_tokens : Dn P w K mg base 5 "count_tokens" ["value"] F_count_tokens) (D_first_misplaced : Dn P w K mg base 1 "first_misplaced" ["tokens"] F_first_misplaced) {f : Addr} {fd : FuncData} (U : Fun K "first_bad" "first_bad" (top 13) f fd) (dr : Option Addr) :
    FnG P w K mg base 6 f fd ["value"] (SpD K dr [false] F_first_bad) := by
  refine fnd_of (k := 5) U sc_first_bad rfl (fun cdv A callers s0 H E G0 hr hga =>
    (sd_cons (sd_if (td_not (td_val (pd_isi (pd_var 0 (pv 0)) rfl kit_tuple T.isinstance T.tuple))) (sd_one (sd_ret (pd_neg pd_int))) sd_nil)
      (sd_cons (sd_set 1 sc_first_bad.nd (pd_cl D_count_tokens hr (by decide) hga (ad_cons (pd_var 0 (pv 0)) ad_nil)))
      (sd_cons (sd_set 2 sc_first_bad.nd (pd_cl D_first_misplaced hr (by decide) hga (ad_cons (pd_sl (pd_var 0 (pv 0)) od_none (od_some (pd_var 1 (pv 1)))) ad_nil)))
      (sd_one (sd_ret (pd_ifExp (PW.pt (wd_and (td_cmp cm_isN (pd_var 2 (pv 2)) pd_non) (wd_and1 (td_cmp cm_lt (pd_var 1 (pv 1)) (pd_bt bt_len T.len (ad_cons (pd_var 0 (pv 0)) ad_nil)))))) (pd_var 1 (pv 1)) (pd_var 2 (pv 2))))))))) ?_
  intro ds n Q hl hF
  obtain ⟨d, rfl, ⟨ts, rfl, hlen, hk, q⟩ | ⟨h1, h2, q⟩⟩ := hF
  · have hp := preT_le ts
    walk_at "wx"
    refine ⟨ts, rfl, hlen, hk, ?_⟩
    walk_at "wx"
    rw [cut_take ts _ hp]
    refine ⟨ts.take (preT ts), rfl, by rw [List.length_take]; omega, preT_tok, ?_⟩
    unfold badT at q
    cases hm : misT [] 0 0 (ts.take (preT ts)) with
    | some i =>
      rw [hm] at q
      simp only [optD] at q ⊢
      walk_at "wx"
      exact q
    | none =>
      rw [hm] at q
      simp only [optD] at q ⊢
      walk_at "wx"
      by_cases hg : preT ts < ts.length
      · rw [if_pos hg] at q
        rw [if_pos (by omega)]
        exact q
      · rw [if_neg hg] at q
        rw [if_neg (by omega)]
        exact q
  · cases d with
    | tup ts => exact absurd rfl (h2 ts)
    | dct a b => exact absurd rfl h1
    | drw => exact absurd rfl h1
    | exc a b c => exact absurd rfl h1
    | _ =>
      walk_at "wx"
      exact q
def I_ch (most n : Nat) (a b : List Str) (i : Nat) (s : S) : Prop := ∃ (fs : List D) (ks : List Str) (m : Nat) (x6 x7 x8 x9 x10 : Sl), s = ⟨[.val .drw, .val (.int most), .val (idsD a), .val (idsD b), .own fs, .own (ks.map .str), x6, x7, x8, x9, x10], m⟩ ∧ n ≤ m ∧ m ≤ n + 30 * i ∧ (∀ t ∈ fs, GTok t) ∧ (∀ y ∈ ks, GKind y) ∧ ks.length ≤ 12 ∧ fs.length + ks.length ≤ most ∧ Leads fs ks
def J_ch (most n : Nat) (a b : List Str) (s : S) : Prop := ∃ i, i ≤ most ∧ I_ch most n a b i s
theorem I_ch_of {most n : Nat} {a b : List Str} {i : Nat} {fs : List D} {ks : List Str} {t : D} {l : List D} {ks' : List Str} {m : Nat} {x6 x7 x8 x9 x10 : Sl} (e : l = ks'.map .str) (h1 : n ≤ m) (h2 : m ≤ n + 30 * i) (hfs : ∀ t ∈ fs, GTok t) (ht : GTok t) (hks : ∀ y ∈ ks', GKind y) (h12 : ks'.length ≤ 12) (hl : fs.length + 1 + ks'.length ≤ most) (hL : Leads fs ks) (hk : ∀ rest, okR ks (t :: rest) = okR ks' rest) :
    I_ch most n a b i ⟨[.val .drw, .val (.int most), .val (idsD a), .val (idsD b), .own (fs ++ [t]), .own l, x6, x7, x8, x9, x10], m⟩ := by
  subst e
  refine ⟨_, _, _, _, _, _, _, _, rfl, h1, h2, fun t' ht' => ?_, hks, h12, by simp only [List.length_append, List.length_cons, List.length_nil]; omega, leads_push hL hk⟩
  rcases List.mem_append.mp ht' with h | h
  · exact hfs t' h
  · rw [List.mem_singleton.mp h]
    exact ht
theorem ids_inj0 : ∀ {a b : List Str}, a.map D.str = b.map D.str → a = b
  | [], [], _ => rfl
  | [], _ :: _, h => nomatch h
  | _ :: _, [], h => nomatch h
  | x :: a, y :: b, h => by
    obtain ⟨h1, h2⟩ := List.cons.inj h
    rw [D.str.inj h1, ids_inj0 h2]
theorem ids_inj {a b : List Str} (h : idsD a = idsD b) : a = b := ids_inj0 (D.lst.inj h)
theorem opn_of {ks : List Str} {m N : Nat} {Q' : D → Nat → Prop} (h12 : ks.length ≤ 12) (hks : ∀ y ∈ ks, GKind y) (hm : m + 4 < 2 ^ 49) (hN : m + 4 ≤ N) (h : ∀ y m', GKind y → (y = "item" ↔ ks.getLast? = some ("list" : Str)) → m ≤ m' → m' ≤ N → Q' (.tup [.str "open", .str y]) m') : F__law_opened.f [.drw, .lst (ks.map .str)] m Q' :=
  ⟨⟨ks, rfl, h12, hks⟩, hm, fun d m3 hd h3 h4 => by
    obtain ⟨ks', y, he, rfl, a, b⟩ := hd
    have e : ks = ks' := ids_inj (List.cons.inj (List.cons.inj he).2).1
    subst e
    exact h y m3 a b h3 (by omega)⟩
theorem gly_of {a b : List Str} {m N : Nat} {Q' : D → Nat → Prop} (ha : ∀ z ∈ a, GId z) (hb : ∀ z ∈ b, GId z) (la : a.length ≤ 1000) (lb : b.length ≤ 1000) (hm : m + 20 < 2 ^ 49) (hN : m + 20 ≤ N) (h : ∀ t m', Glyph t → m ≤ m' → m' ≤ N → Q' t m') : F__law_glyph.f [.drw, idsD a, idsD b] m Q' :=
  ⟨⟨a, b, rfl, ha, hb, la, lb⟩, hm, fun d m3 hd h3 h4 => h d m3 hd h3 (by omega)⟩
theorem sc__law_chapter : FnScope ["draw", "most", "names", "images", "found", "kinds", "turn", "way", "in_line", "is_closed", "kind"] ["draw", "most", "names", "images"] (defScope (top 27)) := ⟨rfl, rfl, rfl, by decide +kernel, rfl, by decide +kernel, by decide +kernel⟩
theorem ok__law_chapter {P : Program} {w : World} {K : PySem.W.Frag} {mg : Str → Option Value} {base : Heap} (T : Txt K mg) (C : Cn K mg) (SY : Sty P w K mg "_STYLE_ROWS" SR) (D__law_next : Dn P w K mg base 2 "_law_next" ["draw", "bound"] F__law_next) (D__law_glyph : Dn P w K mg base 5 "_law_glyph" ["draw", "names", "images"] F__law_glyph) (D__law_opened : DnM P w K mg base 3 "_law_opened" ["draw", "kinds"] [false, true] F__law_opened) {f : Addr} {fd : FuncData} (U : Fun K "_law_chapter" "_law_chapter" (top 27) f fd) (dr : Option Addr) :
    FnG P w K mg base 6 f fd ["draw", "most", "names", "images"] (SpD K dr [false, false, false, false] F__law_chapter) := by
  refine fnd_of (k := 5) U sc__law_chapter rfl (fun cdv A callers s0 H E G0 hr hga =>
    (sd_cons (sd_parO 4 5 sc__law_chapter.nd)
      (sd_cons (sd_for (id_range1 (ad_cons (pd_cl D__law_next hr (by decide) hga (ad_cons (pd_var 0 (pv 0)) (ad_cons (pd_add (pd_var 1 (pv 1)) pd_int) ad_nil))) ad_nil) T.range) (gd_name 6 sc__law_chapter.nd) (sd_cons (sd_if (td_cmp cm_gt (pd_add (pd_add (pd_bt bt_len T.len (ad_bor 4 (pv 4) ad_nil)) (pd_bt bt_len T.len (ad_bor 5 (pv 5) ad_nil))) pd_int) (pd_var 1 (pv 1))) (sd_one sd_break) sd_nil)
      (sd_cons (sd_set 7 sc__law_chapter.nd (pd_cl D__law_next hr (by decide) hga (ad_cons (pd_var 0 (pv 0)) (ad_cons pd_int ad_nil))))
      (sd_cons (sd_set 8 sc__law_chapter.nd (pd_and (pd_cmpV (cm_ne hr) (pv 5) (pd_lst ad_nil)) (pd_one (pd_cmp (cm_in) (pd_ixV 5 (pv 5) (pd_neg pd_int)) (pd_tup (ad_cons pd_str (ad_cons pd_str (ad_cons pd_str (ad_cons pd_str ad_nil)))))))))
      (sd_cons (sd_set 9 sc__law_chapter.nd (pd_or (pd_cmp (cm_eq hr) (pd_var 7 (pv 7)) pd_int) (pd_one (pd_and (pd_not (pd_var 8 (pv 8))) (pd_one (pd_or (pd_cmp (cm_eq hr) (pd_var 7 (pv 7)) pd_int) (pd_one (pd_cmp (cm_eq hr) (pd_bt bt_len T.len (ad_bor 5 (pv 5) ad_nil)) pd_int))))))))
      (sd_one (sd_if (PW.pt (wd_and (td_cmpV (cm_ne hr) (pv 5) (pd_lst ad_nil)) (wd_and1 (td_truV 9 (pv 9))))) (sd_one (sd_app 4 (pv 4) (pd_tup (ad_cons pd_str (ad_cons (pd_pop 5 (pv 5)) ad_nil))))) (sd_one (sd_if (td_truV 8 (pv 8)) (sd_one (sd_app 4 (pv 4) (pd_cl D__law_glyph hr (by decide) hga (ad_cons (pd_var 0 (pv 0)) (ad_cons (pd_var 2 (pv 2)) (ad_cons (pd_var 3 (pv 3)) ad_nil)))))) (sd_cons (sd_app 4 (pv 4) (pd_clM D__law_opened hr (by decide) hga (ad_cons (pd_var 0 (pv 0)) (ad_bor 5 (pv 5) ad_nil))))
      (sd_one (sd_app 5 (pv 5) (pd_ix (pd_ixV 4 (pv 4) (pd_neg pd_int)) pd_int)))))))))))))
      (sd_one (sd_ret (pd_bt bt_tuple T.tuple (ad_cons (pd_add (pd_var 4 (pv 4)) (pd_ofL (ld_lc (own := [("kind", 10)]) sc__law_chapter.nd (id_seq (pd_revV 5 (pv 5))) (lct_name) (by change blkC ["draw", "most", "names", "images", "found", "kinds", "turn", "way", "in_line", "is_closed", "kind"] (defScope (top 27)) _ _ = true; decide +kernel) (fun _ _ _ _ _ => pg_name (i := 10) sc__law_chapter.nd rfl (.inl rfl)) (fun _ _ _ _ _ _ _ => (pts_yes)) (fun _ _ _ _ _ _ _ => (pd_tup (ad_cons pd_str (ad_cons (pd_var 10 (pv 10)) ad_nil))))))) ad_nil))))))) ?_
  intro ds n Q hl hF
  obtain ⟨⟨most, a, b, rfl, hm, ha, hb, la, lb⟩, hn, q⟩ := hF
  refine seq_cut (fun s => s = ⟨[.val .drw, .val (.int most), .val (idsD a), .val (idsD b), .own [], .own [], .emp, .emp, .emp, .emp, .emp], n⟩) ?_ ?_
  · rintro s rfl
    refine seq_cut (J_ch most (n + 2) a b) ?_ ?_
    · rintro s ⟨i, hi, fs, ks, m, x6, x7, x8, x9, x10, rfl, m1, m2, hfs, hks, h12, hlen, hL⟩
      walk_at "wx"
      refine lcGo_map (g := clsD) _ _ (fun d hd P hP => ?_) (by simp; exact line2 (by omega)) ?_
      · walk_at "wx"
        exact ⟨by decide, hP _ rfl⟩
      · walk_at "wx"
        rw [List.nil_append]
        refine ⟨line2 (by simp only [List.length_map, List.length_reverse]; omega), q _ _ ⟨most, _, _, _, rfl, rfl, ⟨fun t ht => ?_, ?_⟩, ?_⟩ (by omega) (by omega)⟩
        · rcases List.mem_append.mp ht with ht | ht
          · exact hfs t ht
          · obtain ⟨d, hd, rfl⟩ := List.mem_map.mp ht
            obtain ⟨y, hy, rfl⟩ := List.mem_map.mp (List.mem_reverse.mp hd)
            exact .cls y (hks y hy)
        · rw [hL]
          exact okR_close ks
        · simp only [List.length_append, List.length_map, List.length_reverse]
          omega
    · walk_at "wx"
      refine next_of (by omega) (by omega) (by omega) fun r r0 r1 => ?_
      walk_at "wx"
      refine ⟨r, rfl, by omega, by omega, ?_⟩
      refine forW_ind (I_ch most (n + 2) a b) (rngD 0 r.toNat) 0 _ ⟨[], [], _, _, _, _, _, _, rfl, Nat.le_refl _, by omega, fun _ h => (nomatch h), fun _ h => (nomatch h), by simp, by simp, leads_nil⟩ (fun i d s hd hI => ?_) (fun s hI => ?_)
      · rw [Nat.zero_add] at hI ⊢
        have hi : i < r.toNat := by
          have := (List.getElem?_eq_some_iff.mp hd).1
          rwa [rng_len] at this
        obtain ⟨fs, ks, m, x6, x7, x8, x9, x10, rfl, m1, m2, hfs, hks, h12, hlen, hL⟩ := hI
        walk_at "wx"
        by_cases hfull : (fs.length : Int) + ((ks.map D.str).length : Int) + 2 > (most : Int)
        · rw [if_pos hfull]
          exact ⟨i, by omega, fs, ks, m, _, _, _, _, _, rfl, m1, m2, hfs, hks, h12, hlen, hL⟩
        · rw [if_neg hfull]
          rw [List.length_map] at hfull
          refine next_of (by omega) (by omega) (by omega) fun way w0 w1 => ?_
          have lf : fs.length < sizeLine := Nat.lt_of_lt_of_le (show fs.length < 1000 by omega) line1000
          rcases List.eq_nil_or_concat ks with rfl | ⟨kl, y, ec⟩
          · have c0 : cEq (.lst []) (.lst []) := cEq_strs (a := []) fun _ h => nomatch h
            walk_at "wx"
            refine ⟨by decide, c0, ?_⟩
            rw [eq_ks1]
            walk_at "wx"
            split
            · walk_at "wx"
              refine ⟨by decide, c0, ?_⟩
              walk_at "wx"
              refine opn_of (ks := []) (N := m + 6) (by simp) (fun _ h => nomatch h) (by omega) (by omega) fun y m' hy1 hy2 h3 h4 => ?_
              walk_at "wx"
              refine ⟨lf, ?_⟩
              rw [at_kat, gt_some]
              walk_at "wx"
              exact ⟨by decide, I_ch_of (ks := []) (ks' := [y]) rfl (by omega) (by omega) hfs (.opn y hy1) (fun z hz => by rw [List.mem_singleton.mp hz]; exact hy1) (by simp) (by simp at hfull ⊢; omega) hL (okR_open rfl hy2 (by simp))⟩
            · walk_at "wx"
              split
              · walk_at "wx"
                refine ⟨by decide, c0, ?_⟩
                walk_at "wx"
                refine opn_of (ks := []) (N := m + 6) (by simp) (fun _ h => nomatch h) (by omega) (by omega) fun y m' hy1 hy2 h3 h4 => ?_
                walk_at "wx"
                refine ⟨lf, ?_⟩
                rw [at_kat, gt_some]
                walk_at "wx"
                exact ⟨by decide, I_ch_of (ks := []) (ks' := [y]) rfl (by omega) (by omega) hfs (.opn y hy1) (fun z hz => by rw [List.mem_singleton.mp hz]; exact hy1) (by simp) (by simp at hfull ⊢; omega) hL (okR_open rfl hy2 (by simp))⟩
              · walk_at "wx"
                refine ⟨by decide, c0, ?_⟩
                walk_at "wx"
                refine opn_of (ks := []) (N := m + 6) (by simp) (fun _ h => nomatch h) (by omega) (by omega) fun y m' hy1 hy2 h3 h4 => ?_
                walk_at "wx"
                refine ⟨lf, ?_⟩
                rw [at_kat, gt_some]
                walk_at "wx"
                exact ⟨by decide, I_ch_of (ks := []) (ks' := [y]) rfl (by omega) (by omega) hfs (.opn y hy1) (fun z hz => by rw [List.mem_singleton.mp hz]; exact hy1) (by simp) (by simp at hfull ⊢; omega) hL (okR_open rfl hy2 (by simp))⟩
          · rw [List.concat_eq_append] at ec
            subst ec
            have e0 := cEq_strs' (ks := kl ++ [y]) (kinds_ok hks) (show kl.map D.str ++ [D.str y] = _ by rw [List.map_append]; rfl)
            have ey : GKind y := hks y (by simp)
            have hkl : ∀ z ∈ kl, GKind z := fun z hz => hks z (by simp [hz])
            rw [List.length_append, List.length_singleton] at hfull h12 hlen
            rw [show (kl ++ [y]).map D.str = kl.map D.str ++ [.str y] from by rw [List.map_append]; rfl]
            walk_at "wx"
            refine ⟨by decide, e0, ?_⟩
            rw [eq_kat]
            walk_at "wx"
            rw [at_kat, gt_some]
            walk_at "wx"
            refine ⟨by decide, ⟨rfl, rfl⟩, ?_⟩
            rw [gIn_ln, gt_some]
            by_cases hln : y ∈ lines
            · rw [decide_eq_true hln]
              walk_at "wx"
              split
              · walk_at "wx"
                refine ⟨by decide, e0, ?_⟩
                rw [eq_kat]
                walk_at "wx"
                rw [pop_kat, gt_some]
                walk_at "wx"
                rw [List.dropLast_concat]
                exact ⟨by decide, lf, I_ch_of (ks := kl ++ [y]) (ks' := kl) rfl (by omega) (by omega) hfs (.cls y ey) hkl (by omega) (by omega) hL okR_cls⟩
              · walk_at "wx"
                refine ⟨by decide, e0, ?_⟩
                rw [eq_kat]
                walk_at "wx"
                refine gly_of (N := m + 22) ha hb la lb (by omega) (by omega) fun t m' ht h3 h4 => ?_
                walk_at "wx"
                exact ⟨lf, I_ch_of (ks := kl ++ [y]) (ks' := kl ++ [y]) (by rw [List.map_append]; rfl) (by omega) (by omega) hfs ht.1 hks (by simp; omega) (by simp; omega) hL (okR_glyph hln ht)⟩
            · rw [decide_eq_false hln]
              walk_at "wx"
              split
              · walk_at "wx"
                refine ⟨by decide, e0, ?_⟩
                rw [eq_kat]
                walk_at "wx"
                rw [pop_kat, gt_some]
                walk_at "wx"
                rw [List.dropLast_concat]
                exact ⟨by decide, lf, I_ch_of (ks := kl ++ [y]) (ks' := kl) rfl (by omega) (by omega) hfs (.cls y ey) hkl (by omega) (by omega) hL okR_cls⟩
              · walk_at "wx"
                split
                · walk_at "wx"
                  refine ⟨by decide, e0, ?_⟩
                  rw [eq_kat]
                  walk_at "wx"
                  rw [pop_kat, gt_some]
                  walk_at "wx"
                  rw [List.dropLast_concat]
                  exact ⟨by decide, lf, I_ch_of (ks := kl ++ [y]) (ks' := kl) rfl (by omega) (by omega) hfs (.cls y ey) hkl (by omega) (by omega) hL okR_cls⟩
                · walk_at "wx"
                  refine ⟨by decide, e0, ?_⟩
                  rw [eq_kat]
                  walk_at "wx"
                  split
                  · walk_at "wx"
                    rw [pop_kat, gt_some]
                    walk_at "wx"
                    rw [List.dropLast_concat]
                    exact ⟨by decide, lf, I_ch_of (ks := kl ++ [y]) (ks' := kl) rfl (by omega) (by omega) hfs (.cls y ey) hkl (by omega) (by omega) hL okR_cls⟩
                  · rename_i h12n
                    have hk12 : (kl ++ [y]).length ≠ 12 := fun e => h12n (by simp at e ⊢; omega)
                    walk_at "wx"
                    rw [show kl.map D.str ++ [.str y] = (kl ++ [y]).map D.str from by rw [List.map_append]; rfl]
                    refine opn_of (ks := kl ++ [y]) (N := m + 6) (by simp; omega) hks (by omega) (by omega) fun y' m' hy1 hy2 h3 h4 => ?_
                    walk_at "wx"
                    refine ⟨lf, ?_⟩
                    rw [at_kat, gt_some]
                    walk_at "wx"
                    exact ⟨Nat.lt_of_lt_of_le (show _ < 1000 by simp; omega) line1000, I_ch_of (ks := kl ++ [y]) (ks' := kl ++ [y] ++ [y']) (by simp only [List.map_append, List.map_cons, List.map_nil]) (by omega) (by omega) hfs (.opn y' hy1) (fun z hz => by
                      rcases List.mem_append.mp hz with hz | hz
                      · exact hks z hz
                      · rw [List.mem_singleton.mp hz]; exact hy1) (by simp at hk12 ⊢; omega) (by simp; omega) hL (okR_open (by rw [List.getLast?_concat]; simpa using hln) hy2 hk12)⟩
      · rw [Nat.zero_add, rng_len] at hI
        exact ⟨_, by omega, hI⟩
  · walk_at "wx"
theorem rough_of {m N : Nat} {Q' : D → Nat → Prop} (hm : m + 20 < 2 ^ 49) (hN : m + 20 ≤ N) (h : ∀ t m', GTok t → m ≤ m' → m' ≤ N → Q' t m') : F__law_rough.f [.drw] m Q' := ⟨rfl, hm, fun d m3 hd h3 h4 => h d m3 hd h3 (by omega)⟩
theorem sc__law_bent : FnScope ["draw", "chapter", "at", "to", "token", "some"] ["draw", "chapter"] (defScope (top 30)) := ⟨rfl, rfl, rfl, by decide +kernel, rfl, by decide +kernel, by decide +kernel⟩
theorem ok__law_bent {P : Program} {w : World} {K : PySem.W.Frag} {mg : Str → Option Value} {base : Heap} (T : Txt K mg) (C : Cn K mg) (SY : Sty P w K mg "_STYLE_ROWS" SR) (D__law_next : Dn P w K mg base 2 "_law_next" ["draw", "bound"] F__law_next) (D__law_rough : Dn P w K mg base 5 "_law_rough" ["draw"] F__law_rough) {f : Addr} {fd : FuncData} (U : Fun K "_law_bent" "_law_bent" (top 30) f fd) (dr : Option Addr) :
    FnG P w K mg base 6 f fd ["draw", "chapter"] (SpD K dr [false, false] F__law_bent) := by
  refine fnd_of (k := 5) U sc__law_bent rfl (fun cdv A callers s0 H E G0 hr hga =>
    (sd_cons (sd_par 2 3 sc__law_bent.nd (ad_cons (pd_cl D__law_next hr (by decide) hga (ad_cons (pd_var 0 (pv 0)) (ad_cons (pd_add (pd_bt bt_len T.len (ad_cons (pd_var 1 (pv 1)) ad_nil)) pd_int) ad_nil))) (ad_cons (pd_cl D__law_next hr (by decide) hga (ad_cons (pd_var 0 (pv 0)) (ad_cons (pd_add (pd_bt bt_len T.len (ad_cons (pd_var 1 (pv 1)) ad_nil)) pd_int) ad_nil))) ad_nil)))
      (sd_cons (sd_set 4 sc__law_bent.nd (pd_ix (pd_add (pd_sl (pd_var 1 (pv 1)) (od_some (pd_var 3 (pv 3))) (od_some (pd_add (pd_var 3 (pv 3)) pd_int))) (pd_tup (ad_cons (pd_cl D__law_rough hr (by decide) hga (ad_cons (pd_var 0 (pv 0)) ad_nil)) ad_nil))) pd_int))
      (sd_cons (sd_set 5 sc__law_bent.nd (pd_lst (ad_cons (pd_add (pd_add (pd_sl (pd_var 1 (pv 1)) od_none (od_some (pd_var 2 (pv 2)))) (pd_tup (ad_cons (pd_var 4 (pv 4)) ad_nil))) (pd_sl (pd_var 1 (pv 1)) (od_some (pd_var 2 (pv 2))) od_none)) (ad_cons (pd_add (pd_sl (pd_var 1 (pv 1)) od_none (od_some (pd_var 2 (pv 2)))) (pd_sl (pd_var 1 (pv 1)) (od_some (pd_add (pd_var 2 (pv 2)) pd_int)) od_none)) (ad_cons (pd_sl (pd_var 1 (pv 1)) od_none (od_some (pd_var 2 (pv 2)))) ad_nil)))))
      (sd_cons (sd_set 5 sc__law_bent.nd (pd_add (pd_var 5 (pv 5)) (pd_lst (ad_cons (pd_add (pd_add (pd_sl (pd_var 1 (pv 1)) od_none (od_some (pd_var 2 (pv 2)))) (pd_tup (ad_cons (pd_cl D__law_rough hr (by decide) hga (ad_cons (pd_var 0 (pv 0)) ad_nil)) ad_nil))) (pd_sl (pd_var 1 (pv 1)) (od_some (pd_add (pd_var 2 (pv 2)) pd_int)) od_none)) (ad_cons (pd_add (pd_var 1 (pv 1)) (pd_tup (ad_cons (pd_var 4 (pv 4)) ad_nil))) ad_nil)))))
      (sd_one (sd_ret (pd_ix (pd_var 5 (pv 5)) (pd_cl D__law_next hr (by decide) hga (ad_cons (pd_var 0 (pv 0)) (ad_cons pd_int ad_nil))))))))))) ?_
  intro ds n Q hl hF
  obtain ⟨⟨xs, rfl, hx, lx⟩, hn, q⟩ := hF
  walk_at "wx"
  refine next_of (by omega) (by omega) (by omega) fun at_ a0 a1 => ?_
  walk_at "wx"
  refine next_of (by omega) (by omega) (by omega) fun to t0 t1 => ?_
  walk_at "wx"
  refine ⟨_, _, rfl, ?_⟩
  walk_at "wx"
  refine rough_of (N := n + 24) (by omega) (by omega) fun u m hu h1 h2 => ?_
  obtain ⟨i, rfl⟩ : ∃ i : Nat, at_ = (i : Int) := ⟨at_.toNat, by omega⟩
  have c1 := cutL_take xs i
  have c2 : cutL xs (some ((i : Int) + 1)) none = xs.drop (i + 1) := cutL_drop xs (i + 1)
  have c3 := cutL_drop xs i
  have a1' : ∀ t ∈ xs.take i, GTok t := fun t h => hx t (List.mem_of_mem_take h)
  have a2 : ∀ t ∈ xs.drop (i + 1), GTok t := fun t h => hx t (List.mem_of_mem_drop h)
  have a3 : ∀ t ∈ xs.drop i, GTok t := fun t h => hx t (List.mem_of_mem_drop h)
  have l1 : (xs.take i).length ≤ i ∧ (xs.take i).length ≤ xs.length := by rw [List.length_take]; omega
  have l2 : (xs.drop (i + 1)).length = xs.length - (i + 1) := List.length_drop
  have l3 : (xs.drop i).length = xs.length - i := List.length_drop
  have lc := cutL_len xs (some to) (some (to + 1))
  obtain ⟨v, hv, gv⟩ : ∃ v, atI (cutL xs (some to) (some (to + 1)) ++ [u]) 0 = some v ∧ GTok v := by
    have hall : ∀ t ∈ cutL xs (some to) (some (to + 1)) ++ [u], GTok t := all_app (all_cut hx _ _) (all_one hu)
    cases hc : cutL xs (some to) (some (to + 1)) ++ [u] with
    | nil => simp at hc
    | cons a l =>
      rw [hc] at hall
      exact ⟨a, atI0 a l, hall a List.mem_cons_self⟩
  walk_at "wx"
  refine ⟨by decide, line2 (by omega), ?_⟩
  rw [hv, gt_some]
  walk_at "wx"
  rw [c1, c2, c3]
  refine ⟨by decide, line2 (by omega), line2 (by simp only [List.length_append, List.length_singleton]; omega), line2 (by omega), by decide, ?_⟩
  refine rough_of (N := m + 24) (by omega) (by omega) fun u2 m2 hu2 h3 h4 => ?_
  walk_at "wx"
  rw [c2]
  refine ⟨by decide, line2 (by omega), line2 (by simp only [List.length_append, List.length_singleton]; omega), by decide, line2 (by omega), by decide, by decide, next_of (by omega) (by omega) (by omega) fun r r0 r1 => ?_⟩
  walk_at "wx"
  refine pick_of (P := fun d => ∃ ts' : List D, d = .tup ts' ∧ (∀ t ∈ ts', GTok t) ∧ ts'.length ≤ xs.length + 2) r0 (by simpa using r1) (fun x hx0 => ?_) fun x hx0 => ?_
  · simp only [List.cons_append, List.nil_append, List.mem_cons, List.not_mem_nil, or_false] at hx0
    rcases hx0 with rfl | rfl | rfl | rfl | rfl
    · exact ⟨_, rfl, all_app (all_app a1' (all_one gv)) a3, (by simp only [List.length_append, List.length_singleton]; omega)⟩
    · exact ⟨_, rfl, all_app a1' a2, (by simp only [List.length_append, List.length_singleton]; omega)⟩
    · exact ⟨_, rfl, a1', by omega⟩
    · exact ⟨_, rfl, all_app (all_app a1' (all_one hu2)) a2, (by simp only [List.length_append, List.length_singleton]; omega)⟩
    · exact ⟨_, rfl, all_app hx (all_one gv), (by simp only [List.length_append, List.length_singleton]; omega)⟩
  · obtain ⟨ts', rfl, g1, g2⟩ := hx0
    walk_at "wx"
    exact q _ _ ⟨xs, ts', rfl, rfl, g1, g2⟩ (by omega) (by omega)
theorem gtok_three2 {t : D} (h : GTok t) : (∃ y, GKind y ∧ t = .tup [.str "open", .str y]) ∨ (∃ y, GKind y ∧ t = .tup [.str "close", .str y]) ∨ ∃ w es, t = .tup (.str w :: es) ∧ w ≠ "open" ∧ w ≠ "close" := by
  cases h with
  | opn y g => exact .inl ⟨y, g, rfl⟩
  | cls y g => exact .inr (.inl ⟨y, g, rfl⟩)
  | char c zs l a b d => exact .inr (.inr ⟨_, _, rfl, by decide +kernel, by decide +kernel⟩)
  | anc y g => exact .inr (.inr ⟨_, _, rfl, by decide +kernel, by decide +kernel⟩)
  | img y g => exact .inr (.inr ⟨_, _, rfl, by decide +kernel, by decide +kernel⟩)
def I_br (n : Nat) (xs : List D) (i : Nat) (s : S) : Prop := ∃ (x2 x3 x4 : Sl), s = ⟨[.val (.tup xs), .val (.lst ((runK [] (xs.take i)).map .str)), x2, x3, x4], n⟩
theorem I_br_of {n : Nat} {xs : List D} {i : Nat} {l : List D} {x2 x3 x4 : Sl} (e : l = (runK [] (xs.take i)).map .str) : I_br n xs i ⟨[.val (.tup xs), .val (.lst l), x2, x3, x4], n⟩ := by
  subst e
  exact ⟨_, _, _, rfl⟩
theorem sc__law_beginnings_right : FnScope ["chapter", "kinds", "end", "token", "kind"] ["chapter"] (defScope (top 33)) := ⟨rfl, rfl, rfl, by decide +kernel, rfl, by decide +kernel, by decide +kernel⟩
theorem ok__law_beginnings_right {P : Program} {w : World} {K : PySem.W.Frag} {mg : Str → Option Value} {base : Heap} (T : Txt K mg) (C : Cn K mg) (SY : Sty P w K mg "_STYLE_ROWS" SR) (D_first_bad : Dn P w K mg base 6 "first_bad" ["value"] F_first_bad) {f : Addr} {fd : FuncData} (U : Fun K "_law_beginnings_right" "_law_beginnings_right" (top 33) f fd) (dr : Option Addr) :
    FnG P w K mg base 7 f fd ["chapter"] (SpD K dr [false] F__law_beginnings_right) := by
  refine fnd_of (k := 6) U sc__law_beginnings_right rfl (fun cdv A callers s0 H E G0 hr hga =>
    (sd_cons (sd_set 1 sc__law_beginnings_right.nd (pd_lst ad_nil))
      (sd_cons (sd_for (id_range1 (ad_cons (pd_bt bt_len T.len (ad_cons (pd_var 0 (pv 0)) ad_nil)) ad_nil) T.range) (gd_name 2 sc__law_beginnings_right.nd) (sd_cons (sd_if (td_cmp (cm_ne hr) (pd_cl D_first_bad hr (by decide) hga (ad_cons (pd_sl (pd_var 0 (pv 0)) od_none (od_some (pd_var 2 (pv 2)))) ad_nil)) (pd_ifExp (td_cmp (cm_eq hr) (pd_var 1 (pv 1)) (pd_lst ad_nil)) pd_non (pd_var 2 (pv 2)))) (sd_one (sd_ret pd_bl)) sd_nil)
      (sd_cons (sd_if (td_cmp cm_notN (pd_cl D_first_bad hr (by decide) hga (ad_cons (pd_add (pd_sl (pd_var 0 (pv 0)) od_none (od_some (pd_var 2 (pv 2)))) (pd_bt bt_tuple T.tuple (ad_cons (pd_ofL (ld_lc (own := [("kind", 4)]) sc__law_beginnings_right.nd (id_seq (pd_rev (pd_var 1 (pv 1)))) (lct_name) (by change blkC ["chapter", "kinds", "end", "token", "kind"] (defScope (top 33)) _ _ = true; decide +kernel) (fun _ _ _ _ _ => pg_name (i := 4) sc__law_beginnings_right.nd rfl (.inl rfl)) (fun _ _ _ _ _ _ _ => (pts_yes)) (fun _ _ _ _ _ _ _ => (pd_tup (ad_cons pd_str (ad_cons (pd_var 4 (pv 4)) ad_nil)))))) ad_nil))) ad_nil)) pd_non) (sd_one (sd_ret pd_bl)) sd_nil)
      (sd_cons (sd_set 3 sc__law_beginnings_right.nd (pd_ix (pd_var 0 (pv 0)) (pd_var 2 (pv 2))))
      (sd_one (sd_set 1 sc__law_beginnings_right.nd (pd_ifExp (td_cmp (cm_eq hr) (pd_ix (pd_var 3 (pv 3)) pd_int) pd_str) (pd_add (pd_var 1 (pv 1)) (pd_lst (ad_cons (pd_ix (pd_var 3 (pv 3)) pd_int) ad_nil))) (pd_ifExp (td_cmp (cm_eq hr) (pd_ix (pd_var 3 (pv 3)) pd_int) pd_str) (pd_sl (pd_var 1 (pv 1)) od_none (od_some (pd_neg pd_int))) (pd_var 1 (pv 1))))))))))
      (sd_one (sd_ret (pd_and (pd_cmp cm_isN (pd_cl D_first_bad hr (by decide) hga (ad_cons (pd_var 0 (pv 0)) ad_nil)) pd_non) (pd_one (pd_cmp (cm_eq hr) (pd_var 1 (pv 1)) (pd_lst ad_nil))))))))) ?_
  intro ds n Q hl hF
  obtain ⟨xs, rfl, hc, lx, q⟩ := hF
  have hr := hc.r
  have fb : ∀ (ts : List D) (m : Nat) (Q' : D → Nat → Prop), (∀ t ∈ ts, GTok t) → ts.length ≤ 3000 → Q' (optD (badT ts)) m → F_first_bad.f [.tup ts] m Q' := fun ts m Q' h1 h2 h3 => ⟨_, rfl, .inl ⟨ts, rfl, h2, fun t ht => (h1 t ht).ok.b, h3⟩⟩
  walk_at "wx"
  refine ⟨by decide, _, rfl, by omega, by omega, ?_⟩
  rw [Int.toNat_natCast]
  refine forW_ind (I_br n xs) (rngD 0 xs.length) 0 _ ⟨_, _, _, rfl⟩ (fun i d s hd hI => ?_) (fun s hI => ?_)
  · rw [Nat.zero_add] at hI ⊢
    obtain ⟨x2, x3, x4, rfl⟩ := hI
    have hi : i < xs.length ∧ d = .int (i : Int) := by
      unfold rngD at hd
      rw [List.getElem?_map] at hd
      obtain ⟨u, hu, rfl⟩ := Option.map_eq_some_iff.mp hd
      obtain ⟨h1, h2⟩ := List.getElem?_eq_some_iff.mp hu
      simp at h1 h2
      subst h2
      exact ⟨h1, by simp⟩
    obtain ⟨hi, rfl⟩ := hi
    have ha : ∀ t ∈ xs.take i, GTok t := fun t h => hc.t t (List.mem_of_mem_take h)
    have hsp := begin_spec (a := xs.take i) (b := xs.drop i) (ks := []) (i := 0) (by rw [List.take_append_drop]; exact hr) ha (by simp) (fun y hy => nomatch hy) (by rw [List.take_append_drop]; omega)
    obtain ⟨s1, s2, s3, s4, s5⟩ := hsp
    have hli : (xs.take i).length = i := by rw [List.length_take]; omega
    rw [hli, Nat.zero_add] at s3
    generalize hks : runK [] (xs.take i) = ks at s1 s2 s3 s4 s5 ⊢
    have e0 := cEq_strs (kinds_ok s5)
    obtain ⟨t, ht⟩ : ∃ t, xs[i]? = some t := ⟨_, List.getElem?_eq_getElem hi⟩
    have gt := hc.t t (List.mem_of_getElem? ht)
    have ft : atI xs (i : Int) = some t := at_nat rfl ht
    have hnext : runK [] (xs.take (i + 1)) = ks1 ks t := by
      obtain ⟨_, e⟩ := List.getElem?_eq_some_iff.mp ht
      rw [List.take_succ_eq_append_getElem hi, e, runK_app, hks]
      rfl
    refine get_mono (fun env' q' => seq_cut (fun s => s = ⟨[.val (.tup xs), .val (.lst (ks.map .str)), .val (.int i), x3, x4], n⟩) ?_ q') ?_
    · rintro s' rfl
      refine seq_cut (fun s => s = ⟨[.val (.tup xs), .val (.lst (ks.map .str)), .val (.int i), x3, x4], n⟩) ?_ ?_
      · rintro s' rfl
        rcases (gtok_three2 gt) with ⟨y, gy, rfl⟩ | ⟨y, gy, rfl⟩ | ⟨w, es, rfl, hw1, hw2⟩
        · walk_at "wx"
          rw [ft, gt_some]
          walk_at "wx"
          refine ⟨by decide, line2 (by rw [List.length_map]; omega), I_br_of ?_⟩
          rw [hnext, show ks1 ks (.tup [.str "open", .str y]) = ks ++ [y] from by unfold ks1; rw [word_first, if_pos rfl]; rfl, List.map_append]
          rfl
        · walk_at "wx"
          rw [ft, gt_some]
          walk_at "wx"
          rw [if_neg ec_co]
          walk_at "wx"
          refine I_br_of ?_
          rw [hnext, show ks1 ks (.tup [.str "close", .str y]) = ks.dropLast from by unfold ks1; rw [word_first, if_neg ec_co, if_pos rfl], cutL_last, List.map_dropLast]
        · walk_at "wx"
          rw [ft, gt_some]
          walk_at "wx"
          rw [if_neg hw1]
          walk_at "wx"
          rw [if_neg hw2]
          walk_at "wx"
          refine I_br_of ?_
          rw [hnext, show ks1 ks (.tup (.str w :: es)) = ks from by unfold ks1; rw [word_first, if_neg hw1, if_neg hw2]]
      · walk_at "wx"
        refine lcGo_map (g := clsD) _ _ (fun d hd P hP => ?_) (by simp; exact line2 (by omega)) ?_
        · walk_at "wx"
          exact ⟨by decide, hP _ rfl⟩
        · rw [List.nil_append, cutL_take]
          have hch : Chap (xs.take i ++ (ks.map D.str).reverse.map clsD) := ⟨all_app ha (fun t ht => by
            obtain ⟨d, hd, rfl⟩ := List.mem_map.mp ht
            obtain ⟨y, hy, rfl⟩ := List.mem_map.mp (List.mem_reverse.mp hd)
            exact .cls y (s5 y hy)), by rw [s2]; exact okR_close ks⟩
          have hcl : (xs.take i ++ (ks.map D.str).reverse.map clsD).length ≤ 200 := by
            simp only [List.length_append, List.length_map, List.length_reverse]
            omega
          refine ⟨line2 (by simp only [List.length_map, List.length_reverse]; omega), fb _ _ _ hch.t (by omega) ?_⟩
          rw [hch.bad (by omega), show optD none = .non from rfl]
          walk_at "wx"
    · walk_at "wx"
      rw [cutL_take]
      refine fb _ _ _ ha (by omega) ?_
      rw [bad_fir ha, s3]
      walk_at "wx"
      refine ⟨by decide, e0, ?_⟩
      cases ks with
      | nil =>
        rw [List.map_nil, eq_ks1, if_pos rfl, if_pos rfl, show optD none = .non from rfl]
        refine ⟨.inl rfl, ?_⟩
        rw [show eqD .non .non = true from by decide +kernel, if_neg (by decide)]
        trivial
      | cons y ks =>
        rw [List.map_cons, eq_ks0, if_neg (by decide), if_neg (by simp), show optD (some i) = .int i from rfl]
        walk_at "wx"
  · rw [Nat.zero_add, rng_len] at hI
    obtain ⟨x2, x3, x4, rfl⟩ := hI
    rw [List.take_length]
    walk_at "wx"
    refine fb _ _ _ hc.t (by omega) ?_
    rw [hc.bad (by omega)]
    walk_at "wx"
    rw [show DI.isNon (optD none) = true from rfl, if_pos rfl]
    have hre : runK [] xs = [] := by
      have h := (begin_spec (a := xs) (b := []) (ks := []) (i := 0) (by rw [List.append_nil]; exact hr) hc.t (by simp) (fun y hy => nomatch hy) (by rw [List.append_nil]; omega)).1
      simpa [okR] using h
    rw [hre, List.map_nil, eq_ks1]
    exact ⟨by decide, cEq_strs (a := []) fun _ h => (nomatch h), q⟩
/-! ### the draws are begun -/
def spBegin (K : PySem.W.Frag) : Sp := fun vs H Q _ => ∃ (a : Addr) (ns : List Int), vs = [.ref a] ∧ SqL K H a (ns.map V.int) ∧ ns.length ≤ 63 ∧
  ∀ (p L : Addr) (H' : Hp), H p = none → H L = none → L ≠ p → (∀ b o, H b = some o → H' b = some o) → H' p = some (.dK (drwK L 0 0 0)) → H' L = some (.lst ((ns ++ [0]).map V.int)) → Q (.ref p) H'
theorem sc__law_begin : FnScope ["script"] ["script"] (defScope (top 20)) := ⟨rfl, rfl, rfl, by decide +kernel, rfl, by decide +kernel, by decide +kernel⟩
theorem ok__law_begin {P : Program} {w : World} {K : PySem.W.Frag} {mg : Str → Option Value} {base : Heap} {f : Addr} {fd : FuncData} (U : Fun K "_law_begin" "_law_begin" (top 20) f fd) : FnOk P w K mg base CX0 1 f fd ["script"] (spBegin K) := by
  refine U.ok sc__law_begin (fun vs H Q E h => ?_) (fun cdv A outer s H vs Q E hr h => ?_)
  · obtain ⟨a, ns, rfl, _⟩ := h
    rfl
  · obtain ⟨a, ns, rfl, hS, hl, k⟩ := h
    refine ⟨_, pss_one (ps_ret (pe_disp (pps_cons pe_str (pe_op op_catS (pv 0) (pe_lst (pa_cons pe_int pa_nil))) (pps_cons pe_str pe_int (pps_cons pe_str pe_int (pps_cons pe_str pe_int pps_nil)))) (by rfl) (by rfl) (fun z => by cases z) (by decide))), ?_⟩
    intro p hp
    have s0 : Same H (upd H p (.dK [])) := Same.upd hp
    refine ⟨_, rfl, by decide, fun l hl' => ?_⟩
    have npl : p ≠ l := fun z => by
      rw [z, upd_same] at hl'
      cases hl'
    have s1 : Same H (upd (upd H p (.dK [])) l (.lst [.int 0])) := s0.trans (Same.upd hl')
    refine ⟨a, l, _, _, rfl, rfl, s1.seq hS, SqL.of upd_same, ?_, fun q hq => ?_⟩
    · have e : (ns.map V.int).length = ns.length := List.length_map _
      rw [e]
      exact line_of (by simp only [List.length_cons, List.length_nil]; omega)
    have nql : q ≠ l := fun z => by
      rw [z, upd_same] at hq
      cases hq
    have nqp : q ≠ p := fun z => by
      rw [z, upd_ne npl, upd_same] at hq
      cases hq
    have hpp : (upd (upd (upd H p (.dK [])) l (.lst [.int 0])) q (.lst (ns.map V.int ++ [.int 0]))) p = some (.dK []) := by
      rw [upd_ne nqp.symm, upd_ne npl, upd_same]
    refine ⟨hpp, [(Sum.inr "cells", .ref q), (Sum.inr "at", .int 0), (Sum.inr "left", .int 0), (Sum.inr "used", .int 0)], rfl, by simp, ?_⟩
    have hqH : H q = none := s1.free hq
    refine k p q _ hp hqH nqp (fun b o e => ?_) ?_ ?_
    · rw [upd_ne (ne_of_none e hp)]
      rw [upd_ne (ne_of_none e hqH)]
      exact s1 b o e
    · rw [upd_same, merge_drw]
    · rw [upd_ne nqp, upd_same, List.map_append]
      rfl
theorem deep12 : badT (deepT 12) = none := by decide +kernel
theorem deep13 : badT (deepT 13) = some 12 := by decide +kernel
theorem deep_tok (k : Nat) : ∀ t ∈ deepT k, GTok t := by
  unfold deepT
  have gq : GKind "quote" := by decide +kernel
  have gp : GKind "para" := by decide +kernel
  exact all_app (all_app (fun t h => by rw [List.eq_of_mem_replicate h]; exact .opn _ gq) (all_two (.opn _ gp) (.cls _ gp))) (fun t h => by rw [List.eq_of_mem_replicate h]; exact .cls _ gq)
def I_lw (i : Nat) (s : S) : Prop := ∃ (x0 x2 x3 x4 x5 x6 : Sl) (m : Nat), s = ⟨[x0, .val .drw, x2, x3, x4, x5, x6], m⟩ ∧ m ≤ 10000 * i
theorem firT_le : ∀ {ts : List D} {ks : List Str} {i j : Nat}, firT ks i ts = some j → j ≤ i + ts.length
  | [], ks, i, j, h => by
    rw [firT] at h
    split at h
    · cases h
    · cases h
      simp
  | t :: ts, ks, i, j, h => by
    rw [firT] at h
    split at h
    · split at h
      · cases h
        omega
      · have := firT_le h
        simp only [List.length_cons]
        omega
    · cases h
      omega
theorem repr_ints : ∀ i < 3001, cRepr [D.int (i : Nat)] := by
  intro i hi
  have e : ∀ i < 3001, (toPy (D.int (i : Nat))).showable = true ∧ (toPy (D.int (i : Nat))).shown.length ≤ sizeLine := by decide +kernel
  exact ⟨rfl, (e i hi).1, rfl, by simp [toPy, PyData.depth], (e i hi).2⟩
theorem repr_neg : gRepr [D.int (-1)] = some (.str "-1") ∧ cRepr [D.int (-1)] := ⟨congrArg (fun z => some (D.str z)) (show (toPy (D.int (-1))).shown = "-1" by decide +kernel), ⟨rfl, by decide +kernel, rfl, by simp [toPy, PyData.depth], by decide +kernel⟩⟩
theorem preT_odd {a b : List D} {o : D} (h : ∀ t ∈ a, tokB t = true) (ho : tokB o = false) : preT (a ++ o :: b) = a.length := by
  induction a with
  | nil => rw [List.nil_append, preT, ho]; rfl
  | cons t a ih =>
    rw [List.cons_append, preT, if_pos (h t List.mem_cons_self), ih fun x hx => h x (List.mem_cons_of_mem _ hx)]
    rfl
theorem bad_odd {ts : List D} (hc : Chap ts) (hl : ts.length ≤ 2000) {i : Nat} (hi : i ≤ ts.length) {o : D} (ho : tokB o = false) : badT (ts.take i ++ [o] ++ ts.drop i) = some i := by
  have ha : ∀ t ∈ ts.take i, GTok t := fun t h => hc.t t (List.mem_of_mem_take h)
  have hli : (ts.take i).length = i := by rw [List.length_take]; omega
  have e := preT_odd (b := ts.drop i) (fun t ht => (ha t ht).ok.a) ho
  rw [hli] at e
  rw [List.append_assoc]
  show badT (ts.take i ++ o :: ts.drop i) = _
  unfold badT
  rw [e, List.take_left' hli]
  have z := misT_fir (ks := []) (i := 0) ha (fun y hy => nomatch hy) (by simp) (by simp)
  rw [show glE [] = 0 from rfl] at z
  have hsp := (begin_spec (a := ts.take i) (b := ts.drop i) (ks := []) (i := 0) (by rw [List.take_append_drop]; exact hc.r) ha (by simp) (fun y hy => nomatch hy) (by rw [List.take_append_drop]; omega)).2.2.1
  rw [z, hsp, hli, Nat.zero_add]
  by_cases hk : runK [] (ts.take i) = []
  · rw [if_pos hk]
    simp only
    rw [if_pos (by simp only [List.length_append, List.length_cons, hli]; omega)]
  · rw [if_neg hk]
theorem repr_opt {o : Option Nat} (h : ∀ j, o = some j → j ≤ 3000) : ∃ z, gRepr [optD o] = some (.str z) ∧ cRepr [optD o] := by
  cases o with
  | none => exact ⟨_, rfl, ⟨rfl, rfl, rfl, by simp [toPy, PyData.depth, optD], by decide +kernel⟩⟩
  | some j => exact ⟨_, rfl, repr_ints j (by have := h j rfl; omega)⟩
theorem opt_self (o : Option Nat) : cEq (optD o) (optD o) ∧ eqD (optD o) (optD o) = true := by
  cases o with
  | none => exact ⟨.inl rfl, by decide +kernel⟩
  | some j => exact ⟨.inl rfl, by rw [show optD (some j) = .int j from rfl, eqD_int]; exact decide_eq_true rfl⟩
def I_th (x0 x2 x3 x5 x6 : Sl) (m : Nat) (_i : Nat) (s : S) : Prop := ∃ x4, s = ⟨[x0, .val .drw, x2, x3, x4, x5, x6], m⟩
theorem sc_law : FnScope ["script", "draw", "turn", "chapter", "thing", "at", "odd"] ["script"] (defScope (top 34)) := ⟨rfl, rfl, rfl, by decide +kernel, rfl, by decide +kernel, by decide +kernel⟩
theorem ok_law {P : Program} {w : World} {K : PySem.W.Frag} {mg : Str → Option Value} {base : Heap} (T : Txt K mg) (C : Cn K mg) (SY : Sty P w K mg "_STYLE_ROWS" SR) {fB : Addr} {fdB : FuncData} (UB : Fun K "_law_begin" "_law_begin" (top 20) fB fdB) (mB : mg "_law_begin" = some (.ref fB)) (bB : Binds K fdB ["script"] []) (D__law_chapter : Dn P w K mg base 6 "_law_chapter" ["draw", "most", "names", "images"] F__law_chapter) (D__law_next : Dn P w K mg base 2 "_law_next" ["draw", "bound"] F__law_next) (D_first_bad : Dn P w K mg base 6 "first_bad" ["value"] F_first_bad) (D__law_beginnings_right : Dn P w K mg base 7 "_law_beginnings_right" ["chapter"] F__law_beginnings_right) (D__law_bent : Dn P w K mg base 6 "_law_bent" ["draw", "chapter"] F__law_bent) (D__law_great : Dn P w K mg base 3 "_law_great" ["draw"] F__law_great) (D__law_deep : Dn P w K mg base 1 "_law_deep" ["many"] F__law_deep) (D__law_first : Dn P w K mg base 1 "_law_first" ["thing"] F__law_first) {f : Addr} {fd : FuncData} (U : Fun K "law" "law" (top 34) f fd) :
    FnG P w K mg base 8 f fd ["script"] (spLaw K) := by
  have GB : FnOk P w K mg base CX0 1 fB fdB ["script"] (spBegin K) := ok__law_begin UB
  obtain ⟨oc, od, kV, doc, pm, an, cdv, ct, osl, rfl, lk, hcd⟩ := U.ex
  refine fng_of (k := 7) lk hcd sc_law (fun vs H Q E h => ?_) fun A callers s0 H vs Q E hr hga hsp => ?_
  · obtain ⟨a, ns, rfl, _⟩ := h
    rfl
  · obtain ⟨a, ns, rfl, hS, hl, hone, k⟩ := hsp
    have hr1 : Room 1 _ := hr.mono (by decide)
    have main0 : ∃ ws : WS, (∀ (d : Addr) (H0 G0 : Hp), PSs (cxOf CX0 P w K mg base ["script", "draw", "turn", "chapter", "thing", "at", "odd"] "law" (defScope (top 34)) f cdv A callers s0 H E).nox ((defBody (top 34)).drop 1) (liftS ⟨K, some d, H0, G0⟩ ws)) ∧ ws.f eEnd ⟨.bor (ns.map .int) :: .val .drw :: List.replicate 5 .emp, 0⟩ := by
      refine ⟨_, fun d H0 G0 =>
      (sd_cons (sd_if (PW.pt (wd_or (td_cmp cm_notN (pd_cl D_first_bad hr (by decide) hga (ad_cons (pd_tup ad_nil) ad_nil)) pd_non) (wd_or (td_cmp cm_notN (pd_cl D_first_bad hr (by decide) hga (ad_cons (pd_cl D__law_deep hr (by decide) hga (ad_cons pd_int ad_nil)) ad_nil)) pd_non) (wd_or1 (td_cmp (cm_ne hr) (pd_cl D_first_bad hr (by decide) hga (ad_cons (pd_cl D__law_deep hr (by decide) hga (ad_cons pd_int ad_nil)) ad_nil)) pd_int))))) (sd_one (sd_ret pd_bl)) sd_nil)
      (sd_cons (sd_for (id_range1 (ad_cons (pd_bt (bt_min) T.min (ad_cons pd_int (ad_cons (pd_add pd_int (pd_bt bt_len T.len (ad_bor 0 (pv 0) ad_nil))) ad_nil))) ad_nil) T.range) (gd_name 2 sc_law.nd) (sd_cons (sd_set 3 sc_law.nd (pd_cl D__law_chapter hr (by decide) hga (ad_cons (pd_var 1 (pv 1)) (ad_cons pd_int (ad_cons (pd_lst (ad_cons pd_str (ad_cons pd_str ad_nil))) (ad_cons (pd_lst (ad_cons pd_str ad_nil)) ad_nil))))))
      (sd_cons (sd_if (td_not (td_val (pd_cl D__law_beginnings_right hr (by decide) hga (ad_cons (pd_var 3 (pv 3)) ad_nil)))) (sd_one (sd_ret pd_bl)) sd_nil)
      (sd_cons (sd_for (id_list (pd_lst (ad_cons (pd_cl D__law_bent hr (by decide) hga (ad_cons (pd_var 1 (pv 1)) (ad_cons (pd_var 3 (pv 3)) ad_nil))) (ad_cons (pd_cl D__law_bent hr (by decide) hga (ad_cons (pd_var 1 (pv 1)) (ad_cons (pd_cl D__law_bent hr (by decide) hga (ad_cons (pd_var 1 (pv 1)) (ad_cons (pd_var 3 (pv 3)) ad_nil))) ad_nil))) (ad_cons (pd_cl D__law_great hr (by decide) hga (ad_cons (pd_var 1 (pv 1)) ad_nil)) ad_nil))))) (gd_name 4 sc_law.nd) (sd_one (sd_if (PW.pt (wd_or (td_cmp (cm_ne hr) (pd_bt (bt_repr hr hga) T.repr (ad_cons (pd_cl D_first_bad hr (by decide) hga (ad_cons (pd_var 4 (pv 4)) ad_nil)) ad_nil)) (pd_bt (bt_repr hr hga) T.repr (ad_cons (pd_cl D__law_first hr (by decide) hga (ad_cons (pd_var 4 (pv 4)) ad_nil)) ad_nil))) (wd_or1 (td_cmp (cm_ne hr) (pd_clK D_first_bad hr (by decide) hga (kd_cons (pd_var 4 (pv 4)) kd_nil)) (pd_cl D_first_bad hr (by decide) hga (ad_cons (pd_var 4 (pv 4)) ad_nil)))))) (sd_one (sd_ret pd_bl)) sd_nil)))
      (sd_cons (sd_set 5 sc_law.nd (pd_cl D__law_next hr (by decide) hga (ad_cons (pd_var 1 (pv 1)) (ad_cons (pd_add (pd_bt bt_len T.len (ad_cons (pd_var 3 (pv 3)) ad_nil)) pd_int) ad_nil))))
      (sd_cons (sd_set 6 sc_law.nd (pd_ix (pd_lst (ad_cons pd_non (ad_cons pd_int (ad_cons (pd_tup ad_nil) (ad_cons (pd_tup (ad_cons pd_str (ad_cons pd_str ad_nil))) (ad_cons (pd_lst (ad_cons pd_str ad_nil)) (ad_cons pd_str (ad_cons (pd_tup (ad_cons (pd_lst ad_nil) (ad_cons pd_str ad_nil))) ad_nil)))))))) (pd_cl D__law_next hr (by decide) hga (ad_cons (pd_var 1 (pv 1)) (ad_cons pd_int ad_nil)))))
      (sd_cons (sd_if (td_cmp (cm_ne hr) (pd_cl D_first_bad hr (by decide) hga (ad_cons (pd_add (pd_add (pd_sl (pd_var 3 (pv 3)) od_none (od_some (pd_var 5 (pv 5)))) (pd_tup (ad_cons (pd_var 6 (pv 6)) ad_nil))) (pd_sl (pd_var 3 (pv 3)) (od_some (pd_var 5 (pv 5))) od_none)) ad_nil)) (pd_var 5 (pv 5))) (sd_one (sd_ret pd_bl)) sd_nil)
      (sd_one (sd_if (td_cmp (cm_ne hr) (pd_bt (bt_repr hr hga) T.repr (ad_cons (pd_cl D_first_bad hr (by decide) hga (ad_cons (pd_ix (pd_lst (ad_cons pd_non (ad_cons pd_int (ad_cons (pd_bt bt_list T.list (ad_cons (pd_var 3 (pv 3)) ad_nil)) (ad_cons pd_str (ad_cons (pd_dict0 1) ad_nil)))))) (pd_cl D__law_next hr (by decide) hga (ad_cons (pd_var 1 (pv 1)) (ad_cons pd_int ad_nil)))) ad_nil)) ad_nil)) pd_str) (sd_one (sd_ret pd_bl)) sd_nil)))))))))
      (sd_one (sd_ret pd_bl)))), ?_⟩
      have fb : ∀ (ts : List D) (m : Nat) (Q' : D → Nat → Prop), (∀ t ∈ ts, GTok t) → ts.length ≤ 3000 → Q' (optD (badT ts)) m → F_first_bad.f [.tup ts] m Q' := fun ts m Q' h1 h2 h3 => ⟨_, rfl, .inl ⟨ts, rfl, h2, fun t ht => (h1 t ht).ok.b, h3⟩⟩
      walk_at "wx"
      refine ⟨by decide, fb [] _ _ (fun _ h => nomatch h) (by simp) ?_⟩
      rw [show optD (badT []) = .non from rfl]
      walk_at "wx"
      refine ⟨12, rfl, by decide, by decide, ?_⟩
      walk_at "wx"
      refine fb _ _ _ (deep_tok 12) (by decide) ?_
      rw [deep12, show optD none = .non from rfl]
      walk_at "wx"
      refine ⟨13, rfl, by decide, by decide, ?_⟩
      walk_at "wx"
      refine fb _ _ _ (deep_tok 13) (by decide) ?_
      rw [deep13, show optD (some 12) = .int 12 from rfl]
      walk_at "wx"
      obtain ⟨k, hk, hk2⟩ : ∃ k : Int, gMin [D.int 12, .int (4 + ((ns.map D.int).length : Int))] = some (.int k) ∧ 0 ≤ k ∧ k ≤ 12 := by
        refine ⟨if 4 + ((ns.map D.int).length : Int) < 12 then 4 + ((ns.map D.int).length : Int) else 12, rfl, ?_⟩
        split <;> omega
      rw [hk, gt_some]
      walk_at "wx"
      refine ⟨_, rfl, by omega, by omega, ?_⟩
      refine forW_ind I_lw (rngD 0 k.toNat) 0 _ ⟨_, _, _, _, _, _, _, rfl, by omega⟩ (fun i d s hd hI => ?_) (fun s hI => ?_)
      · rw [Nat.zero_add] at hI ⊢
        have hi : i < k.toNat := by
          have := (List.getElem?_eq_some_iff.mp hd).1
          rwa [rng_len] at this
        obtain ⟨x0, x2, x3, x4, x5, x6, m, rfl, hm⟩ := hI
        walk_at "wx"
        refine ⟨by decide, by decide, ⟨30, ["n1", "n2"], ["i1"], rfl, by decide, by decide +kernel, by decide +kernel, by decide, by decide⟩, by omega, fun d1 m1 hd1 h1 h2 => ?_⟩
        obtain ⟨mo, a, b, ts, e, rfl, hc, hlen⟩ := hd1
        have em : mo = 30 := by
          have := D.int.inj (List.cons.inj (List.cons.inj e).2).1
          omega
        subst em
        walk_at "wx"
        refine ⟨ts, rfl, hc, by omega, ?_⟩
        walk_at "wx"
        refine ⟨⟨ts, rfl, hc.t, by omega⟩, by omega, fun d2 m2 hd2 h3 h4 => ?_⟩
        obtain ⟨u1, b1, e1, rfl, g1, l1⟩ := hd2
        cases e1
        walk_at "wx"
        refine ⟨⟨ts, rfl, hc.t, by omega⟩, by omega, fun d2 m3 hd2 h5 h6 => ?_⟩
        obtain ⟨u1, b2, e1, rfl, g2, l2⟩ := hd2
        cases e1
        walk_at "wx"
        refine ⟨⟨b2, rfl, g2, by omega⟩, by omega, fun d2 m4 hd2 h7 h8 => ?_⟩
        obtain ⟨u1, b3, e1, rfl, g3, l3⟩ := hd2
        cases e1
        walk_at "wx"
        refine ⟨rfl, by omega, fun d2 m5 hd2 h9 h10 => ?_⟩
        obtain ⟨b4, rfl, g4, l4⟩ := hd2
        rw [f_nil]
        refine ⟨by show (3 : Nat) ≤ sizeLine; decide, ?_⟩
        rw [lstD_lst, get_some]
        refine forW_ind (I_th x0 (.val d) (.val (.tup ts)) x5 x6 m5) [.tup b1, .tup b3, .tup b4] 0 _ ⟨_, rfl⟩ (fun i' d' s' hd' hI' => ?_) (fun s' hI' => ?_)
        · obtain ⟨x4', rfl⟩ := hI'
          obtain ⟨bs, rfl, gb, lb⟩ : ∃ bs, d' = .tup bs ∧ (∀ t ∈ bs, GTok t) ∧ bs.length ≤ 3000 := by
            have := List.mem_of_getElem? hd'
            simp only [List.mem_cons, List.not_mem_nil, or_false] at this
            rcases this with rfl | rfl | rfl
            · exact ⟨_, rfl, g1, by omega⟩
            · exact ⟨_, rfl, g3, by omega⟩
            · exact ⟨_, rfl, g4, l4⟩
          walk_at "wx"
          refine fb _ _ _ gb lb ?_
          obtain ⟨z, ez, cz⟩ := repr_opt (o := badT bs) (fun j hj => by
            rw [bad_fir gb] at hj
            have := firT_le hj
            omega)
          walk_at "wx"
          rw [ez, gt_some]
          refine ⟨cz, ?_⟩
          walk_at "wx"
          refine ⟨bs, rfl, gb, lb, ?_⟩
          rw [← bad_fir gb]
          walk_at "wx"
          rw [ez, gt_some]
          refine ⟨cz, ?_⟩
          walk_at "wx"
          refine fb _ _ _ gb lb ?_
          walk_at "wx"
          refine fb _ _ _ gb lb ?_
          obtain ⟨o1, o2⟩ := opt_self (badT bs)
          walk_at "wx"
          refine ⟨o1, ?_⟩
          rw [o2]
          walk_at "wx"
          exact ⟨_, rfl⟩
        · obtain ⟨x4', rfl⟩ := hI'
          walk_at "wx"
          refine next_of (by omega) (by omega) (by omega) fun at_ a0 a1 => ?_
          obtain ⟨p, rfl⟩ : ∃ p : Nat, at_ = (p : Int) := ⟨at_.toNat, by omega⟩
          walk_at "wx"
          refine ⟨by decide, by decide, by decide, by decide, by decide, by decide, next_of (by omega) (by omega) (by omega) fun r r0 r1 => ?_⟩
          walk_at "wx"
          refine pick_of (P := fun o => OkK o ∧ tokB o = false) r0 (by simpa using r1) (fun x hx => ?_) fun o ho => ?_
          · simp only [List.mem_cons, List.not_mem_nil, or_false] at hx
            rcases hx with rfl | rfl | rfl | rfl | rfl | rfl | rfl
            · exact ⟨okK_s okT_non.s fun es e => (nomatch e), rfl⟩
            · exact ⟨okK_s (okT_int _).s fun es e => (nomatch e), rfl⟩
            · exact ⟨okK_tup (by decide) fun e h => (nomatch h), rfl⟩
            · exact ⟨okK_tup (by decide) fun e h => (by
                simp only [List.mem_cons, List.not_mem_nil, or_false] at h
                rcases h with rfl | rfl <;> exact okT_str (by decide +kernel) (by decide +kernel)), by decide +kernel⟩
            · exact ⟨okK_lst _, rfl⟩
            · exact ⟨okK_str (by decide +kernel) (by decide +kernel), rfl⟩
            · exact ⟨okK_tup (by decide) fun e h => (by
                simp only [List.mem_cons, List.not_mem_nil, or_false] at h
                rcases h with rfl | rfl
                · exact okT_lst _
                · exact okT_str (by decide +kernel) (by decide +kernel)), rfl⟩
          obtain ⟨ho1, ho2⟩ := ho
          walk_at "wx"
          rw [cutL_take, cutL_drop]
          have hbo := bad_odd hc (by omega) (i := p) (by omega) ho2
          have lt : (ts.take p).length ≤ 30 := by rw [List.length_take]; omega
          have ld : (ts.drop p).length ≤ 30 := by rw [List.length_drop]; omega
          refine ⟨by decide, line2 (by omega), line2 (by simp only [List.length_append, List.length_singleton]; omega), ⟨_, rfl, .inl ⟨_, rfl, by simp only [List.length_append, List.length_singleton]; omega, all_app (all_app (fun t ht => (hc.t t (List.mem_of_mem_take ht)).ok.b) (all_one ho1)) (fun t ht => (hc.t t (List.mem_of_mem_drop ht)).ok.b), ?_⟩⟩⟩
          rw [hbo, show optD (some p) = .int p from rfl]
          walk_at "wx"
          refine ⟨by decide, next_of (by omega) (by omega) (by omega) fun r2 r20 r21 => ?_⟩
          walk_at "wx"
          refine pick_of (P := fun d => tyD d ≠ none ∧ ∀ es, d ≠ .tup es) r20 (by simpa using r21) (fun x hx => ?_) fun y hy => ?_
          · simp only [List.mem_cons, List.not_mem_nil, or_false] at hx
            rcases hx with rfl | rfl | rfl | rfl | rfl <;> exact ⟨fun h => (nomatch h), fun es h => (nomatch h)⟩
          walk_at "wx"
          refine ⟨y, rfl, .inr ⟨hy.1, hy.2, ?_⟩⟩
          walk_at "wx"
          refine ⟨repr_neg.2, ?_⟩
          rw [repr_neg.1]
          walk_at "wx"
          exact ⟨_, _, _, _, _, _, _, rfl, by omega⟩
      · rw [Nat.zero_add] at hI
        obtain ⟨x0, x2, x3, x4, x5, x6, m, rfl, hm⟩ := hI
        walk_at "wx"
        exact rfl
    obtain ⟨wsL, main, lwp⟩ := main0
    have rest : PSs (cxOf CX0 P w K mg base ["script", "draw", "turn", "chapter", "thing", "at", "odd"] "law" (defScope (top 34)) f cdv A callers s0 H E).nox ((defBody (top 34)).drop 1) (fun D σ H => ∃ d H0 G0, liftS ⟨K, some d, H0, G0⟩ wsL D σ H) :=
      ⟨fun pins s σ H D I ⟨d, H0, G0, h⟩ => (main d H0 G0).run pins s σ H D I h⟩
    have whole : ∃ t : TS, PSs (cxOf CX0 P w K mg base ["script", "draw", "turn", "chapter", "thing", "at", "odd"] "law" (defScope (top 34)) f cdv A callers s0 H E).nox (defBody (top 34)) t ∧ t { nx := fun _ H' => Q .non H', rt := Q } (L2.start ["script", "draw", "turn", "chapter", "thing", "at", "odd"] [.ref a]) H := by
      refine ⟨_, pss_cons (ps_set (i := 1) sc_law.nd rfl (by first | exact .inl rfl | exact .inr rfl) (pe_call GB hr1 rfl mB UB.kp bB .nil pass0 (pa_cons (pv 0) pa_nil))) rest, ?_⟩
      refine ⟨_, rfl, a, ns, rfl, hS, hl, fun p L H' hp hL nlp hsame e1 e2 => ?_⟩
      obtain ⟨G1, R⟩ := begin_rs (m := 5) (σ := (L2.start ["script", "draw", "turn", "chapter", "thing", "at", "odd"] [.ref a]).set 1 (some (.ref p))) hone hp hL nlp hsame e1 e2 hl rfl rfl
      have R := rs_script (m := 5) hS hsame rfl rfl R
      exact ⟨p, H', G1, G1, _, eEnd, R, lwp, ⟨fun _ _ _ _ _ _ h => h.elim, fun v σ' H2 G2 d2 s' _ _ r h => by
          subst h
          cases r
          exact k H2, fun _ _ _ _ _ _ h => h.elim, fun _ _ _ _ _ _ h => h.elim⟩⟩
    obtain ⟨t, h1, h2⟩ := whole
    exact ⟨t, h1.nox, h2⟩
theorem all_mk {l : PySem.W.OpenLaw} {w : World} {K : PySem.W.Frag} {h : Heap} {mg : Str → Option Value} {fa : Addr} {f1 f2 f3 f4 f5 f6 f7 f8 f9 f10 f11 f12 f13 f14 f15 f16 f17 f18 f19 f20 f21 f22 f23 f24 f25 A_BOX_KINDS A_LINE_KINDS : Addr} {od1 an1 : Option Addr} {sl1 : Array (Option Value)} {oc1 kV1 dc1 pm1 cd1 ct1 : Value} {od2 an2 : Option Addr} {sl2 : Array (Option Value)} {oc2 kV2 dc2 pm2 cd2 ct2 : Value} {od3 an3 : Option Addr} {sl3 : Array (Option Value)} {oc3 kV3 dc3 pm3 cd3 ct3 : Value} {od4 an4 : Option Addr} {sl4 : Array (Option Value)} {oc4 kV4 dc4 pm4 cd4 ct4 : Value} {od5 an5 : Option Addr} {sl5 : Array (Option Value)} {oc5 kV5 dc5 pm5 cd5 ct5 : Value} {od6 an6 : Option Addr} {sl6 : Array (Option Value)} {oc6 kV6 dc6 pm6 cd6 ct6 : Value} {od7 an7 : Option Addr} {sl7 : Array (Option Value)} {oc7 kV7 dc7 pm7 cd7 ct7 : Value} {od8 an8 : Option Addr} {sl8 : Array (Option Value)} {oc8 kV8 dc8 pm8 cd8 ct8 : Value} {od9 an9 : Option Addr} {sl9 : Array (Option Value)} {oc9 kV9 dc9 pm9 cd9 ct9 : Value} {od10 an10 : Option Addr} {sl10 : Array (Option Value)} {oc10 kV10 dc10 pm10 cd10 ct10 : Value} {od11 an11 : Option Addr} {sl11 : Array (Option Value)} {oc11 kV11 dc11 pm11 cd11 ct11 : Value} {od12 an12 : Option Addr} {sl12 : Array (Option Value)} {oc12 kV12 dc12 pm12 cd12 ct12 : Value} {od13 an13 : Option Addr} {sl13 : Array (Option Value)} {oc13 kV13 dc13 pm13 cd13 ct13 : Value} {od14 an14 : Option Addr} {sl14 : Array (Option Value)} {oc14 kV14 dc14 pm14 cd14 ct14 : Value} {od15 an15 : Option Addr} {sl15 : Array (Option Value)} {oc15 kV15 dc15 pm15 cd15 ct15 : Value} {od16 an16 : Option Addr} {sl16 : Array (Option Value)} {oc16 kV16 dc16 pm16 cd16 ct16 : Value} {od17 an17 : Option Addr} {sl17 : Array (Option Value)} {oc17 kV17 dc17 pm17 cd17 ct17 : Value} {od18 an18 : Option Addr} {sl18 : Array (Option Value)} {oc18 kV18 dc18 pm18 cd18 ct18 : Value} {od19 an19 : Option Addr} {sl19 : Array (Option Value)} {oc19 kV19 dc19 pm19 cd19 ct19 : Value} {od20 an20 : Option Addr} {sl20 : Array (Option Value)} {oc20 kV20 dc20 pm20 cd20 ct20 : Value} {od21 an21 : Option Addr} {sl21 : Array (Option Value)} {oc21 kV21 dc21 pm21 cd21 ct21 : Value} {od22 an22 : Option Addr} {sl22 : Array (Option Value)} {oc22 kV22 dc22 pm22 cd22 ct22 : Value} {od23 an23 : Option Addr} {sl23 : Array (Option Value)} {oc23 kV23 dc23 pm23 cd23 ct23 : Value} {od24 an24 : Option Addr} {sl24 : Array (Option Value)} {oc24 kV24 dc24 pm24 cd24 ct24 : Value} {od25 an25 : Option Addr} {sl25 : Array (Option Value)} {oc25 kV25 dc25 pm25 cd25 ct25 : Value} {o_BOX_KINDS : Option Addr} {n_BOX_KINDS : Nat} {s_BOX_KINDS : Array (Option Value)} {o_LINE_KINDS : Option Addr} {n_LINE_KINDS : Nat} {s_LINE_KINDS : Array (Option Value)} {o_z0 : Option Addr} {n_z0 : Nat} {s_z0 : Array (Option Value)} {o_z1 : Option Addr} {n_z1 : Nat} {s_z1 : Array (Option Value)} {o_z2 : Option Addr} {n_z2 : Nat} {s_z2 : Array (Option Value)} {o_z3 : Option Addr} {n_z3 : Nat} {s_z3 : Array (Option Value)} {o_z4 : Option Addr} {n_z4 : Nat} {s_z4 : Array (Option Value)} {o_z5 : Option Addr} {n_z5 : Nat} {s_z5 : Array (Option Value)} {o_z6 : Option Addr} {n_z6 : Nat} {s_z6 : Array (Option Value)} {o_z7 : Option Addr} {n_z7 : Nat} {s_z7 : Array (Option Value)} {t_BOX_KINDS_0 t_BOX_KINDS_1 t_BOX_KINDS_2 t_BOX_KINDS_3 t_LINE_KINDS_0 t_LINE_KINDS_1 t_LINE_KINDS_2 t_LINE_KINDS_3 t_MOST_OPEN t_MOST_TOKENS t_LETTERS t_LETTERS_AND_DIGITS t_PERCENT t_z1_0 t_z2_0 t_z3_0 t_z4_0 t_z4_1 t_z5_0 t_z5_1 t_z6_0 t_z6_1 t_z7_0 t_z7_1 t_z7_2 : Tok} (X : K.In h) (G : h.Ns mainGlobals mg) (hfa : mg "law" = some (.ref fa)) 
    
    (a1 : PySem.W.nsIn K mainGlobals "is_id" = some (some (.ref f1)))
    (l1 : K.lookup f1 = some ⟨oc1, od1, .func (PySem.W.fnOf "is_id" "is_id" (defArgs (top 9)) (defBody (top 9)) (defScope (top 9)) .none kV1 dc1 pm1 an1 cd1 ct1), sl1⟩)
    (c1 : PySem.W.codeIn K cd1 "is_id" = true)
    (k1 : PySem.W.keepIn K (.ref f1) = true)
    (a2 : PySem.W.nsIn K mainGlobals "sort_of" = some (some (.ref f2)))
    (l2 : K.lookup f2 = some ⟨oc2, od2, .func (PySem.W.fnOf "sort_of" "sort_of" (defArgs (top 12)) (defBody (top 12)) (defScope (top 12)) .none kV2 dc2 pm2 an2 cd2 ct2), sl2⟩)
    (c2 : PySem.W.codeIn K cd2 "sort_of" = true)
    (k2 : PySem.W.keepIn K (.ref f2) = true)
    (a3 : PySem.W.nsIn K mainGlobals "first_misplaced" = some (some (.ref f3)))
    (l3 : K.lookup f3 = some ⟨oc3, od3, .func (PySem.W.fnOf "first_misplaced" "first_misplaced" (defArgs (top 14)) (defBody (top 14)) (defScope (top 14)) .none kV3 dc3 pm3 an3 cd3 ct3), sl3⟩)
    (c3 : PySem.W.codeIn K cd3 "first_misplaced" = true)
    (k3 : PySem.W.keepIn K (.ref f3) = true)
    (a4 : PySem.W.nsIn K mainGlobals "are_styles" = some (some (.ref f4)))
    (l4 : K.lookup f4 = some ⟨oc4, od4, .func (PySem.W.fnOf "are_styles" "are_styles" (defArgs (top 16)) (defBody (top 16)) (defScope (top 16)) .none kV4 dc4 pm4 an4 cd4 ct4), sl4⟩)
    (c4 : PySem.W.codeIn K cd4 "are_styles" = true)
    (k4 : PySem.W.keepIn K (.ref f4) = true)
    (a5 : PySem.W.nsIn K mainGlobals "_is_plain" = some (some (.ref f5)))
    (l5 : K.lookup f5 = some ⟨oc5, od5, .func (PySem.W.fnOf "_is_plain" "_is_plain" (defArgs (top 17)) (defBody (top 17)) (defScope (top 17)) .none kV5 dc5 pm5 an5 cd5 ct5), sl5⟩)
    (c5 : PySem.W.codeIn K cd5 "_is_plain" = true)
    (k5 : PySem.W.keepIn K (.ref f5) = true)
    (a6 : PySem.W.nsIn K mainGlobals "_law_mixed" = some (some (.ref f6)))
    (l6 : K.lookup f6 = some ⟨oc6, od6, .func (PySem.W.fnOf "_law_mixed" "_law_mixed" (defArgs (top 21)) (defBody (top 21)) (defScope (top 21)) .none kV6 dc6 pm6 an6 cd6 ct6), sl6⟩)
    (c6 : PySem.W.codeIn K cd6 "_law_mixed" = true)
    (k6 : PySem.W.keepIn K (.ref f6) = true)
    (a7 : PySem.W.nsIn K mainGlobals "_law_first" = some (some (.ref f7)))
    (l7 : K.lookup f7 = some ⟨oc7, od7, .func (PySem.W.fnOf "_law_first" "_law_first" (defArgs (top 29)) (defBody (top 29)) (defScope (top 29)) .none kV7 dc7 pm7 an7 cd7 ct7), sl7⟩)
    (c7 : PySem.W.codeIn K cd7 "_law_first" = true)
    (k7 : PySem.W.keepIn K (.ref f7) = true)
    (a8 : PySem.W.nsIn K mainGlobals "_law_deep" = some (some (.ref f8)))
    (l8 : K.lookup f8 = some ⟨oc8, od8, .func (PySem.W.fnOf "_law_deep" "_law_deep" (defArgs (top 32)) (defBody (top 32)) (defScope (top 32)) .none kV8 dc8 pm8 an8 cd8 ct8), sl8⟩)
    (c8 : PySem.W.codeIn K cd8 "_law_deep" = true)
    (k8 : PySem.W.keepIn K (.ref f8) = true)
    (a9 : PySem.W.nsIn K mainGlobals "is_link" = some (some (.ref f9)))
    (l9 : K.lookup f9 = some ⟨oc9, od9, .func (PySem.W.fnOf "is_link" "is_link" (defArgs (top 10)) (defBody (top 10)) (defScope (top 10)) .none kV9 dc9 pm9 an9 cd9 ct9), sl9⟩)
    (c9 : PySem.W.codeIn K cd9 "is_link" = true)
    (k9 : PySem.W.keepIn K (.ref f9) = true)
    (a10 : PySem.W.nsIn K mainGlobals "_law_next" = some (some (.ref f10)))
    (l10 : K.lookup f10 = some ⟨oc10, od10, .func (PySem.W.fnOf "_law_next" "_law_next" (defArgs (top 22)) (defBody (top 22)) (defScope (top 22)) .none kV10 dc10 pm10 an10 cd10 ct10), sl10⟩)
    (c10 : PySem.W.codeIn K cd10 "_law_next" = true)
    (k10 : PySem.W.keepIn K (.ref f10) = true)
    (a11 : PySem.W.nsIn K mainGlobals "_is_char" = some (some (.ref f11)))
    (l11 : K.lookup f11 = some ⟨oc11, od11, .func (PySem.W.fnOf "_is_char" "_is_char" (defArgs (top 18)) (defBody (top 18)) (defScope (top 18)) .none kV11 dc11 pm11 an11 cd11 ct11), sl11⟩)
    (c11 : PySem.W.codeIn K cd11 "_is_char" = true)
    (k11 : PySem.W.keepIn K (.ref f11) = true)
    (a12 : PySem.W.nsIn K mainGlobals "_law_styles" = some (some (.ref f12)))
    (l12 : K.lookup f12 = some ⟨oc12, od12, .func (PySem.W.fnOf "_law_styles" "_law_styles" (defArgs (top 23)) (defBody (top 23)) (defScope (top 23)) .none kV12 dc12 pm12 an12 cd12 ct12), sl12⟩)
    (c12 : PySem.W.codeIn K cd12 "_law_styles" = true)
    (k12 : PySem.W.keepIn K (.ref f12) = true)
    (a13 : PySem.W.nsIn K mainGlobals "_law_opened" = some (some (.ref f13)))
    (l13 : K.lookup f13 = some ⟨oc13, od13, .func (PySem.W.fnOf "_law_opened" "_law_opened" (defArgs (top 26)) (defBody (top 26)) (defScope (top 26)) .none kV13 dc13 pm13 an13 cd13 ct13), sl13⟩)
    (c13 : PySem.W.codeIn K cd13 "_law_opened" = true)
    (k13 : PySem.W.keepIn K (.ref f13) = true)
    (a14 : PySem.W.nsIn K mainGlobals "_law_great" = some (some (.ref f14)))
    (l14 : K.lookup f14 = some ⟨oc14, od14, .func (PySem.W.fnOf "_law_great" "_law_great" (defArgs (top 31)) (defBody (top 31)) (defScope (top 31)) .none kV14 dc14 pm14 an14 cd14 ct14), sl14⟩)
    (c14 : PySem.W.codeIn K cd14 "_law_great" = true)
    (k14 : PySem.W.keepIn K (.ref f14) = true)
    (a15 : PySem.W.nsIn K mainGlobals "is_token" = some (some (.ref f15)))
    (l15 : K.lookup f15 = some ⟨oc15, od15, .func (PySem.W.fnOf "is_token" "is_token" (defArgs (top 11)) (defBody (top 11)) (defScope (top 11)) .none kV15 dc15 pm15 an15 cd15 ct15), sl15⟩)
    (c15 : PySem.W.codeIn K cd15 "is_token" = true)
    (k15 : PySem.W.keepIn K (.ref f15) = true)
    (a16 : PySem.W.nsIn K mainGlobals "_law_char" = some (some (.ref f16)))
    (l16 : K.lookup f16 = some ⟨oc16, od16, .func (PySem.W.fnOf "_law_char" "_law_char" (defArgs (top 24)) (defBody (top 24)) (defScope (top 24)) .none kV16 dc16 pm16 an16 cd16 ct16), sl16⟩)
    (c16 : PySem.W.codeIn K cd16 "_law_char" = true)
    (k16 : PySem.W.keepIn K (.ref f16) = true)
    (a17 : PySem.W.nsIn K mainGlobals "count_tokens" = some (some (.ref f17)))
    (l17 : K.lookup f17 = some ⟨oc17, od17, .func (PySem.W.fnOf "count_tokens" "count_tokens" (defArgs (top 15)) (defBody (top 15)) (defScope (top 15)) .none kV17 dc17 pm17 an17 cd17 ct17), sl17⟩)
    (c17 : PySem.W.codeIn K cd17 "count_tokens" = true)
    (k17 : PySem.W.keepIn K (.ref f17) = true)
    (a18 : PySem.W.nsIn K mainGlobals "_law_glyph" = some (some (.ref f18)))
    (l18 : K.lookup f18 = some ⟨oc18, od18, .func (PySem.W.fnOf "_law_glyph" "_law_glyph" (defArgs (top 25)) (defBody (top 25)) (defScope (top 25)) .none kV18 dc18 pm18 an18 cd18 ct18), sl18⟩)
    (c18 : PySem.W.codeIn K cd18 "_law_glyph" = true)
    (k18 : PySem.W.keepIn K (.ref f18) = true)
    (a19 : PySem.W.nsIn K mainGlobals "_law_rough" = some (some (.ref f19)))
    (l19 : K.lookup f19 = some ⟨oc19, od19, .func (PySem.W.fnOf "_law_rough" "_law_rough" (defArgs (top 28)) (defBody (top 28)) (defScope (top 28)) .none kV19 dc19 pm19 an19 cd19 ct19), sl19⟩)
    (c19 : PySem.W.codeIn K cd19 "_law_rough" = true)
    (k19 : PySem.W.keepIn K (.ref f19) = true)
    (a20 : PySem.W.nsIn K mainGlobals "first_bad" = some (some (.ref f20)))
    (l20 : K.lookup f20 = some ⟨oc20, od20, .func (PySem.W.fnOf "first_bad" "first_bad" (defArgs (top 13)) (defBody (top 13)) (defScope (top 13)) .none kV20 dc20 pm20 an20 cd20 ct20), sl20⟩)
    (c20 : PySem.W.codeIn K cd20 "first_bad" = true)
    (k20 : PySem.W.keepIn K (.ref f20) = true)
    (a21 : PySem.W.nsIn K mainGlobals "_law_chapter" = some (some (.ref f21)))
    (l21 : K.lookup f21 = some ⟨oc21, od21, .func (PySem.W.fnOf "_law_chapter" "_law_chapter" (defArgs (top 27)) (defBody (top 27)) (defScope (top 27)) .none kV21 dc21 pm21 an21 cd21 ct21), sl21⟩)
    (c21 : PySem.W.codeIn K cd21 "_law_chapter" = true)
    (k21 : PySem.W.keepIn K (.ref f21) = true)
    (a22 : PySem.W.nsIn K mainGlobals "_law_bent" = some (some (.ref f22)))
    (l22 : K.lookup f22 = some ⟨oc22, od22, .func (PySem.W.fnOf "_law_bent" "_law_bent" (defArgs (top 30)) (defBody (top 30)) (defScope (top 30)) .none kV22 dc22 pm22 an22 cd22 ct22), sl22⟩)
    (c22 : PySem.W.codeIn K cd22 "_law_bent" = true)
    (k22 : PySem.W.keepIn K (.ref f22) = true)
    (a23 : PySem.W.nsIn K mainGlobals "_law_beginnings_right" = some (some (.ref f23)))
    (l23 : K.lookup f23 = some ⟨oc23, od23, .func (PySem.W.fnOf "_law_beginnings_right" "_law_beginnings_right" (defArgs (top 33)) (defBody (top 33)) (defScope (top 33)) .none kV23 dc23 pm23 an23 cd23 ct23), sl23⟩)
    (c23 : PySem.W.codeIn K cd23 "_law_beginnings_right" = true)
    (k23 : PySem.W.keepIn K (.ref f23) = true)
    (a24 : PySem.W.nsIn K mainGlobals "_law_begin" = some (some (.ref f24)))
    (l24 : K.lookup f24 = some ⟨oc24, od24, .func (PySem.W.fnOf "_law_begin" "_law_begin" (defArgs (top 20)) (defBody (top 20)) (defScope (top 20)) .none kV24 dc24 pm24 an24 cd24 ct24), sl24⟩)
    (c24 : PySem.W.codeIn K cd24 "_law_begin" = true)
    (k24 : PySem.W.keepIn K (.ref f24) = true)
    (a25 : PySem.W.nsIn K mainGlobals "law" = some (some (.ref f25)))
    (l25 : K.lookup f25 = some ⟨oc25, od25, .func (PySem.W.fnOf "law" "law" (defArgs (top 34)) (defBody (top 34)) (defScope (top 34)) .none kV25 dc25 pm25 an25 cd25 ct25), sl25⟩)
    (c25 : PySem.W.codeIn K cd25 "law" = true)
    (k25 : PySem.W.keepIn K (.ref f25) = true)
    (b_all : PySem.W.nsIn K mainGlobals "all" = some none)
    (b_isinstance : PySem.W.nsIn K mainGlobals "isinstance" = some none)
    (b_str : PySem.W.nsIn K mainGlobals "str" = some none)
    (b_len : PySem.W.nsIn K mainGlobals "len" = some none)
    (b_tuple : PySem.W.nsIn K mainGlobals "tuple" = some none)
    (b_enumerate : PySem.W.nsIn K mainGlobals "enumerate" = some none)
    (b_ord : PySem.W.nsIn K mainGlobals "ord" = some none)
    (b_int : PySem.W.nsIn K mainGlobals "int" = some none)
    (b_range : PySem.W.nsIn K mainGlobals "range" = some none)
    (b_min : PySem.W.nsIn K mainGlobals "min" = some none)
    (b_repr : PySem.W.nsIn K mainGlobals "repr" = some none)
    (b_list : PySem.W.nsIn K mainGlobals "list" = some none)
    (l_BOX_KINDS : K.lookup A_BOX_KINDS = some ⟨.type "tuple", o_BOX_KINDS, .seq #[.str "section" t_BOX_KINDS_0, .str "quote" t_BOX_KINDS_1, .str "list" t_BOX_KINDS_2, .str "item" t_BOX_KINDS_3] n_BOX_KINDS, s_BOX_KINDS⟩)
    (a_BOX_KINDS : PySem.W.nsIn K mainGlobals "BOX_KINDS" = some (some (.ref A_BOX_KINDS)))
    (l_LINE_KINDS : K.lookup A_LINE_KINDS = some ⟨.type "tuple", o_LINE_KINDS, .seq #[.str "head1" t_LINE_KINDS_0, .str "head2" t_LINE_KINDS_1, .str "head3" t_LINE_KINDS_2, .str "para" t_LINE_KINDS_3] n_LINE_KINDS, s_LINE_KINDS⟩)
    (a_LINE_KINDS : PySem.W.nsIn K mainGlobals "LINE_KINDS" = some (some (.ref A_LINE_KINDS)))
    (a_MOST_OPEN : PySem.W.nsIn K mainGlobals "MOST_OPEN" = some (some (.int 12 t_MOST_OPEN)))
    (a_MOST_TOKENS : PySem.W.nsIn K mainGlobals "MOST_TOKENS" = some (some (.int 2000 t_MOST_TOKENS)))
    (a_LETTERS : PySem.W.nsIn K mainGlobals "_LETTERS" = some (some (.str "abcdefghijklmnopqrstuvwxyz" t_LETTERS)))
    (a_LETTERS_AND_DIGITS : PySem.W.nsIn K mainGlobals "_LETTERS_AND_DIGITS" = some (some (.str "abcdefghijklmnopqrstuvwxyz0123456789" t_LETTERS_AND_DIGITS)))
    (a_PERCENT : PySem.W.nsIn K mainGlobals "_PERCENT" = some (some (.int 37 t_PERCENT)))
    (a_sy : PySem.W.nsIn K mainGlobals "_STYLE_ROWS" = some (some (.ref 17)))
    (l_sy : K.lookup 17 = some (DI.styO l.prog w STX))
    (l_z0 : K.lookup 18 = some ⟨.type "tuple", o_z0, .seq #[] n_z0, s_z0⟩)
    (l_z1 : K.lookup 19 = some ⟨.type "tuple", o_z1, .seq #[.str "code" t_z1_0] n_z1, s_z1⟩)
    (l_z2 : K.lookup 20 = some ⟨.type "tuple", o_z2, .seq #[.str "slant" t_z2_0] n_z2, s_z2⟩)
    (l_z3 : K.lookup 21 = some ⟨.type "tuple", o_z3, .seq #[.str "strong" t_z3_0] n_z3, s_z3⟩)
    (l_z4 : K.lookup 22 = some ⟨.type "tuple", o_z4, .seq #[.str "code" t_z4_0, .str "slant" t_z4_1] n_z4, s_z4⟩)
    (l_z5 : K.lookup 23 = some ⟨.type "tuple", o_z5, .seq #[.str "code" t_z5_0, .str "strong" t_z5_1] n_z5, s_z5⟩)
    (l_z6 : K.lookup 24 = some ⟨.type "tuple", o_z6, .seq #[.str "slant" t_z6_0, .str "strong" t_z6_1] n_z6, s_z6⟩)
    (l_z7 : K.lookup 25 = some ⟨.type "tuple", o_z7, .seq #[.str "code" t_z7_0, .str "slant" t_z7_1, .str "strong" t_z7_2] n_z7, s_z7⟩) :
    ∃ fd : FuncData, (∀ (s : Shared) (v : Value), BindsTo s fd ⟨[v], []⟩ [("script", v)]) ∧ ∀ base : Heap, K.In base → base.Ns mainGlobals mg → FnG l.prog w K mg base 8 fa fd ["script"] (spLaw K) := by
  have e := hfa.symm.trans (PySem.W.mg_of X G a25)
  cases e
  have T : Txt K mg := ⟨PySem.W.mg_none_of X G b_all, PySem.W.mg_none_of X G b_isinstance, PySem.W.mg_none_of X G b_str, PySem.W.mg_none_of X G b_len, PySem.W.mg_none_of X G b_tuple, PySem.W.mg_none_of X G b_enumerate, PySem.W.mg_none_of X G b_ord, PySem.W.mg_none_of X G b_int, PySem.W.mg_none_of X G b_range, PySem.W.mg_none_of X G b_min, PySem.W.mg_none_of X G b_repr, PySem.W.mg_none_of X G b_list⟩
  have SY : Sty l.prog w K mg "_STYLE_ROWS" SR := DI.sty_mk (xs := STX) (PySem.W.mg_of X G a_sy) (by decide) (by decide +kernel) l_sy (fun y hy => by
    simp only [STX, List.mem_cons, List.not_mem_nil, or_false] at hy
    rcases hy with rfl | rfl | rfl | rfl | rfl | rfl | rfl | rfl
    · exact ⟨_, _, _, l_z0, rfl, rfl, .nil⟩
    · exact ⟨_, _, _, l_z1, rfl, rfl, (.cons rfl .nil)⟩
    · exact ⟨_, _, _, l_z2, rfl, rfl, (.cons rfl .nil)⟩
    · exact ⟨_, _, _, l_z3, rfl, rfl, (.cons rfl .nil)⟩
    · exact ⟨_, _, _, l_z4, rfl, rfl, (.cons rfl (.cons rfl .nil))⟩
    · exact ⟨_, _, _, l_z5, rfl, rfl, (.cons rfl (.cons rfl .nil))⟩
    · exact ⟨_, _, _, l_z6, rfl, rfl, (.cons rfl (.cons rfl .nil))⟩
    · exact ⟨_, _, _, l_z7, rfl, rfl, (.cons rfl (.cons rfl (.cons rfl .nil)))⟩)
  have C : Cn K mg := {
    BOX_KINDS := ⟨.ref A_BOX_KINDS, _, PySem.W.mg_of X G a_BOX_KINDS, rfl, fun dr G => (.tup (xs := [.str "section", .str "quote", .str "list", .str "item"]) (.inr ⟨_, _, n_BOX_KINDS, l_BOX_KINDS, rfl, rfl, (by show 4 ≤ sizeLine; decide), (.cons ⟨_, rfl⟩ (.cons ⟨_, rfl⟩ (.cons ⟨_, rfl⟩ (.cons ⟨_, rfl⟩ .nil))))⟩) (.cons (.str _) (.cons (.str _) (.cons (.str _) (.cons (.str _) .nil)))))⟩
    LINE_KINDS := ⟨.ref A_LINE_KINDS, _, PySem.W.mg_of X G a_LINE_KINDS, rfl, fun dr G => (.tup (xs := [.str "head1", .str "head2", .str "head3", .str "para"]) (.inr ⟨_, _, n_LINE_KINDS, l_LINE_KINDS, rfl, rfl, (by show 4 ≤ sizeLine; decide), (.cons ⟨_, rfl⟩ (.cons ⟨_, rfl⟩ (.cons ⟨_, rfl⟩ (.cons ⟨_, rfl⟩ .nil))))⟩) (.cons (.str _) (.cons (.str _) (.cons (.str _) (.cons (.str _) .nil)))))⟩
    MOST_OPEN := gc_int (PySem.W.mg_of X G a_MOST_OPEN)
    MOST_TOKENS := gc_int (PySem.W.mg_of X G a_MOST_TOKENS)
    _LETTERS := gc_str (PySem.W.mg_of X G a_LETTERS)
    _LETTERS_AND_DIGITS := gc_str (PySem.W.mg_of X G a_LETTERS_AND_DIGITS)
    _PERCENT := gc_int (PySem.W.mg_of X G a_PERCENT) }
  have U1 := fun_mk (st := top 9) l1 c1 k1
  have bb1 := U1.binds (ps := ["value"]) fun _ _ _ _ _ _ us hl => match us, hl with | [_], _ => rfl
  have kb1 : ∀ (s : Shared) (us : List Value), us.length = 1 → BindsTo s (PySem.W.fnOf "is_id" "is_id" (defArgs (top 9)) (defBody (top 9)) (defScope (top 9)) .none kV1 dc1 pm1 an1 cd1 ct1) ⟨[], (["value"] : List Str).zip us⟩ ((["value"] : List Str).zip us) := fun s us hl => match us, hl with | [_], _ => .of_eq rfl
  have U2 := fun_mk (st := top 12) l2 c2 k2
  have bb2 := U2.binds (ps := ["kind"]) fun _ _ _ _ _ _ us hl => match us, hl with | [_], _ => rfl
  have kb2 : ∀ (s : Shared) (us : List Value), us.length = 1 → BindsTo s (PySem.W.fnOf "sort_of" "sort_of" (defArgs (top 12)) (defBody (top 12)) (defScope (top 12)) .none kV2 dc2 pm2 an2 cd2 ct2) ⟨[], (["kind"] : List Str).zip us⟩ ((["kind"] : List Str).zip us) := fun s us hl => match us, hl with | [_], _ => .of_eq rfl
  have U3 := fun_mk (st := top 14) l3 c3 k3
  have bb3 := U3.binds (ps := ["tokens"]) fun _ _ _ _ _ _ us hl => match us, hl with | [_], _ => rfl
  have kb3 : ∀ (s : Shared) (us : List Value), us.length = 1 → BindsTo s (PySem.W.fnOf "first_misplaced" "first_misplaced" (defArgs (top 14)) (defBody (top 14)) (defScope (top 14)) .none kV3 dc3 pm3 an3 cd3 ct3) ⟨[], (["tokens"] : List Str).zip us⟩ ((["tokens"] : List Str).zip us) := fun s us hl => match us, hl with | [_], _ => .of_eq rfl
  have U4 := fun_mk (st := top 16) l4 c4 k4
  have bb4 := U4.binds (ps := ["words"]) fun _ _ _ _ _ _ us hl => match us, hl with | [_], _ => rfl
  have kb4 : ∀ (s : Shared) (us : List Value), us.length = 1 → BindsTo s (PySem.W.fnOf "are_styles" "are_styles" (defArgs (top 16)) (defBody (top 16)) (defScope (top 16)) .none kV4 dc4 pm4 an4 cd4 ct4) ⟨[], (["words"] : List Str).zip us⟩ ((["words"] : List Str).zip us) := fun s us hl => match us, hl with | [_], _ => .of_eq rfl
  have U5 := fun_mk (st := top 17) l5 c5 k5
  have bb5 := U5.binds (ps := ["c"]) fun _ _ _ _ _ _ us hl => match us, hl with | [_], _ => rfl
  have kb5 : ∀ (s : Shared) (us : List Value), us.length = 1 → BindsTo s (PySem.W.fnOf "_is_plain" "_is_plain" (defArgs (top 17)) (defBody (top 17)) (defScope (top 17)) .none kV5 dc5 pm5 an5 cd5 ct5) ⟨[], (["c"] : List Str).zip us⟩ ((["c"] : List Str).zip us) := fun s us hl => match us, hl with | [_], _ => .of_eq rfl
  have U6 := fun_mk (st := top 21) l6 c6 k6
  have bb6 := U6.binds (ps := ["cell", "k"]) fun _ _ _ _ _ _ us hl => match us, hl with | [_, _], _ => rfl
  have kb6 : ∀ (s : Shared) (us : List Value), us.length = 2 → BindsTo s (PySem.W.fnOf "_law_mixed" "_law_mixed" (defArgs (top 21)) (defBody (top 21)) (defScope (top 21)) .none kV6 dc6 pm6 an6 cd6 ct6) ⟨[], (["cell", "k"] : List Str).zip us⟩ ((["cell", "k"] : List Str).zip us) := fun s us hl => match us, hl with | [_, _], _ => .of_eq rfl
  have U7 := fun_mk (st := top 29) l7 c7 k7
  have bb7 := U7.binds (ps := ["thing"]) fun _ _ _ _ _ _ us hl => match us, hl with | [_], _ => rfl
  have kb7 : ∀ (s : Shared) (us : List Value), us.length = 1 → BindsTo s (PySem.W.fnOf "_law_first" "_law_first" (defArgs (top 29)) (defBody (top 29)) (defScope (top 29)) .none kV7 dc7 pm7 an7 cd7 ct7) ⟨[], (["thing"] : List Str).zip us⟩ ((["thing"] : List Str).zip us) := fun s us hl => match us, hl with | [_], _ => .of_eq rfl
  have U8 := fun_mk (st := top 32) l8 c8 k8
  have bb8 := U8.binds (ps := ["many"]) fun _ _ _ _ _ _ us hl => match us, hl with | [_], _ => rfl
  have kb8 : ∀ (s : Shared) (us : List Value), us.length = 1 → BindsTo s (PySem.W.fnOf "_law_deep" "_law_deep" (defArgs (top 32)) (defBody (top 32)) (defScope (top 32)) .none kV8 dc8 pm8 an8 cd8 ct8) ⟨[], (["many"] : List Str).zip us⟩ ((["many"] : List Str).zip us) := fun s us hl => match us, hl with | [_], _ => .of_eq rfl
  have U9 := fun_mk (st := top 10) l9 c9 k9
  have bb9 := U9.binds (ps := ["value"]) fun _ _ _ _ _ _ us hl => match us, hl with | [_], _ => rfl
  have kb9 : ∀ (s : Shared) (us : List Value), us.length = 1 → BindsTo s (PySem.W.fnOf "is_link" "is_link" (defArgs (top 10)) (defBody (top 10)) (defScope (top 10)) .none kV9 dc9 pm9 an9 cd9 ct9) ⟨[], (["value"] : List Str).zip us⟩ ((["value"] : List Str).zip us) := fun s us hl => match us, hl with | [_], _ => .of_eq rfl
  have U10 := fun_mk (st := top 22) l10 c10 k10
  have bb10 := U10.binds (ps := ["draw", "bound"]) fun _ _ _ _ _ _ us hl => match us, hl with | [_, _], _ => rfl
  have kb10 : ∀ (s : Shared) (us : List Value), us.length = 2 → BindsTo s (PySem.W.fnOf "_law_next" "_law_next" (defArgs (top 22)) (defBody (top 22)) (defScope (top 22)) .none kV10 dc10 pm10 an10 cd10 ct10) ⟨[], (["draw", "bound"] : List Str).zip us⟩ ((["draw", "bound"] : List Str).zip us) := fun s us hl => match us, hl with | [_, _], _ => .of_eq rfl
  have U11 := fun_mk (st := top 18) l11 c11 k11
  have bb11 := U11.binds (ps := ["c", "styles", "link"]) fun _ _ _ _ _ _ us hl => match us, hl with | [_, _, _], _ => rfl
  have kb11 : ∀ (s : Shared) (us : List Value), us.length = 3 → BindsTo s (PySem.W.fnOf "_is_char" "_is_char" (defArgs (top 18)) (defBody (top 18)) (defScope (top 18)) .none kV11 dc11 pm11 an11 cd11 ct11) ⟨[], (["c", "styles", "link"] : List Str).zip us⟩ ((["c", "styles", "link"] : List Str).zip us) := fun s us hl => match us, hl with | [_, _, _], _ => .of_eq rfl
  have U12 := fun_mk (st := top 23) l12 c12 k12
  have bb12 := U12.binds (ps := ["draw"]) fun _ _ _ _ _ _ us hl => match us, hl with | [_], _ => rfl
  have kb12 : ∀ (s : Shared) (us : List Value), us.length = 1 → BindsTo s (PySem.W.fnOf "_law_styles" "_law_styles" (defArgs (top 23)) (defBody (top 23)) (defScope (top 23)) .none kV12 dc12 pm12 an12 cd12 ct12) ⟨[], (["draw"] : List Str).zip us⟩ ((["draw"] : List Str).zip us) := fun s us hl => match us, hl with | [_], _ => .of_eq rfl
  have U13 := fun_mk (st := top 26) l13 c13 k13
  have bb13 := U13.binds (ps := ["draw", "kinds"]) fun _ _ _ _ _ _ us hl => match us, hl with | [_, _], _ => rfl
  have kb13 : ∀ (s : Shared) (us : List Value), us.length = 2 → BindsTo s (PySem.W.fnOf "_law_opened" "_law_opened" (defArgs (top 26)) (defBody (top 26)) (defScope (top 26)) .none kV13 dc13 pm13 an13 cd13 ct13) ⟨[], (["draw", "kinds"] : List Str).zip us⟩ ((["draw", "kinds"] : List Str).zip us) := fun s us hl => match us, hl with | [_, _], _ => .of_eq rfl
  have U14 := fun_mk (st := top 31) l14 c14 k14
  have bb14 := U14.binds (ps := ["draw"]) fun _ _ _ _ _ _ us hl => match us, hl with | [_], _ => rfl
  have kb14 : ∀ (s : Shared) (us : List Value), us.length = 1 → BindsTo s (PySem.W.fnOf "_law_great" "_law_great" (defArgs (top 31)) (defBody (top 31)) (defScope (top 31)) .none kV14 dc14 pm14 an14 cd14 ct14) ⟨[], (["draw"] : List Str).zip us⟩ ((["draw"] : List Str).zip us) := fun s us hl => match us, hl with | [_], _ => .of_eq rfl
  have U15 := fun_mk (st := top 11) l15 c15 k15
  have bb15 := U15.binds (ps := ["value"]) fun _ _ _ _ _ _ us hl => match us, hl with | [_], _ => rfl
  have kb15 : ∀ (s : Shared) (us : List Value), us.length = 1 → BindsTo s (PySem.W.fnOf "is_token" "is_token" (defArgs (top 11)) (defBody (top 11)) (defScope (top 11)) .none kV15 dc15 pm15 an15 cd15 ct15) ⟨[], (["value"] : List Str).zip us⟩ ((["value"] : List Str).zip us) := fun s us hl => match us, hl with | [_], _ => .of_eq rfl
  have U16 := fun_mk (st := top 24) l16 c16 k16
  have bb16 := U16.binds (ps := ["draw", "link"]) fun _ _ _ _ _ _ us hl => match us, hl with | [_, _], _ => rfl
  have kb16 : ∀ (s : Shared) (us : List Value), us.length = 2 → BindsTo s (PySem.W.fnOf "_law_char" "_law_char" (defArgs (top 24)) (defBody (top 24)) (defScope (top 24)) .none kV16 dc16 pm16 an16 cd16 ct16) ⟨[], (["draw", "link"] : List Str).zip us⟩ ((["draw", "link"] : List Str).zip us) := fun s us hl => match us, hl with | [_, _], _ => .of_eq rfl
  have U17 := fun_mk (st := top 15) l17 c17 k17
  have bb17 := U17.binds (ps := ["value"]) fun _ _ _ _ _ _ us hl => match us, hl with | [_], _ => rfl
  have kb17 : ∀ (s : Shared) (us : List Value), us.length = 1 → BindsTo s (PySem.W.fnOf "count_tokens" "count_tokens" (defArgs (top 15)) (defBody (top 15)) (defScope (top 15)) .none kV17 dc17 pm17 an17 cd17 ct17) ⟨[], (["value"] : List Str).zip us⟩ ((["value"] : List Str).zip us) := fun s us hl => match us, hl with | [_], _ => .of_eq rfl
  have U18 := fun_mk (st := top 25) l18 c18 k18
  have bb18 := U18.binds (ps := ["draw", "names", "images"]) fun _ _ _ _ _ _ us hl => match us, hl with | [_, _, _], _ => rfl
  have kb18 : ∀ (s : Shared) (us : List Value), us.length = 3 → BindsTo s (PySem.W.fnOf "_law_glyph" "_law_glyph" (defArgs (top 25)) (defBody (top 25)) (defScope (top 25)) .none kV18 dc18 pm18 an18 cd18 ct18) ⟨[], (["draw", "names", "images"] : List Str).zip us⟩ ((["draw", "names", "images"] : List Str).zip us) := fun s us hl => match us, hl with | [_, _, _], _ => .of_eq rfl
  have U19 := fun_mk (st := top 28) l19 c19 k19
  have bb19 := U19.binds (ps := ["draw"]) fun _ _ _ _ _ _ us hl => match us, hl with | [_], _ => rfl
  have kb19 : ∀ (s : Shared) (us : List Value), us.length = 1 → BindsTo s (PySem.W.fnOf "_law_rough" "_law_rough" (defArgs (top 28)) (defBody (top 28)) (defScope (top 28)) .none kV19 dc19 pm19 an19 cd19 ct19) ⟨[], (["draw"] : List Str).zip us⟩ ((["draw"] : List Str).zip us) := fun s us hl => match us, hl with | [_], _ => .of_eq rfl
  have U20 := fun_mk (st := top 13) l20 c20 k20
  have bb20 := U20.binds (ps := ["value"]) fun _ _ _ _ _ _ us hl => match us, hl with | [_], _ => rfl
  have kb20 : ∀ (s : Shared) (us : List Value), us.length = 1 → BindsTo s (PySem.W.fnOf "first_bad" "first_bad" (defArgs (top 13)) (defBody (top 13)) (defScope (top 13)) .none kV20 dc20 pm20 an20 cd20 ct20) ⟨[], (["value"] : List Str).zip us⟩ ((["value"] : List Str).zip us) := fun s us hl => match us, hl with | [_], _ => .of_eq rfl
  have U21 := fun_mk (st := top 27) l21 c21 k21
  have bb21 := U21.binds (ps := ["draw", "most", "names", "images"]) fun _ _ _ _ _ _ us hl => match us, hl with | [_, _, _, _], _ => rfl
  have kb21 : ∀ (s : Shared) (us : List Value), us.length = 4 → BindsTo s (PySem.W.fnOf "_law_chapter" "_law_chapter" (defArgs (top 27)) (defBody (top 27)) (defScope (top 27)) .none kV21 dc21 pm21 an21 cd21 ct21) ⟨[], (["draw", "most", "names", "images"] : List Str).zip us⟩ ((["draw", "most", "names", "images"] : List Str).zip us) := fun s us hl => match us, hl with | [_, _, _, _], _ => .of_eq rfl
  have U22 := fun_mk (st := top 30) l22 c22 k22
  have bb22 := U22.binds (ps := ["draw", "chapter"]) fun _ _ _ _ _ _ us hl => match us, hl with | [_, _], _ => rfl
  have kb22 : ∀ (s : Shared) (us : List Value), us.length = 2 → BindsTo s (PySem.W.fnOf "_law_bent" "_law_bent" (defArgs (top 30)) (defBody (top 30)) (defScope (top 30)) .none kV22 dc22 pm22 an22 cd22 ct22) ⟨[], (["draw", "chapter"] : List Str).zip us⟩ ((["draw", "chapter"] : List Str).zip us) := fun s us hl => match us, hl with | [_, _], _ => .of_eq rfl
  have U23 := fun_mk (st := top 33) l23 c23 k23
  have bb23 := U23.binds (ps := ["chapter"]) fun _ _ _ _ _ _ us hl => match us, hl with | [_], _ => rfl
  have kb23 : ∀ (s : Shared) (us : List Value), us.length = 1 → BindsTo s (PySem.W.fnOf "_law_beginnings_right" "_law_beginnings_right" (defArgs (top 33)) (defBody (top 33)) (defScope (top 33)) .none kV23 dc23 pm23 an23 cd23 ct23) ⟨[], (["chapter"] : List Str).zip us⟩ ((["chapter"] : List Str).zip us) := fun s us hl => match us, hl with | [_], _ => .of_eq rfl
  have U24 := fun_mk (st := top 20) l24 c24 k24
  have bb24 := U24.binds (ps := ["script"]) fun _ _ _ _ _ _ us hl => match us, hl with | [_], _ => rfl
  have U25 := fun_mk (st := top 34) l25 c25 k25
  have bb25 := U25.binds (ps := ["script"]) fun _ _ _ _ _ _ us hl => match us, hl with | [_], _ => rfl
  refine ⟨_, fun s v => .of_eq (fd := PySem.W.fnOf "law" "law" (defArgs (top 34)) (defBody (top 34)) (defScope (top 34)) .none kV25 dc25 pm25 an25 cd25 ct25) rfl, fun base hb1 hb2 => ?_⟩
  have D_is_id : Dn l.prog w K mg base 1 "is_id" ["value"] F_is_id := dn_mk U1 (PySem.W.mg_of X G a1) bb1 kb1 fun dr => ok_is_id T C SY  U1 dr
  have D_sort_of : Dn l.prog w K mg base 1 "sort_of" ["kind"] F_sort_of := dn_mk U2 (PySem.W.mg_of X G a2) bb2 kb2 fun dr => ok_sort_of T C SY  U2 dr
  have D_first_misplaced : Dn l.prog w K mg base 1 "first_misplaced" ["tokens"] F_first_misplaced := dn_mk U3 (PySem.W.mg_of X G a3) bb3 kb3 fun dr => ok_first_misplaced T C SY  U3 dr
  have D_are_styles : Dn l.prog w K mg base 1 "are_styles" ["words"] F_are_styles := dn_mk U4 (PySem.W.mg_of X G a4) bb4 kb4 fun dr => ok_are_styles T C SY  U4 dr
  have D__is_plain : Dn l.prog w K mg base 1 "_is_plain" ["c"] F__is_plain := dn_mk U5 (PySem.W.mg_of X G a5) bb5 kb5 fun dr => ok__is_plain T C SY  U5 dr
  have D__law_mixed : Dn l.prog w K mg base 1 "_law_mixed" ["cell", "k"] F__law_mixed := dn_mk U6 (PySem.W.mg_of X G a6) bb6 kb6 fun dr => ok__law_mixed T C SY  U6 dr
  have D__law_first : Dn l.prog w K mg base 1 "_law_first" ["thing"] F__law_first := dn_mk U7 (PySem.W.mg_of X G a7) bb7 kb7 fun dr => ok__law_first T C SY  U7 dr
  have D__law_deep : Dn l.prog w K mg base 1 "_law_deep" ["many"] F__law_deep := dn_mk U8 (PySem.W.mg_of X G a8) bb8 kb8 fun dr => ok__law_deep T C SY  U8 dr
  have D_is_link : Dn l.prog w K mg base 2 "is_link" ["value"] F_is_link := dn_mk U9 (PySem.W.mg_of X G a9) bb9 kb9 fun dr => ok_is_link T C SY D_is_id D__is_plain U9 dr
  have D__law_next : Dn l.prog w K mg base 2 "_law_next" ["draw", "bound"] F__law_next := dn_mk U10 (PySem.W.mg_of X G a10) bb10 kb10 fun dr => ok__law_next T C SY D__law_mixed U10 dr
  have D__is_char : Dn l.prog w K mg base 3 "_is_char" ["c", "styles", "link"] F__is_char := dn_mk U11 (PySem.W.mg_of X G a11) bb11 kb11 fun dr => ok__is_char T C SY D_is_link D__is_plain D_are_styles U11 dr
  have D__law_styles : Dn l.prog w K mg base 3 "_law_styles" ["draw"] F__law_styles := dn_mk U12 (PySem.W.mg_of X G a12) bb12 kb12 fun dr => ok__law_styles T C SY D__law_next U12 dr
  have D__law_opened : DnM l.prog w K mg base 3 "_law_opened" ["draw", "kinds"] [false, true] F__law_opened := dnm_mk U13 (PySem.W.mg_of X G a13) bb13 fun dr => ok__law_opened T C SY D__law_next U13 dr
  have D__law_great : Dn l.prog w K mg base 3 "_law_great" ["draw"] F__law_great := dn_mk U14 (PySem.W.mg_of X G a14) bb14 kb14 fun dr => ok__law_great T C SY D__law_next U14 dr
  have D_is_token : Dn l.prog w K mg base 4 "is_token" ["value"] F_is_token := dn_mk U15 (PySem.W.mg_of X G a15) bb15 kb15 fun dr => ok_is_token T C SY D_is_id D__is_char D_sort_of U15 dr
  have D__law_char : Dn l.prog w K mg base 4 "_law_char" ["draw", "link"] F__law_char := dn_mk U16 (PySem.W.mg_of X G a16) bb16 kb16 fun dr => ok__law_char T C SY D__law_styles D__law_next U16 dr
  have D_count_tokens : Dn l.prog w K mg base 5 "count_tokens" ["value"] F_count_tokens := dn_mk U17 (PySem.W.mg_of X G a17) bb17 kb17 fun dr => ok_count_tokens T C SY D_is_token D_are_styles U17 dr
  have D__law_glyph : Dn l.prog w K mg base 5 "_law_glyph" ["draw", "names", "images"] F__law_glyph := dn_mk U18 (PySem.W.mg_of X G a18) bb18 kb18 fun dr => ok__law_glyph T C SY D__law_next D__law_char U18 dr
  have D__law_rough : Dn l.prog w K mg base 5 "_law_rough" ["draw"] F__law_rough := dn_mk U19 (PySem.W.mg_of X G a19) bb19 kb19 fun dr => ok__law_rough T C SY D__law_next D__law_char U19 dr
  have D_first_bad : Dn l.prog w K mg base 6 "first_bad" ["value"] F_first_bad := dn_mk U20 (PySem.W.mg_of X G a20) bb20 kb20 fun dr => ok_first_bad T C SY D_count_tokens D_first_misplaced U20 dr
  have D__law_chapter : Dn l.prog w K mg base 6 "_law_chapter" ["draw", "most", "names", "images"] F__law_chapter := dn_mk U21 (PySem.W.mg_of X G a21) bb21 kb21 fun dr => ok__law_chapter T C SY D__law_next D__law_glyph D__law_opened U21 dr
  have D__law_bent : Dn l.prog w K mg base 6 "_law_bent" ["draw", "chapter"] F__law_bent := dn_mk U22 (PySem.W.mg_of X G a22) bb22 kb22 fun dr => ok__law_bent T C SY D__law_next D__law_rough U22 dr
  have D__law_beginnings_right : Dn l.prog w K mg base 7 "_law_beginnings_right" ["chapter"] F__law_beginnings_right := dn_mk U23 (PySem.W.mg_of X G a23) bb23 kb23 fun dr => ok__law_beginnings_right T C SY D_first_bad U23 dr
  exact ok_law T C SY U24 (PySem.W.mg_of X G a24) bb24 D__law_chapter D__law_next D_first_bad D__law_beginnings_right D__law_bent D__law_great D__law_deep D__law_first U25
theorem walk {l : PySem.W.OpenLaw} {q : Program} {loose : List Str} {XP : (Str → Option Value) → Heap → Prop} {YP : World → Heap → Prop} {d : DefRec} {K : Params → PySem.W.Frag} (hn : l.most = some 63) (hdf : d.params.defaults = []) (hq : PyProof.Rows.importsNone q = true)
    (hY : ∀ (w : World) (h : Heap), YP w h → (K w.params).In h)
    (F : ∀ (w : World) (mg : Str → Option Value) (fa : Addr) (h : Heap), (K w.params).In h → h.Ns mainGlobals mg → mg d.name = some (.ref fa) →
      ∃ fd : FuncData, (∀ (s : Shared) (u : Value), BindsTo s fd ⟨[u], []⟩ [("script", u)]) ∧ ∀ base : Heap, (K w.params).In base → base.Ns mainGlobals mg → FnG l.prog w (K w.params) mg base 8 fa fd ["script"] (spLaw (K w.params))) :
    PySem.W.WalkO q loose XP YP l.row.toRowW d [] (fun f vs => PySem.call f vs) :=
  walkG1 (n := 63) (k := 8) (x := "script") (sp := fun w => spLaw (K w.params)) hn (by decide) hdf hq ⟨rfl, by decide, by decide⟩ hY F (fun _ _ a ns hl _ hS ho => ⟨a, ns, rfl, hS, hl, ho, fun _ => rfl⟩)
end K03
open PySem PySem.W PyProof.Rows
set_option maxRecDepth 100000 in
set_option maxHeartbeats 0 in
theorem PySem.Challenge.cw_bookpack_k03_whole_beginnings_of_chapter_holds : PySem.Challenge.rw_bookpack_k03_whole_beginnings_of_chapter.Holds := by
  refine K03.headT ?_
  k_fill
  haveI : DI.Nm := ⟨fun _ => ""⟩
  refine K03.walk (K := DI.kx _ 17 (fun P => DI.styO K03.RR.prog (DI.wOf P) K03.STX)) (l := PySem.Challenge.rw_bookpack_k03_whole_beginnings_of_chapter) rfl rfl (by first | rfl | decide +kernel) (fun w h Y => DI.kx_in (PySem.W.kIn_of Y.1) (by rw [DI.styO_w]; exact Y.2)) ?F
  case F =>
    intro w mg fa h KX G hmg
    refine' K03.all_mk KX G hmg   ?a1 ?l1 ?c1 ?k1 ?a2 ?l2 ?c2 ?k2 ?a3 ?l3 ?c3 ?k3 ?a4 ?l4 ?c4 ?k4 ?a5 ?l5 ?c5 ?k5 ?a6 ?l6 ?c6 ?k6 ?a7 ?l7 ?c7 ?k7 ?a8 ?l8 ?c8 ?k8 ?a9 ?l9 ?c9 ?k9 ?a10 ?l10 ?c10 ?k10 ?a11 ?l11 ?c11 ?k11 ?a12 ?l12 ?c12 ?k12 ?a13 ?l13 ?c13 ?k13 ?a14 ?l14 ?c14 ?k14 ?a15 ?l15 ?c15 ?k15 ?a16 ?l16 ?c16 ?k16 ?a17 ?l17 ?c17 ?k17 ?a18 ?l18 ?c18 ?k18 ?a19 ?l19 ?c19 ?k19 ?a20 ?l20 ?c20 ?k20 ?a21 ?l21 ?c21 ?k21 ?a22 ?l22 ?c22 ?k22 ?a23 ?l23 ?c23 ?k23 ?a24 ?l24 ?c24 ?k24 ?a25 ?l25 ?c25 ?k25 ?b_all ?b_isinstance ?b_str ?b_len ?b_tuple ?b_enumerate ?b_ord ?b_int ?b_range ?b_min ?b_repr ?b_list ?l_BOX_KINDS ?a_BOX_KINDS ?l_LINE_KINDS ?a_LINE_KINDS ?a_MOST_OPEN ?a_MOST_TOKENS ?a_LETTERS ?a_LETTERS_AND_DIGITS ?a_PERCENT ?a_sy ?l_sy ?l_z0 ?l_z1 ?l_z2 ?l_z3 ?l_z4 ?l_z5 ?l_z6 ?l_z7
    (case l_sy => exact (DI.kx_lk (by first | rfl | decide +kernel)).trans (congrArg some (DI.styO_w _ w _)))
    (case a1 => refine (DI.kx_ext _).ns ?_; k_is)
    (case l1 => refine (DI.kx_ext _).lk ?_; k_is)
    (case c1 => refine (DI.kx_ext _).code ?_; k_is)
    (case k1 => refine (DI.kx_ext _).keep ?_; k_is)
    (case a2 => refine (DI.kx_ext _).ns ?_; k_is)
    (case l2 => refine (DI.kx_ext _).lk ?_; k_is)
    (case c2 => refine (DI.kx_ext _).code ?_; k_is)
    (case k2 => refine (DI.kx_ext _).keep ?_; k_is)
    (case a3 => refine (DI.kx_ext _).ns ?_; k_is)
    (case l3 => refine (DI.kx_ext _).lk ?_; k_is)
    (case c3 => refine (DI.kx_ext _).code ?_; k_is)
    (case k3 => refine (DI.kx_ext _).keep ?_; k_is)
    (case a4 => refine (DI.kx_ext _).ns ?_; k_is)
    (case l4 => refine (DI.kx_ext _).lk ?_; k_is)
    (case c4 => refine (DI.kx_ext _).code ?_; k_is)
    (case k4 => refine (DI.kx_ext _).keep ?_; k_is)
    (case a5 => refine (DI.kx_ext _).ns ?_; k_is)
    (case l5 => refine (DI.kx_ext _).lk ?_; k_is)
    (case c5 => refine (DI.kx_ext _).code ?_; k_is)
    (case k5 => refine (DI.kx_ext _).keep ?_; k_is)
    (case a6 => refine (DI.kx_ext _).ns ?_; k_is)
    (case l6 => refine (DI.kx_ext _).lk ?_; k_is)
    (case c6 => refine (DI.kx_ext _).code ?_; k_is)
    (case k6 => refine (DI.kx_ext _).keep ?_; k_is)
    (case a7 => refine (DI.kx_ext _).ns ?_; k_is)
    (case l7 => refine (DI.kx_ext _).lk ?_; k_is)
    (case c7 => refine (DI.kx_ext _).code ?_; k_is)
    (case k7 => refine (DI.kx_ext _).keep ?_; k_is)
    (case a8 => refine (DI.kx_ext _).ns ?_; k_is)
    (case l8 => refine (DI.kx_ext _).lk ?_; k_is)
    (case c8 => refine (DI.kx_ext _).code ?_; k_is)
    (case k8 => refine (DI.kx_ext _).keep ?_; k_is)
    (case a9 => refine (DI.kx_ext _).ns ?_; k_is)
    (case l9 => refine (DI.kx_ext _).lk ?_; k_is)
    (case c9 => refine (DI.kx_ext _).code ?_; k_is)
    (case k9 => refine (DI.kx_ext _).keep ?_; k_is)
    (case a10 => refine (DI.kx_ext _).ns ?_; k_is)
    (case l10 => refine (DI.kx_ext _).lk ?_; k_is)
    (case c10 => refine (DI.kx_ext _).code ?_; k_is)
    (case k10 => refine (DI.kx_ext _).keep ?_; k_is)
    (case a11 => refine (DI.kx_ext _).ns ?_; k_is)
    (case l11 => refine (DI.kx_ext _).lk ?_; k_is)
    (case c11 => refine (DI.kx_ext _).code ?_; k_is)
    (case k11 => refine (DI.kx_ext _).keep ?_; k_is)
    (case a12 => refine (DI.kx_ext _).ns ?_; k_is)
    (case l12 => refine (DI.kx_ext _).lk ?_; k_is)
    (case c12 => refine (DI.kx_ext _).code ?_; k_is)
    (case k12 => refine (DI.kx_ext _).keep ?_; k_is)
    (case a13 => refine (DI.kx_ext _).ns ?_; k_is)
    (case l13 => refine (DI.kx_ext _).lk ?_; k_is)
    (case c13 => refine (DI.kx_ext _).code ?_; k_is)
    (case k13 => refine (DI.kx_ext _).keep ?_; k_is)
    (case a14 => refine (DI.kx_ext _).ns ?_; k_is)
    (case l14 => refine (DI.kx_ext _).lk ?_; k_is)
    (case c14 => refine (DI.kx_ext _).code ?_; k_is)
    (case k14 => refine (DI.kx_ext _).keep ?_; k_is)
    (case a15 => refine (DI.kx_ext _).ns ?_; k_is)
    (case l15 => refine (DI.kx_ext _).lk ?_; k_is)
    (case c15 => refine (DI.kx_ext _).code ?_; k_is)
    (case k15 => refine (DI.kx_ext _).keep ?_; k_is)
    (case a16 => refine (DI.kx_ext _).ns ?_; k_is)
    (case l16 => refine (DI.kx_ext _).lk ?_; k_is)
    (case c16 => refine (DI.kx_ext _).code ?_; k_is)
    (case k16 => refine (DI.kx_ext _).keep ?_; k_is)
    (case a17 => refine (DI.kx_ext _).ns ?_; k_is)
    (case l17 => refine (DI.kx_ext _).lk ?_; k_is)
    (case c17 => refine (DI.kx_ext _).code ?_; k_is)
    (case k17 => refine (DI.kx_ext _).keep ?_; k_is)
    (case a18 => refine (DI.kx_ext _).ns ?_; k_is)
    (case l18 => refine (DI.kx_ext _).lk ?_; k_is)
    (case c18 => refine (DI.kx_ext _).code ?_; k_is)
    (case k18 => refine (DI.kx_ext _).keep ?_; k_is)
    (case a19 => refine (DI.kx_ext _).ns ?_; k_is)
    (case l19 => refine (DI.kx_ext _).lk ?_; k_is)
    (case c19 => refine (DI.kx_ext _).code ?_; k_is)
    (case k19 => refine (DI.kx_ext _).keep ?_; k_is)
    (case a20 => refine (DI.kx_ext _).ns ?_; k_is)
    (case l20 => refine (DI.kx_ext _).lk ?_; k_is)
    (case c20 => refine (DI.kx_ext _).code ?_; k_is)
    (case k20 => refine (DI.kx_ext _).keep ?_; k_is)
    (case a21 => refine (DI.kx_ext _).ns ?_; k_is)
    (case l21 => refine (DI.kx_ext _).lk ?_; k_is)
    (case c21 => refine (DI.kx_ext _).code ?_; k_is)
    (case k21 => refine (DI.kx_ext _).keep ?_; k_is)
    (case a22 => refine (DI.kx_ext _).ns ?_; k_is)
    (case l22 => refine (DI.kx_ext _).lk ?_; k_is)
    (case c22 => refine (DI.kx_ext _).code ?_; k_is)
    (case k22 => refine (DI.kx_ext _).keep ?_; k_is)
    (case a23 => refine (DI.kx_ext _).ns ?_; k_is)
    (case l23 => refine (DI.kx_ext _).lk ?_; k_is)
    (case c23 => refine (DI.kx_ext _).code ?_; k_is)
    (case k23 => refine (DI.kx_ext _).keep ?_; k_is)
    (case a24 => refine (DI.kx_ext _).ns ?_; k_is)
    (case l24 => refine (DI.kx_ext _).lk ?_; k_is)
    (case c24 => refine (DI.kx_ext _).code ?_; k_is)
    (case k24 => refine (DI.kx_ext _).keep ?_; k_is)
    (case a25 => refine (DI.kx_ext _).ns ?_; k_is)
    (case l25 => refine (DI.kx_ext _).lk ?_; k_is)
    (case c25 => refine (DI.kx_ext _).code ?_; k_is)
    (case k25 => refine (DI.kx_ext _).keep ?_; k_is)
    (case b_all => refine (DI.kx_ext _).ns ?_; k_is)
    (case b_isinstance => refine (DI.kx_ext _).ns ?_; k_is)
    (case b_str => refine (DI.kx_ext _).ns ?_; k_is)
    (case b_len => refine (DI.kx_ext _).ns ?_; k_is)
    (case b_tuple => refine (DI.kx_ext _).ns ?_; k_is)
    (case b_enumerate => refine (DI.kx_ext _).ns ?_; k_is)
    (case b_ord => refine (DI.kx_ext _).ns ?_; k_is)
    (case b_int => refine (DI.kx_ext _).ns ?_; k_is)
    (case b_range => refine (DI.kx_ext _).ns ?_; k_is)
    (case b_min => refine (DI.kx_ext _).ns ?_; k_is)
    (case b_repr => refine (DI.kx_ext _).ns ?_; k_is)
    (case b_list => refine (DI.kx_ext _).ns ?_; k_is)
    (case l_z7 => refine (DI.kx_ext _).lk ?_; k_is)
    (case l_z6 => refine (DI.kx_ext _).lk ?_; k_is)
    (case l_z5 => refine (DI.kx_ext _).lk ?_; k_is)
    (case l_z4 => refine (DI.kx_ext _).lk ?_; k_is)
    (case l_z3 => refine (DI.kx_ext _).lk ?_; k_is)
    (case l_z2 => refine (DI.kx_ext _).lk ?_; k_is)
    (case l_z1 => refine (DI.kx_ext _).lk ?_; k_is)
    (case l_z0 => refine (DI.kx_ext _).lk ?_; k_is)
    (case a_sy => refine (DI.kx_ext _).ns ?_; k_is)
    (case a_PERCENT => refine (DI.kx_ext _).ns ?_; k_is)
    (case a_LETTERS_AND_DIGITS => refine (DI.kx_ext _).ns ?_; k_is)
    (case a_LETTERS => refine (DI.kx_ext _).ns ?_; k_is)
    (case a_MOST_TOKENS => refine (DI.kx_ext _).ns ?_; k_is)
    (case a_MOST_OPEN => refine (DI.kx_ext _).ns ?_; k_is)
    (case a_LINE_KINDS => refine (DI.kx_ext _).ns ?_; k_is)
    (case l_LINE_KINDS => refine (DI.kx_ext _).lk ?_; k_is)
    (case a_BOX_KINDS => refine (DI.kx_ext _).ns ?_; k_is)
    (case l_BOX_KINDS => refine (DI.kx_ext _).lk ?_; k_is)
